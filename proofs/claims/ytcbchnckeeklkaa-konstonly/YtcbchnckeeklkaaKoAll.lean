/-
  The contracts of konst.allSizes and konst.Is. No conditions beyond those stated.
-/
import Derived.Test.YtcbchnckeeklkaaKoSize
namespace Go.Proofs.Ytcbchnckeeklkaa
open Go.RowKit

set_option maxHeartbeats 800000 in
/-- konst.allSizes. -/
theorem allSizesK_any (w : World) : Calls Try.prog 21 #[] w fun e w' => ∃ p c, e = .returned (.slice p 107 c) ∧ Row w' (.slice p 107 c) (Ko.szTo 56) ∧ Lo w w' := by
  have HZ := Lib.hid (fun W => sizer_any W)
  have HC := Lib.hid (fun k B W h => sizer1_any k B W h)
  go_enter Try.func21, Try.ntmps21
  go_wp2_with fail
  refine (HZ.out _).mono ?_
  rintro e w1 ⟨B, rfl, hs, lo⟩
  have HS := Lib.hid hs
  have HL := Lib.hid lo
  clear hs lo HZ
  go_wp2_with fail
  go_loopw [2, 5] (fun v i W => ∃ (k : Nat) (p : Option Addr) (c : Nat), k ≤ 56 ∧ i = .int .i64 k ∧ v = .slice p (Ko.szTo k).length c ∧ Hid (Own W w1.heap.size (.slice p (Ko.szTo k).length c) (Ko.szTo k)) ∧ Hid (Lo w1 W)) (fun _ i _ => 56 - (intOf i).toNat)
  case atStart => exact ⟨0, none, 0, by omega, rfl, rfl, Lib.hid (Own.none _ _), Lib.hid (Lo.refl _)⟩
  case round =>
    obtain ⟨k, p, c, hk, rfl, rfl, HO, HL1⟩ := hrel
    by_cases hlt : k < 56
    · have HCk := Lib.hid (fun W h => HC.out k B W h)
      have HRw := Lib.hid ((HS.out.lo HL1.out).row k)
      have HN : Hid ((Ko.szTo (k + 1)) = Ko.szTo k ++ Ko.szK k) := Lib.hid rfl
      have HB : Hid ((Ko.szTo k).length + (Ko.szK k).length ≤ 1000000) := Lib.hid (by have := (Ko.sz_at (show k ≤ 56 by omega)).2; rcases Ko.szK_len k with h | h <;> omega)
      have HE : Hid ((Ko.szTo (k + 1)).length = (Ko.szTo k).length + (Ko.szK k).length) := Lib.hid (by rw [HN.out, List.length_append])
      generalize hsz : Ko.szK k = sz at *
      generalize hn : sz.length = n at *
      generalize hm : (Ko.szTo k).length = m at *
      have HM := Lib.hid hm
      have HNn := Lib.hid hn
      clear hn hm hsz
      go_wp2_with fail
      refine (HCk.out _ (HS.out.lo HL1.out)).mono ?_
      rintro e w2 ⟨rfl, rfl⟩
      go_wp2_with (at_builtin; refine wpList_app _ rfl (.tmp 8) (.tmp 11) rfl w1.heap.size _ (Ko.szTo k) rfl HO.out _ sz rfl HRw.out (by rw [HM.out, HNn.out]; exact HB.out) HL1.out.size ?_; intro q c2 w2 hown hlo; have HO2 := Lib.hid hown; have HL2 := Lib.hid (hlo w1 HL1.out rfl); clear hown hlo; rw [HM.out, HNn.out, ← HN.out, ← HE.out] at HO2; rw [HM.out, HNn.out, ← HE.out])
      go_roundw
      case rel => exact ⟨k + 1, q, c2, by omega, by go_num, rfl, HO2, HL2⟩
      case measure => simp [intOf]; omega
    · obtain rfl : k = 56 := by omega
      rw [Ko.sz_len] at *
      go_wp2_with fail
      go_ret
      exact ⟨_, _, rfl, HO.out.row, HL.out.trans HL1.out⟩

set_option maxHeartbeats 800000 in
/-- konst.Is. -/
theorem kis_any (v : Value) (l : List Int) (w : World) (h : Row w v l) :
    Calls Try.prog 18 #[v] w fun e w' => e = .returned (.bool (Ko.isK l)) ∧ Lo w w' := by
  obtain ⟨p, c, rfl, hlen⟩ := h.form
  by_cases h56 : l.length = 56
  · have HZ := Lib.hid (fun W => sizer_any W)
    have HC := Lib.hid (fun k B W h => sizer1_any k B W h)
    have HF := Lib.hid (fun n k W => kfits_any n k W)
    have HR := Lib.hid h
    rw [h56] at HR ⊢
    have HNo := Lib.hid (fun k (hk : k < 56) => @Ko.isK_no l k hk)
    have HYes := Lib.hid (@Ko.isK_yes l h56)
    generalize Ko.isK l = y at *
    clear h h56 hlen
    go_enter Try.func18, Try.ntmps18
    go_wp2_with fail
    refine (HZ.out _).mono ?_
    rintro e w1 ⟨B, rfl, hs, lo⟩
    have HS := Lib.hid hs
    have HL := Lib.hid lo
    have HR1 := Lib.hid (HR.out.lo lo)
    clear hs lo HZ HR
    go_wp2_with fail
    go_loop [12] (fun i => ∃ k : Nat, k ≤ 56 ∧ i = .int .i64 k ∧ Hid (∀ j, j < k → Bn.fits (l.getD j 0) (Ko.size j) = true)) (fun i => 56 - (intOf i).toNat)
    case atStart => exact ⟨0, by omega, rfl, Lib.hid (fun j hj => absurd hj (Nat.not_lt_zero _))⟩
    case round =>
      obtain ⟨k, hk, rfl, HI⟩ := hrel
      by_cases hlt : k < 56
      · obtain ⟨b, off, rfl, hcell⟩ := HR1.out.at_ hlt
        have HCk := Lib.hid (HC.out k B w1 HS.out)
        have hfirst := HS.out.first k
        have hpos : 0 < (Ko.szK k).length := by rcases Ko.szK_len k with h | h <;> omega
        have HFk := Lib.hid (HF.out (l.getD k 0) k w1)
        have HNk := Lib.hid (HNo.out k hlt)
        have HIk : Hid (Bn.fits (l.getD k 0) (Ko.size k) = true → ∀ j, j < k + 1 → Bn.fits (l.getD j 0) (Ko.size j) = true) := Lib.hid (by
          intro hf j hj
          rcases Nat.lt_or_ge j k with hl | hl
          · exact HI.out j hl
          · obtain rfl : j = k := by omega
            exact hf)
        generalize szB B k = sb at *
        generalize (Ko.szK k).length = n at *
        cases hb : Bn.fits (l.getD k 0) (Ko.size k) with
        | false =>
          have HE := Lib.hid (HNk.out hb)
          rw [hb] at HFk
          generalize l.getD k 0 = x at *
          generalize Ko.size k = z at *
          clear hb HIk HNk HI HYes HNo
          go_wp2_with fail
          refine HCk.out.mono ?_
          rintro e w2 ⟨rfl, rfl⟩
          go_wp2_with fail
          refine HFk.out.mono ?_
          rintro e w2 ⟨rfl, rfl⟩
          go_wp2_with fail
          go_ret
          exact ⟨ret_bool HE.out.symm, HL.out⟩
        | true =>
          have HI2 := Lib.hid (HIk.out hb)
          rw [hb] at HFk
          generalize hx : l.getD k 0 = x at *
          generalize hz : Ko.size k = z at *
          clear hx hz
          clear hb HIk HNk HI
          go_wp2_with fail
          refine HCk.out.mono ?_
          rintro e w2 ⟨rfl, rfl⟩
          go_wp2_with fail
          refine HFk.out.mono ?_
          rintro e w2 ⟨rfl, rfl⟩
          go_wp2_with fail
          go_round
          case rel => exact ⟨k + 1, by omega, by go_num, HI2⟩
          case measure => simp [intOf]; omega
      · obtain rfl : k = 56 := by omega
        have HE := Lib.hid (HYes.out HI.out)
        go_wp2_with fail
        go_ret
        exact ⟨ret_bool HE.out.symm, HL.out⟩
  · rw [Ko.isK_short h56]
    have hne : ((l.length : Int) == 56) = false := by simp; omega
    generalize l.length = n at *
    clear h h56
    go_enter Try.func18, Try.ntmps18
    go_wp2_with fail
    go_ret
    exact ⟨rfl, Lo.refl _⟩
end Go.Proofs.Ytcbchnckeeklkaa
