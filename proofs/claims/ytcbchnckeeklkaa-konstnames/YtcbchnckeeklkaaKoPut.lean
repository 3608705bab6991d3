/-
  The contract of konst.Put: it answers what the plain function says. No conditions beyond those stated.
-/
import Derived.Test.YtcbchnckeeklkaaKoAll
namespace Go.Proofs.Ytcbchnckeeklkaa
open Go.RowKit

set_option maxHeartbeats 800000 in
theorem kput_no (v : Value) (l : List Int) (w : World) (h : Row w v l) (hc : Ko.isK l = false) : Calls Try.prog 10 #[v] w fun e w' => e = strErr ([], 1) ∧ Lo w w' := by
  have HI := Lib.hid (kis_any v l w h)
  rw [hc] at HI
  obtain ⟨p, c, rfl, _⟩ := h.form
  unfold strErr
  clear h hc
  go_enter Try.func10, Try.ntmps10
  go_wp2_with fail
  refine HI.out.mono ?_
  rintro e w1 ⟨rfl, lo⟩
  have HL := Lib.hid lo
  clear lo
  go_wp2_with fail
  go_ret2
  exact ⟨rfl, HL.out⟩

set_option maxRecDepth 100000 in
set_option maxHeartbeats 1600000 in
theorem kput_yes (v : Value) (l : List Int) (w : World) (h : Row w v l) (hc : Ko.isK l = true) : Calls Try.prog 10 #[v] w fun e w' => e = strErr (Ko.put l) ∧ Lo w w' := by
  have h56 := Ko.isK_len hc
  have HI := Lib.hid (kis_any v l w h)
  rw [hc] at HI
  have HZ := Lib.hid (fun W => sizer_any W)
  have HC := Lib.hid (fun k B W h => sizer1_any k B W h)
  have HA := Lib.hid (fun W => allSizesK_any W)
  have HP := Lib.hid (fun W (v u : Value) (h1 : Row W v (Ko.szTo 56)) (h2 : Row W u (Ko.flTo l 56)) => put_any (Ko.szTo 56) (Ko.flTo l 56) v u W h1 h2 (by rw [Ko.sz_len]; omega))
  rw [Ko.bin_put hc] at HP
  obtain ⟨p, c, rfl, _⟩ := h.form
  have HR := Lib.hid h
  rw [h56] at HI HR ⊢
  generalize Ko.put l = y at *
  unfold strErr at *
  clear h hc h56
  go_enter Try.func10, Try.ntmps10
  go_wp2_with fail
  refine HI.out.mono ?_
  rintro e w1 ⟨rfl, lo⟩
  have HL := Lib.hid lo
  have HR1 := Lib.hid (HR.out.lo lo)
  clear lo HI HR
  go_wp2_with fail
  refine (HZ.out _).mono ?_
  rintro e w2 ⟨B, rfl, hs, lo⟩
  have HS := Lib.hid hs
  have HL2 := Lib.hid (HL.out.trans lo)
  have HR2 := Lib.hid (HR1.out.lo lo)
  clear lo hs HZ HL HR1
  go_wp2_with fail
  go_loopw [5, 14] (fun v i W => ∃ (k : Nat) (p : Option Addr) (m c : Nat), k ≤ 56 ∧ i = .int .i64 k ∧ v = .slice p m c ∧ Hid (m = Ko.idx k) ∧ Hid (Own W w2.heap.size (.slice p m c) (Ko.flTo l k)) ∧ Hid (Lo w2 W)) (fun _ i _ => 56 - (intOf i).toNat)
  case atStart => exact ⟨0, none, 0, 0, by omega, rfl, rfl, Lib.hid rfl, Lib.hid (Own.none _ _), Lib.hid (Lo.refl _)⟩
  case round =>
    obtain ⟨k, q, m, cq, hk, rfl, rfl, HM, HO, HL1⟩ := hrel
    by_cases hlt : k < 56
    · obtain ⟨b, off, rfl, hcell⟩ := (HR2.out.lo HL1.out).at_ hlt
      have HCk := Lib.hid (fun W h => HC.out k B W h)
      have hb := Ko.idx_lt hlt
      have hz := Ko.szK_len k
      have hx1 : (Ko.flTo l k).length = m := by rw [Ko.flTo_len, HM.out]
      have hx2 : (Ko.flTo l k ++ [l.getD k 0]).length = m + 1 := by rw [List.length_append, hx1]; rfl
      have HX1 := Lib.hid hx1
      have HX2 := Lib.hid hx2
      have HB1 : Hid ((Ko.flTo l k).length + [l.getD k 0].length ≤ 1000000) := Lib.hid (by rw [hx1, List.length_singleton, HM.out]; omega)
      obtain ⟨d, hd⟩ : ∃ d, (Ko.szK k).length = d + 1 := by rcases hz with h | h <;> exact ⟨_, h⟩
      have HD : Hid (Ko.flTo l (k + 1) = (Ko.flTo l k ++ [l.getD k 0]) ++ List.replicate d 0) := Lib.hid (by rw [Ko.flTo, Ko.own, hd, Nat.add_sub_cancel, List.append_assoc])
      have HB2 : Hid ((Ko.flTo l k ++ [l.getD k 0]).length + d ≤ 1000000) := Lib.hid (by rw [hx2, HM.out]; omega)
      have HM2 : Hid (m + 1 + d = Ko.idx (k + 1)) := Lib.hid (by rw [Ko.idx_step, hd, HM.out]; omega)
      rw [hd] at HCk
      have hd1 : ((d + 1 : Nat) : Int) - 1 = (d : Int) := by omega
      have hd2 : d ≤ 1 := by omega
      generalize l.getD k 0 = x at *
      clear hb hz hx1 hx2 hd
      have HX3 : Hid ((Ko.flTo l k).length + [x].length = m + 1) := Lib.hid (by rw [HX1.out]; rfl)
      go_wp2_with (at_builtin; refine wpList_app _ rfl (.tmp 19) (.tmp 21) rfl w2.heap.size _ (Ko.flTo l k) rfl (HO.out.lo ((Lo.refl _).alloc _)) _ [x] rfl (row1 wr wr.heap.size rfl x) HB1.out (Nat.le_trans HL1.out.size (by simp)) ?_; intro q2 c2 w3 hown hlo; have HO3 := Lib.hid hown; have HL3 := Lib.hid (hlo w2 (HL1.out.alloc _) rfl); clear hown hlo; rw [HX3.out] at HO3; rw [HX3.out])
      refine (HCk.out _ (HS.out.lo HL3.out)).mono ?_
      rintro e w4 ⟨rfl, rfl⟩
      go_wp2_with (at_builtin; refine wpList_noughts _ rfl (.tmp 23) (.tmp 28) rfl w2.heap.size _ (Ko.flTo l k ++ [x]) rfl HO3.out _ d rfl (by omega) HB2.out HL3.out.size ?_; intro q3 c3 w4 hown hlo; have HO4 := Lib.hid hown; have HL4 := Lib.hid (hlo w2 HL3.out rfl); clear hown hlo; rw [HX2.out, ← HD.out] at HO4; rw [HX2.out])
      go_roundw
      case rel => exact ⟨k + 1, q3, m + 1 + d, c3, by omega, by go_num, rfl, HM2, HO4, HL4⟩
      case measure => simp [intOf]; omega
    · obtain rfl : k = 56 := by omega
      have HO2 := Lib.hid HO.out.row
      go_wp2_with fail
      refine (HA.out _).mono ?_
      rintro e w3 ⟨p3, c3, rfl, hrow, lo⟩
      have HL3 := Lib.hid (HL1.out.trans lo)
      have HO3 := Lib.hid (HO2.out.lo lo)
      have HR3 := Lib.hid hrow
      clear lo hrow
      go_wp2_with fail
      refine (HP.out _ _ _ HR3.out HO3.out).mono ?_
      rintro e w4 ⟨rfl, lo⟩
      have HL4 := Lib.hid (HL3.out.trans lo)
      clear lo
      go_wp2_with fail
      go_ret2
      exact ⟨rfl, HL2.out.trans HL4.out⟩

/-- konst.Put. -/
theorem kput_any (v : Value) (l : List Int) (w : World) (h : Row w v l) : Calls Try.prog 10 #[v] w fun e w' => e = strErr (Ko.put l) ∧ Lo w w' := by
  cases hc : Ko.isK l with
  | false => rw [show Ko.put l = ([], 1) by unfold Ko.put; rw [if_pos hc]]; exact kput_no v l w h hc
  | true => exact kput_yes v l w h hc
end Go.Proofs.Ytcbchnckeeklkaa
