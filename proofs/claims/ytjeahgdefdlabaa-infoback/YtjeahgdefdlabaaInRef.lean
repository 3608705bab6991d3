/-
  Contracts of the document's answers for layer 14: Glyphs, Is, Find, Same (of rows that are alike). No conditions beyond those stated.
-/
import Derived.Test.YtjeahgdefdlabaaInBase
import Derived.Test.YtjeahgdefdlabaaCoRef
import Derived.Test.YtjeahgdefdlabaaBnRefW
namespace Go.Proofs.Ytjeahgdefdlabaa
open Go.RowKit

set_option maxHeartbeats 1600000 in
theorem rglyphs14_any (v : Value) (l : List Ino.Pair) (w : World) (h : PRow w v l) (hlen : l.length ≤ 100000) :
    Calls Try.prog 26 #[v] w fun e w' => ∃ p c, e = .returned (.slice p l.length c) ∧ Row w' (.slice p l.length c) (Ino.glyphs l) ∧ Lo w w' := by
  obtain ⟨pu, cu, rfl, _⟩ := RowK.form h
  have HR := Lib.hid h
  generalize hn : l.length = n at *
  have HN := Lib.hid hn
  clear hn h
  go_enter Try.func26, Try.ntmps26
  go_wp2_with fail
  go_loopw [3, 4] (fun s i W => ∃ (k : Nat) (p : Option Addr) (c : Nat), k ≤ n ∧ i = .int .i64 k ∧ s = .slice p k c ∧ Hid (Own W w.heap.size (.slice p k c) (Ino.glyphs (l.take k))) ∧ Hid (Lo w W)) (fun _ i _ => n - (intOf i).toNat)
  case atStart => exact ⟨0, none, 0, Nat.zero_le _, rfl, rfl, Lib.hid (Own.none _ _), Lib.hid (Lo.refl _)⟩
  case round =>
    obtain ⟨k, p, c, hk, rfl, rfl, HO1, HL1⟩ := hrel
    by_cases hlt : k < n
    · have hk' : k < l.length := by rw [HN.out]; exact hlt
      have HT := Lib.hid (Ino.glyphs_snoc hk')
      obtain ⟨b, off, rfl, c1, c2⟩ := PRow.at2 (RowK.lo HR.out HL1.out) (Ino.getD_some hk')
      have HTL : Hid ((Ino.glyphs (l.take k)).length = k) := Lib.hid (by rw [Ino.glyphs_len, List.length_take]; omega)
      clear hk'
      generalize l.getD k Ino.zp = x at *
      obtain ⟨g, z⟩ := x
      dsimp only at c1 c2 HT
      go_wp2_with (at_builtin; refine wpList_app _ rfl (.tmp 11) (.tmp 17) rfl w.heap.size (.slice p k c) _ rfl (Own.lo HO1.out ((Lo.refl _).alloc _)) _ [g] rfl (row1 _ _ (by simp) g) (by rw [HTL.out]; simp; omega) (by have := HL1.out.size; simp; omega) ?_; intro q1 c1 w3 hown hlo; have HO3 := Lib.hid hown; have HL3 := Lib.hid (hlo w (HL1.out.alloc _) rfl); clear hown hlo; rw [HTL.out] at HO3 ⊢)
      go_roundw
      case rel => exact ⟨k + 1, q1, c1, by omega, by go_num, rfl, Lib.hid (by rw [HT.out]; exact HO3.out), HL3⟩
      case measure => simp [intOf]; omega
    · obtain rfl : k = n := by omega
      have HO2 := HO1
      rw [List.take_of_length_le (by rw [HN.out]; exact Nat.le_refl _)] at HO2
      go_wp2_with fail
      go_ret
      exact ⟨p, c, rfl, Own.row HO2.out, HL1.out⟩

set_option maxHeartbeats 1600000 in
theorem ris14_any (v : Value) (l : List Ino.Pair) (w : World) (h : PRow w v l) (hlen : l.length ≤ 100000) :
    Calls Try.prog 15 #[v] w fun e w' => e = .returned (.bool (Ino.isP l)) ∧ Lo w w' := by
  have HG := Lib.hid (fun W h => rglyphs14_any v l W h hlen)
  have HC := Lib.hid (fun u W h => ris12_any u (Ino.glyphs l) W h (by rw [Ino.glyphs_len]; omega))
  have HFi := Lib.hid (fun z W => rfits_any z (-2) W (by decide))
  obtain ⟨pu, cu, rfl, _⟩ := RowK.form h
  have HR := Lib.hid h
  have HB := Lib.hid (fun k hk hf => @Ino.is_bad l k hk hf)
  have HA := Lib.hid (fun k => @Ino.is_all l k)
  generalize Ino.isP l = y at *
  generalize Co.isCov (Ino.glyphs l) = yc at *
  generalize hn : l.length = n at *
  have HN := Lib.hid hn
  clear hn h
  go_enter Try.func15, Try.ntmps15
  go_wp2_with fail
  go_loopw [3] (fun i W => ∃ (k : Nat), k ≤ n ∧ i = .int .i64 k ∧ Hid (∀ i, i < k → Bn.fits (l.getD i Ino.zp).2 (-2) = true) ∧ Hid (Lo w W)) (fun i _ => n - (intOf i).toNat)
  case atStart => exact ⟨0, Nat.zero_le _, rfl, Lib.hid (fun i h => by omega), Lib.hid (Lo.refl _)⟩
  case round =>
    obtain ⟨k, hk, rfl, HI, HL1⟩ := hrel
    by_cases hlt : k < n
    · have hk' : k < l.length := by rw [HN.out]; exact hlt
      obtain ⟨b, off, rfl, c1, c2⟩ := PRow.at2 (RowK.lo HR.out HL1.out) (Ino.getD_some hk')
      have HS : Hid (Bn.fits (l.getD k Ino.zp).2 (-2) = true → ∀ i, i < k + 1 → Bn.fits (l.getD i Ino.zp).2 (-2) = true) := Lib.hid (fun h i hi => by
        rcases Nat.lt_or_ge i k with h1 | h1
        · exact HI.out i h1
        · obtain rfl : i = k := by omega
          exact h)
      have HBk := Lib.hid (HB.out k hlt)
      clear hk'
      generalize l.getD k Ino.zp = x at *
      obtain ⟨g, z⟩ := x
      dsimp only at c1 c2 HS HBk
      have HFk := Lib.hid (fun W => HFi.out z W)
      cases hf : Bn.fits z (-2) with
      | false =>
        have HF : Hid (y = false) := Lib.hid (HBk.out hf)
        rw [hf] at HFk
        clear HS HBk hf
        go_wp2_with fail
        refine (HFk.out _).mono ?_
        rintro e w1 ⟨rfl, rfl⟩
        go_wp2_with fail
        go_ret
        exact ⟨ret_bool HF.out.symm, HL1.out⟩
      | true =>
        have HI2 := Lib.hid (HS.out hf)
        rw [hf] at HFk
        clear HS HBk hf
        go_wp2_with fail
        refine (HFk.out _).mono ?_
        rintro e w1 ⟨rfl, rfl⟩
        go_wp2_with fail
        go_roundw
        case rel => exact ⟨k + 1, by omega, by go_num, HI2, HL1⟩
        case measure => simp [intOf]; omega
    · obtain rfl : k = n := by omega
      have HF : Hid (y = yc) := Lib.hid (HA.out HI.out)
      go_wp2_with fail
      refine (HG.out _ (RowK.lo HR.out HL1.out)).mono ?_
      rintro e w1 ⟨p1, c1, rfl, hrow, lo⟩
      have HL2 := Lib.hid (HL1.out.trans lo)
      have HR2 := Lib.hid hrow
      clear hrow lo
      go_wp2_with fail
      refine (HC.out _ _ HR2.out).mono ?_
      rintro e w2 ⟨rfl, lo⟩
      have HL3 := Lib.hid (HL2.out.trans lo)
      clear lo
      go_wp2_with fail
      go_ret
      exact ⟨ret_bool HF.out.symm, HL3.out⟩

set_option maxHeartbeats 800000 in
theorem rfind14_any (v : Value) (l : List Ino.Pair) (g : Int) (w : World) (h : PRow w v l) (hlen : l.length ≤ 100000) :
    Calls Try.prog 11 #[v, .int .i64 g] w fun e w' => e = .returned (.tuple #[.int .i64 (Ino.find l g).1, .bool (Ino.find l g).2]) ∧ Lo w w' := by
  have HI := Lib.hid (ris14_any v l w h hlen)
  obtain ⟨p, c, rfl, _⟩ := RowK.form h
  cases hc : Ino.isP l with
  | false =>
    rw [Ino.find_bad hc]
    rw [hc] at HI
    clear h hc
    go_enter Try.func11, Try.ntmps11
    go_wp2_with fail
    refine HI.out.mono ?_
    rintro e w1 ⟨rfl, lo⟩
    have HL := Lib.hid lo
    clear lo
    go_wp2_with fail
    go_ret2
    exact ⟨rfl, HL.out⟩
  | true =>
    rw [hc] at HI
    have HR := Lib.hid h
    have HF := Lib.hid (fun (i : Nat) (hi : i < l.length) (he : (l.getD i Ino.zp).1 = g) => Ino.find_idx hc hi he)
    have HO := Lib.hid (fun (k : ∀ i, i < l.length → (l.getD i Ino.zp).1 ≠ g) => Ino.find_out k)
    have HGe := Lib.hid (fun k (hk : k < l.length) => Ino.getD_some hk)
    generalize Ino.find l g = ans at *
    generalize l.length = n at *
    clear h hc
    go_enter Try.func11, Try.ntmps11
    go_wp2_with fail
    refine HI.out.mono ?_
    rintro e w1 ⟨rfl, lo⟩
    have HL := Lib.hid lo
    clear lo
    go_wp2_with fail
    go_loopw [6] (fun i W => ∃ k : Nat, k ≤ n ∧ i = .int .i64 k ∧ Hid (∀ i, i < k → (l.getD i Ino.zp).1 ≠ g) ∧ Hid (Lo w W)) (fun i _ => n - (intOf i).toNat)
    case atStart => exact ⟨0, Nat.zero_le _, rfl, Lib.hid (fun i h => by omega), HL⟩
    case round =>
      obtain ⟨k, hk, rfl, HNo, HL1⟩ := hrel
      by_cases hlt : k < n
      · obtain ⟨b, off, rfl, c1, c2⟩ := PRow.at2 (RowK.lo HR.out HL1.out) (HGe.out k hlt)
        have HF1 := Lib.hid (HF.out k hlt)
        have HS : Hid ((l.getD k Ino.zp).1 ≠ g → ∀ i, i < k + 1 → (l.getD i Ino.zp).1 ≠ g) := Lib.hid (fun h i hi => by
          rcases Nat.lt_or_ge i k with h1 | h1
          · exact HNo.out i h1
          · obtain rfl : i = k := by omega
            exact h)
        generalize l.getD k Ino.zp = x at *
        obtain ⟨y, z⟩ := x
        dsimp only at c1 c2 HF1 HS
        by_cases hx : y = g
        · have hb : (y == g) = true := by simpa using hx
          have HA := Lib.hid (HF1.out hx)
          clear hx HS HF1
          go_wp2_with fail
          go_ret2
          rw [HA.out]
          exact ⟨rfl, HL1.out⟩
        · have hb : (y == g) = false := by simpa using hx
          have HS1 := Lib.hid (HS.out hx)
          clear hx HS HF1
          go_wp2_with fail
          go_roundw
          case rel => exact ⟨k + 1, by omega, by go_num, HS1, HL1⟩
          case measure => simp [intOf]; omega
      · obtain rfl : k = n := by omega
        have HA := Lib.hid (HO.out HNo.out)
        go_wp2_with fail
        go_ret2
        rw [HA.out]
        exact ⟨rfl, HL1.out⟩

set_option maxHeartbeats 1600000 in
theorem psame_any (l : List Ino.Pair) (v u : Value) (w : World) (h : PRow w v l) (h2 : PRow w u l) : Calls Try.prog 13 #[v, u] w fun e w' => e = .returned (.bool true) ∧ Lo w w' := by
  obtain ⟨p, c, rfl, hlen⟩ := RowK.form h
  obtain ⟨p2, c2, rfl, _⟩ := RowK.form h2
  have HR := Lib.hid h
  have HR2 := Lib.hid h2
  generalize hn : l.length = n at *
  have HN := Lib.hid hn
  clear hn h h2
  go_enter Try.func13, Try.ntmps13
  go_wp2_with fail
  go_loopw [5] (fun i W => ∃ k : Nat, k ≤ n ∧ i = .int .i64 k ∧ Hid (Lo w W)) (fun i _ => n - (intOf i).toNat)
  case atStart => exact ⟨0, Nat.zero_le _, rfl, Lib.hid (Lo.refl _)⟩
  case round =>
    obtain ⟨k, hk, rfl, HL⟩ := hrel
    by_cases hlt : k < n
    · have hx : l[k]? = some (l.getD k Ino.zp) := Ino.getD_some (by rw [HN.out]; exact hlt)
      obtain ⟨b, off, rfl, hc1, hc2⟩ := PRow.at2 (RowK.lo HR.out HL.out) hx
      obtain ⟨b2, off2, rfl, hc3, hc4⟩ := PRow.at2 (RowK.lo HR2.out HL.out) hx
      clear hx
      generalize l.getD k Ino.zp = x at *
      go_wp2_with fail
      go_quiet (fail)
      have HL2 := Lib.hid (HL.out.drewN nq)
      go_wp2_with fail
      go_roundw
      case rel => exact ⟨k + 1, by omega, by go_num, HL2⟩
      case measure => simp [intOf]; omega
    · go_wp2_with fail
      go_ret
      exact ⟨rfl, HL.out⟩
end Go.Proofs.Ytjeahgdefdlabaa
