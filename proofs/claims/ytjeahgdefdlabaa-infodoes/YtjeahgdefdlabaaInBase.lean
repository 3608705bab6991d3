/-
  Contracts of package info's small functions: pairs in memory, glyphs, Is. No conditions beyond those stated.
-/
import Derived.Test.YtjeahgdefdlabaaGround
import Derived.Test.YtjeahgdefdlabaaInFacts
import Derived.Test.YtjeahgdefdlabaaCoIs
namespace Go.Proofs.Ytjeahgdefdlabaa
open Go.RowKit

/-- A pair's cells. -/
def encP (x : Ino.Pair) : List Value := [.int .i64 x.1, .int .i64 x.2]
theorem encP_len (x : Ino.Pair) : (encP x).length = 2 := rfl
theorem encP_one (x : Ino.Pair) : ∀ u ∈ encP x, u.oneCell' = true := by
  intro u hu
  simp only [encP, List.mem_cons, List.not_mem_nil, or_false] at hu
  rcases hu with rfl | rfl <;> rfl
abbrev PRow (w : World) (v : Value) (l : List Ino.Pair) : Prop := RowK encP 2 w v l
theorem PRow.at2 {w : World} {p : Option Addr} {n c : Nat} {l : List Ino.Pair} (h : PRow w (.slice p n c) l) {i : Nat} {x : Ino.Pair} (hx : l[i]? = some x) :
    ∃ b off, p = some ⟨b, off, none⟩ ∧ w.cell? ⟨b, off + i * 2, none⟩ = some (.int .i64 x.1) ∧ w.cell? ⟨b, off + i * 2 + 1, none⟩ = some (.int .i64 x.2) := by
  obtain ⟨b, off, h1, h2⟩ := RowK.at_ h hx
  exact ⟨b, off, h1, h2 0 (by omega), h2 1 (by omega)⟩
theorem pair_info : (Try.prog.info? 35).map (fun i => (i.zero, i.size, i.bytes)) = some (some (.agg #[.int .i64 0, .int .i64 0]), 2, 16) := by kernel_rfl
abbrev OwnP (w : World) (base : Nat) (v : Value) (l : List Ino.Pair) : Prop := OwnK encP 35 2 w base v l
theorem prow1 (w : World) (B : Nat) (hB : B = w.heap.size) (x y : Int) (ty : Nat) : PRow (w.alloc (.cells #[.int .i64 x, .int .i64 y] ty)) (.slice (some ⟨B, 0, none⟩) 1 1) [(x, y)] :=
  hB ▸ .inr ⟨w.heap.size, 0, 1, rfl, by simp, by simp, by simp, fun i z hz j hj => by
    obtain rfl : i = 0 := by
      rcases i with _ | i
      · rfl
      · simp at hz
    simp at hz
    subst hz
    obtain rfl | rfl : j = 0 ∨ j = 1 := by omega
    all_goals simp [go_sem, encP]⟩
theorem prow2 (w : World) (a b c d : Int) (ty : Nat) : PRow (w.alloc (.cells #[.int .i64 a, .int .i64 b, .int .i64 c, .int .i64 d] ty)) (.slice (some ⟨w.heap.size, 0, none⟩) 2 2) [(a, b), (c, d)] :=
  .inr ⟨w.heap.size, 0, 2, rfl, by simp, by simp, by simp, fun i z hz j hj => by
    have hi : i < 2 := (List.getElem?_eq_some_iff.1 hz).1
    obtain rfl | rfl : i = 0 ∨ i = 1 := by omega
    all_goals
      simp at hz
      subst hz
      obtain rfl | rfl : j = 0 ∨ j = 1 := by omega
      all_goals simp [go_sem, encP]⟩
/-- A struct of two cells at block T. -/
theorem two_at {T ty : Nat} {a b : Value} {w : World} (h : w.heap[T]? = some (.cells #[a, b] ty (0, 0))) :
    (w.cell? ⟨T, 0, none⟩ = some a ∧ w.cell? ⟨T, 1, none⟩ = some b) ∧ (w.frozen? ⟨T, 0, none⟩ = false ∧ w.frozen? ⟨T, 1, none⟩ = false) :=
  ⟨⟨block_cell h rfl, block_cell h rfl⟩, block_frozen h, block_frozen h⟩

set_option maxHeartbeats 1600000 in
theorem iglyphs_any (v : Value) (l : List Ino.Pair) (w : World) (h : PRow w v l) (hlen : l.length ≤ 1000000) :
    Calls Try.prog 23 #[v] w fun e w' => ∃ p c, e = .returned (.slice p l.length c) ∧ Row w' (.slice p l.length c) (Ino.glyphs l) ∧ Lo w w' := by
  obtain ⟨pu, cu, rfl, _⟩ := RowK.form h
  have HR := Lib.hid h
  generalize hn : l.length = n at *
  have HN := Lib.hid hn
  clear hn h
  go_enter Try.func23, Try.ntmps23
  go_wp2_with (at_make; refine wpList_mk _ rfl _ _ rfl w.heap.size _ n rfl rfl rfl (by omega) (Nat.le_refl _) ?_; intro pv cv w1 hown hlo; have HL := Lib.hid hlo; have HO := Lib.hid hown; clear hown hlo)
  go_loopw [3, 5, 11] (fun s _ i W => ∃ (k : Nat) (p : Option Addr) (c : Nat), k ≤ n ∧ i = .int .i64 k ∧ s = .slice p k c ∧ Hid (Own W w.heap.size (.slice p k c) (Ino.glyphs (l.take k))) ∧ Hid (Lo w W)) (fun _ _ i _ => n - (intOf i).toNat)
  case atStart => exact ⟨0, pv, cv, Nat.zero_le _, rfl, rfl, HO, HL⟩
  case round =>
    obtain ⟨k, p, c, hk, rfl, rfl, HO1, HL1⟩ := hrel
    by_cases hlt : k < n
    · have hk' : k < l.length := by rw [HN.out]; exact hlt
      have HT := Lib.hid (Ino.glyphs_snoc hk')
      obtain ⟨b, off, rfl, c1, c2⟩ := PRow.at2 (RowK.lo HR.out HL1.out) (Ino.getD_some hk')
      have HTL : Hid ((Ino.glyphs (l.take k)).length = k) := Lib.hid (by rw [Ino.glyphs_len, List.length_take]; omega)
      clear hk'
      generalize l.getD k Ino.zp = x at *
      obtain ⟨g, z⟩ := x
      dsimp only at c1 c2 HT
      go_wp2_with (at_builtin; refine wpList_app _ rfl (.tmp 15) (.tmp 18) rfl w.heap.size (.slice p k c) _ rfl (Own.lo HO1.out (((Lo.refl _).alloc _).alloc _)) _ [g] rfl (row1 _ _ (by simp) g) (by rw [HTL.out]; simp; omega) (by have := HL1.out.size; simp; omega) ?_; intro q1 c1 w3 hown hlo; have HO3 := Lib.hid hown; have HL3 := Lib.hid (hlo w ((HL1.out.alloc _).alloc _) rfl); clear hown hlo; rw [HTL.out] at HO3 ⊢)
      go_roundw
      case rel => exact ⟨k + 1, q1, c1, by omega, by go_num, rfl, Lib.hid (by rw [HT.out]; exact HO3.out), HL3⟩
      case measure => simp [intOf]; omega
    · obtain rfl : k = n := by omega
      have HO2 := HO1
      rw [List.take_of_length_le (by rw [HN.out]; exact Nat.le_refl _)] at HO2
      go_wp2_with fail
      go_ret
      exact ⟨p, c, rfl, Own.row HO2.out, HL1.out⟩

set_option maxHeartbeats 1600000 in
/-- info.Is. -/
theorem iis_any (v : Value) (l : List Ino.Pair) (w : World) (h : PRow w v l) (hlen : l.length ≤ 1000000) :
    Calls Try.prog 14 #[v] w fun e w' => e = .returned (.bool (Ino.isP l)) ∧ Lo w w' := by
  have HG := Lib.hid (fun W h => iglyphs_any v l W h hlen)
  have HC := Lib.hid (fun u W h => cois_any u (Ino.glyphs l) W h)
  obtain ⟨pu, cu, rfl, _⟩ := RowK.form h
  have HR := Lib.hid h
  have HB := Lib.hid (fun k hk hf => @Ino.is_bad l k hk hf)
  have HA := Lib.hid (fun k => @Ino.is_all l k)
  generalize Ino.isP l = y at *
  generalize Co.isCov (Ino.glyphs l) = yc at *
  generalize hn : l.length = n at *
  have HN := Lib.hid hn
  clear hn h
  go_enter Try.func14, Try.ntmps14
  go_wp2_with fail
  go_loopw [4, 7] (fun _ i W => ∃ (k : Nat), k ≤ n ∧ i = .int .i64 k ∧ Hid (∀ i, i < k → Bn.fits (l.getD i Ino.zp).2 (-2) = true) ∧ Hid (Lo w W)) (fun _ i _ => n - (intOf i).toNat)
  case atStart => exact ⟨0, Nat.zero_le _, rfl, Lib.hid (fun i h => by omega), Lib.hid (Lo.refl _)⟩
  case round =>
    obtain ⟨k, hk, rfl, HI, HL1⟩ := hrel
    by_cases hlt : k < n
    · have hk' : k < l.length := by rw [HN.out]; exact hlt
      obtain ⟨b, off, rfl, c1, c2⟩ := PRow.at2 (RowK.lo HR.out HL1.out) (Ino.getD_some hk')
      have HS : Hid (Bn.fits (l.getD k Ino.zp).2 (-2) = true → ∀ i, i < k + 1 → Bn.fits (l.getD i Ino.zp).2 (-2) = true) := Lib.hid (fun h i hi => by
        rcases Nat.lt_or_ge i k with h1 | h1
        · exact HI.out i h1
        · obtain rfl : i = k := by omega
          exact h)
      have HBk := Lib.hid (HB.out k hlt)
      clear hk'
      generalize l.getD k Ino.zp = x at *
      obtain ⟨g, z⟩ := x
      dsimp only at c1 c2 HS HBk
      by_cases h1 : z < -32768
      · have HF : Hid (y = false) := Lib.hid (HBk.out (by rw [Ino.fits_in, decide_eq_false (by omega)]; rfl))
        clear HS HBk
        go_wp2_with fail
        go_ret
        exact ⟨ret_bool HF.out.symm, HL1.out.alloc _⟩
      · by_cases h2 : 32767 < z
        · have HF : Hid (y = false) := Lib.hid (HBk.out (by rw [Ino.fits_in, decide_eq_false (show ¬ z ≤ 32767 by omega), Bool.and_false]))
          clear HS HBk
          go_wp2_with fail
          go_ret
          exact ⟨ret_bool HF.out.symm, HL1.out.alloc _⟩
        · have HI2 := Lib.hid (HS.out (by rw [Ino.fits_in, decide_eq_true (show -32768 ≤ z by omega), decide_eq_true (show z ≤ 32767 by omega)]; rfl))
          clear HS HBk
          go_wp2_with fail
          go_roundw
          case rel => exact ⟨k + 1, by omega, by go_num, HI2, HL1.out.alloc _⟩
          case measure => simp [intOf]; omega
    · obtain rfl : k = n := by omega
      have HF : Hid (y = yc) := Lib.hid (HA.out HI.out)
      go_wp2_with fail
      refine (HG.out _ (RowK.lo HR.out HL1.out)).mono ?_
      rintro e w1 ⟨p1, c1, rfl, hrow, lo⟩
      have HL2 := Lib.hid (HL1.out.trans lo)
      have HR2 := Lib.hid hrow
      clear hrow lo
      go_wp2_with fail
      refine (HC.out _ _ HR2.out).mono ?_
      rintro e w2 ⟨rfl, rfl⟩
      go_wp2_with fail
      go_ret
      exact ⟨ret_bool HF.out.symm, HL2.out⟩
end Go.Proofs.Ytjeahgdefdlabaa
