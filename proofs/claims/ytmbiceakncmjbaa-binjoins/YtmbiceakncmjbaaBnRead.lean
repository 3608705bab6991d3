/-
  The law's own small function read (it returns true), and what the row hands in. No conditions.
-/
import Derived.Test.YtmbiceakncmjbaaBnRef5
import Derived.OpenShut
namespace Go.Proofs.Ytmbiceakncmjbaa
open Go.RowKit

/-- What the shell tells of a slice of integers that came in. -/
def IsRow (k : IntKind) (w : World) (a : Option Addr) (len cap : Nat) (zs : List Int) : Prop :=
  (a = none ∧ len = 0 ∧ cap = 0 ∧ zs = []) ∨
  ∃ x, a = some x ∧ len ≤ cap ∧ cap ≤ maxLen ∧ zs.length = cap ∧ (∀ i, i < zs.length → w.cell? (x.add i) = some (.int k (zs.getD i 0))) ∧ ∀ n ∈ zs, (Lit.int k n).wf = true

theorem IsRow.row {w : World} {a : Option Addr} {len cap : Nat} {zs : List Int} (h : IsRow .i64 w a len cap zs) : ∃ l : List Int, l.length = len ∧ Row w (.slice a len cap) l := by
  rcases h with ⟨rfl, rfl, rfl, rfl⟩ | ⟨x, rfl, hle, hm, hz, hc, _⟩
  · exact ⟨[], rfl, .inl ⟨_, _, rfl, fun _ => rfl, rfl⟩⟩
  · by_cases h0 : len = 0
    · subst h0; exact ⟨[], rfl, .inl ⟨_, _, rfl, fun h => (by cases h), rfl⟩⟩
    · obtain ⟨b, off, rfl, hcell⟩ := ints_at hc (by omega)
      have hlen : (zs.take len).length = len := by rw [List.length_take]; omega
      refine ⟨zs.take len, hlen, .inr ⟨b, off, cap, by rw [hlen], by unfold maxLen at hm; omega, by omega, ?_, ?_⟩⟩
      · have := hcell 0 (by omega)
        exact World.block_lt_of_cell? w _ this
      · intro i hi
        rw [hlen] at hi
        rw [hcell i (by omega)]
        simp [List.getD, hi]


theorem int_wf {n : Int} (h : (Lit.int .i64 n).wf = true) : -9223372036854775808 ≤ n ∧ n ≤ 9223372036854775807 := by
  have h1 : (decide (IntKind.i64.min ≤ n) && decide (n ≤ IntKind.i64.max)) = true := h
  rw [show IntKind.i64.min = -9223372036854775808 by decide, show IntKind.i64.max = 9223372036854775807 by decide] at h1
  simpa using h1

theorem get_lit1 (W : World) (v : Value) (hr : Row W v [2, -2]) : Calls Try.prog 10 #[.string ⟨#[1, 2, 255, 254]⟩, .int .i64 0, v] W fun e w' => ∃ p c, e = .returned (.tuple #[.slice p 2 c, .int .i64 0]) ∧ Row w' (.slice p 2 c) [258, -2] ∧ Lo W w' := by
  have h := get_any [1, 2, 255, 254] 0 v [2, -2] W hr (by simp) (by simp) (by omega)
  rw [show Bn.get [1, 2, 255, 254] 0 [2, -2] = ([258, -2], 0) by decide] at h
  exact h
theorem get_lit2 (W : World) (v : Value) (hr : Row W v [2]) : Calls Try.prog 10 #[.string ⟨#[1]⟩, .int .i64 0, v] W fun e w' => ∃ p c, e = .returned (.tuple #[.slice p 0 c, .int .i64 4]) ∧ Lo W w' := by
  have h := get_any [1] 0 v [2] W hr (by simp) (by simp) (by omega)
  rw [show Bn.get [1] 0 [2] = ([], 4) by decide] at h
  exact h.mono fun e w' ⟨p, c, he, _, hl⟩ => ⟨p, c, he, hl⟩
theorem put_lit (W : World) (v u : Value) (hr : Row W v [1]) (hr2 : Row W u [256]) : Calls Try.prog 12 #[v, u] W fun e w' => e = .returned (.tuple #[.string ⟨#[]⟩, .int .i64 2]) ∧ Lo W w' := by
  have h := put_any [1] [256] v u W hr hr2 (by simp)
  rw [show Bn.put [1] [256] = ([], 2) by decide] at h
  exact h
theorem sum_lit (W : World) : Calls Try.prog 20 #[.string ⟨#[1, 0, 0, 0, 2]⟩] W fun e w' => e = .returned (.int .i64 50331648) ∧ W = w' := by
  have h := bsum_any [1, 0, 0, 0, 2] W (by simp)
  rw [show Bn.sum [1, 0, 0, 0, 2] = 50331648 by decide] at h
  exact h

set_option maxRecDepth 100000 in
set_option maxHeartbeats 4000000 in
theorem read_any (w : World) : Calls Try.prog 14 #[] w fun e w' => e = .returned (.bool true) ∧ Lo w w' := by
  go_enter Try.func14, Try.ntmps14
  go_wp2_with fail
  refine (get_lit1 _ _ (row2 _ _ (by simp) 2 (-2))).mono ?_
  rintro e w1 ⟨p, c, rfl, hr, hl⟩
  have HL1 := Lib.hid (((Lo.refl w).alloc _).trans hl)
  have HR1 := Lib.hid hr
  clear hl hr
  go_wp2_with fail
  refine (get_lit2 _ _ (row1 _ _ (by simp) 2)).mono ?_
  rintro e w2 ⟨p2, c2, rfl, hl⟩
  have HL2 := Lib.hid ((HL1.out.alloc _).trans hl)
  have HR2 := Lib.hid (HR1.out.lo (((Lo.refl w1).alloc _).trans hl))
  clear hl HL1 HR1
  go_wp2_with fail
  refine (put_lit _ _ _ ((row1 w2 _ rfl 1).lo ((Lo.refl _).alloc _)) (row1 _ _ (by simp) 256)).mono ?_
  rintro e w3 ⟨rfl, hl⟩
  have HL3 := Lib.hid (((HL2.out.alloc _).alloc _).trans hl)
  have HR3 := Lib.hid (HR2.out.lo ((((Lo.refl w2).alloc _).alloc _).trans hl))
  clear hl HL2 HR2
  go_wp2_with fail
  refine (rints_any _ _ [258, -2] [258, -2] _ (HR3.out.lo ((Lo.refl _).alloc _)) (row2 _ _ (by simp) 258 (-2))).mono ?_
  rw [show decide (([258, -2] : List Int) = [258, -2]) = true from by decide]
  rintro e w4 ⟨rfl, hl⟩
  have HL4 := Lib.hid ((HL3.out.alloc _).trans hl)
  clear hl HL3 HR3
  go_wp2_with fail
  refine (sum_lit _).mono ?_
  rintro e w5 ⟨rfl, rfl⟩
  go_wp2_with fail
  go_ret
  exact ⟨rfl, HL4.out⟩
end Go.Proofs.Ytmbiceakncmjbaa
