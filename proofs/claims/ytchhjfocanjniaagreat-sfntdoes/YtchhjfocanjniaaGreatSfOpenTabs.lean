/-
  An argument that is a slice of tables, opened: it reads as a list of tables. No conditions beyond those stated.
-/
import Derived.Test.YtchhjfocanjniaaGreatSfBase
import Derived.Deep.SlicePairs
import Derived.OpenShut
namespace Go.Proofs.YtchhjfocanjniaaGreat
open Go.RowKit Go.ChangeShapes Go.WideShapes Go.Deep

theorem list_make {α : Type} (P : Nat → α → Prop) : ∀ (n : Nat), (∀ i, i < n → ∃ x, P i x) → ∃ l : List α, l.length = n ∧ ∀ i x, l[i]? = some x → P i x
  | 0, _ => ⟨[], rfl, by simp⟩
  | n + 1, h => by
    obtain ⟨l, hl, hp⟩ := list_make P n fun i hi => h i (by omega)
    obtain ⟨x, hx⟩ := h n (by omega)
    refine ⟨l ++ [x], by simp [hl], fun i y hy => ?_⟩
    rcases Nat.lt_or_ge i l.length with hlt | hge
    · rw [List.getElem?_append_left hlt] at hy; exact hp i y hy
    · rw [List.getElem?_append_right hge] at hy
      have : i - l.length < 1 := (List.getElem?_eq_some_iff.1 hy).1
      have hi : i = n := by omega
      rw [show i - l.length = 0 by omega] at hy
      simp at hy
      subst hy
      rw [hi]; exact hx

theorem open_tabs {H : Type} {enc : TypeId × Value → H} {W : World} {a : Option Addr} {len cap : Nat} {d : DataW H} {p : List MemPlace}
    (h : DataW.Trod enc Tryz.prog W 0 (fun _ => true) true 22 (.slice a len cap) d p) :
    ∃ l : List Sf.Tab, TRow W (.slice a len cap) l ∧ ∀ x ∈ l, x.1.length ≤ 9223372036854775807 ∧ x.2.length ≤ 9223372036854775807 := by
  obtain ⟨fuel, hf⟩ := h
  rcases open_slice_pairs Tryz.underlying22 Tryz.underlying33 (by kernel_rfl) rfl rfl (by kernel_rfl) (by kernel_rfl) hf with ⟨hcs, _⟩ | ⟨x, len', cap', m, n, V0, V1, D0, D1, P0, P1, hcs, _, hl, hm, hmm, _, hi⟩
  · simp [Value.cells] at hcs
    obtain ⟨rfl, rfl, rfl⟩ := hcs
    exact ⟨[], .inl ⟨_, _, rfl, fun _ => rfl, rfl⟩, by simp⟩
  · simp [Value.cells] at hcs
    obtain ⟨rfl, rfl, rfl⟩ := hcs
    simp only [if_true] at hmm
    subst hmm
    by_cases h0 : len = 0
    · subst h0; exact ⟨[], .inl ⟨_, _, rfl, fun h => (by cases h), rfl⟩, by simp⟩
    · obtain ⟨b, off, spot⟩ := x
      have hspot : spot = none := by simpa [Addr.add] using World.cell?_spot (hi 0 (by omega)).1
      subst hspot
      obtain ⟨l, hll, hlp⟩ := list_make (fun i (x : Sf.Tab) => W.cell? ⟨b, off + i * 2, none⟩ = some (.string ⟨x.1.toArray⟩) ∧ W.cell? ⟨b, off + i * 2 + 1, none⟩ = some (.string ⟨x.2.toArray⟩) ∧ x.1.length ≤ 9223372036854775807 ∧ x.2.length ≤ 9223372036854775807) len (by
        intro i hil
        obtain ⟨c0, c1, t0, t1⟩ := hi i (by omega)
        obtain ⟨s0, hs0, _, hz0⟩ := DataW.trod_string Tryz.underlying9 t0
        obtain ⟨s1, hs1, _, hz1⟩ := DataW.trod_string Tryz.underlying9 t1
        simp only [List.cons.injEq, and_true] at hs0 hs1
        rw [hs0, add_plain] at c0
        rw [hs1, add_plain] at c1
        refine ⟨(s0.data.toList, s1.data.toList), c0, by rw [Nat.add_assoc]; exact c1, ?_, ?_⟩
        · have : s0.data.toList.length = s0.size := rfl
          unfold maxLen at hz0
          simp only at *
          omega
        · have : s1.data.toList.length = s1.size := rfl
          unfold maxLen at hz1
          simp only at *
          omega)
      refine ⟨l, .inr ⟨b, off, m, by rw [hll], by unfold maxLen at hm; omega, by omega, ?_, ?_⟩, ?_⟩
      · obtain ⟨x, hx⟩ := Sf.some_at (l := l) (k := 0) (by omega)
        exact World.block_lt_of_cell? W _ (hlp 0 x hx).1
      · intro i x hx j hj
        obtain ⟨q0, q1, _⟩ := hlp i x hx
        obtain rfl | rfl : j = 0 ∨ j = 1 := by omega
        · exact q0
        · exact q1
      · intro x hx
        obtain ⟨i, hi'⟩ := List.getElem?_of_mem hx
        exact (hlp i x hi').2.2
end Go.Proofs.YtchhjfocanjniaaGreat
