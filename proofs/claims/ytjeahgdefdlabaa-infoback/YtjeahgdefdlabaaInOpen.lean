/-
  An argument that is a slice of pairs, opened: it reads as a list of pairs. No conditions beyond those stated.
-/
import Derived.Test.YtjeahgdefdlabaaInBase
import Derived.Deep.SlicePairs
import Derived.OpenShut
namespace Go.Proofs.Ytjeahgdefdlabaa
open Go.RowKit Go.ChangeShapes Go.WideShapes Go.Deep

theorem list_makeP (P : Nat → Ino.Pair → Prop) : ∀ (n : Nat), (∀ i, i < n → ∃ x, P i x) → ∃ l : List Ino.Pair, l.length = n ∧ ∀ i x, l[i]? = some x → P i x
  | 0, _ => ⟨[], rfl, by simp⟩
  | n + 1, h => by
    obtain ⟨l, hl, hp⟩ := list_makeP P n fun i hi => h i (by omega)
    obtain ⟨x, hx⟩ := h n (by omega)
    refine ⟨l ++ [x], by simp [hl], fun i y hy => ?_⟩
    rcases Nat.lt_or_ge i l.length with hlt | hge
    · rw [List.getElem?_append_left hlt] at hy; exact hp i y hy
    · rw [List.getElem?_append_right hge] at hy
      have : i - l.length < 1 := (List.getElem?_eq_some_iff.1 hy).1
      have hi : i = n := by omega
      rw [show i - l.length = 0 by omega] at hy
      simp at hy
      subst hy
      rw [hi]; exact hx
theorem add_plainP (b off i : Nat) : (⟨b, off, none⟩ : Addr).add i = ⟨b, off + i, none⟩ := by unfold Addr.add; split <;> simp_all

theorem open_pairs {H : Type} {enc : TypeId × Value → H} {W : World} {a : Option Addr} {len cap : Nat} {d : DataW H} {p : List MemPlace}
    (h : DataW.Trod enc Try.prog W 0 (fun _ => true) true 22 (.slice a len cap) d p) :
    ∃ l : List Ino.Pair, PRow W (.slice a len cap) l := by
  obtain ⟨fuel, hf⟩ := h
  rcases open_slice_pairs Try.underlying22 Try.underlying35 (by kernel_rfl) rfl rfl (by kernel_rfl) (by kernel_rfl) hf with ⟨hcs, _⟩ | ⟨x, len', cap', m, n, V0, V1, D0, D1, P0, P1, hcs, _, hl, hm, hmm, _, hi⟩
  · simp [Value.cells] at hcs
    obtain ⟨rfl, rfl, rfl⟩ := hcs
    exact ⟨[], .inl ⟨_, _, rfl, fun _ => rfl, rfl⟩⟩
  · simp [Value.cells] at hcs
    obtain ⟨rfl, rfl, rfl⟩ := hcs
    simp only [if_true] at hmm
    subst hmm
    by_cases h0 : len = 0
    · subst h0; exact ⟨[], .inl ⟨_, _, rfl, fun h => (by cases h), rfl⟩⟩
    · obtain ⟨b, off, spot⟩ := x
      have hspot : spot = none := by simpa [Addr.add] using World.cell?_spot (hi 0 (by omega)).1
      subst hspot
      obtain ⟨l, hll, hlp⟩ := list_makeP (fun i (x : Ino.Pair) => W.cell? ⟨b, off + i * 2, none⟩ = some (.int .i64 x.1) ∧ W.cell? ⟨b, off + i * 2 + 1, none⟩ = some (.int .i64 x.2)) len (by
        intro i hil
        obtain ⟨c0, c1, t0, t1⟩ := hi i (by omega)
        obtain ⟨s0, hs0, _⟩ := DataW.trod_int Try.underlying3 t0
        obtain ⟨s1, hs1, _⟩ := DataW.trod_int Try.underlying3 t1
        simp only [List.cons.injEq, and_true] at hs0 hs1
        rw [hs0, add_plainP] at c0
        rw [hs1, add_plainP] at c1
        exact ⟨(s0, s1), c0, by rw [Nat.add_assoc]; exact c1⟩)
      refine ⟨l, .inr ⟨b, off, m, by rw [hll], by unfold maxLen at hm; omega, by omega, ?_, ?_⟩⟩
      · have hx : l[0]? = some l[0] := List.getElem?_eq_getElem (by omega)
        exact World.block_lt_of_cell? W _ (hlp 0 _ hx).1
      · intro i x hx j hj
        obtain ⟨q0, q1⟩ := hlp i x hx
        obtain rfl | rfl : j = 0 ∨ j = 1 := by omega
        · exact q0
        · exact q1
end Go.Proofs.Ytjeahgdefdlabaa
