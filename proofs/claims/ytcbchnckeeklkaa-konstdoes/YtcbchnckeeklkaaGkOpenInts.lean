/-
  An argument that is a slice of ints, opened: it reads as a list. Nothing of the program but its types. No conditions beyond those stated.
-/
import Derived.Test.YtcbchnckeeklkaaGkLo
import Derived.OpenShut
namespace Go.Proofs.Ytcbchnckeeklkaa
open Go.RowKit Go.ChangeShapes Go.WideShapes

/-- What the shell tells of a slice of integers that came in. -/
def IsRow (k : IntKind) (w : World) (a : Option Addr) (len cap : Nat) (zs : List Int) : Prop :=
  (a = none ∧ len = 0 ∧ cap = 0 ∧ zs = []) ∨
  ∃ x, a = some x ∧ len ≤ cap ∧ cap ≤ maxLen ∧ zs.length = cap ∧ (∀ i, i < zs.length → w.cell? (x.add i) = some (.int k (zs.getD i 0))) ∧ ∀ n ∈ zs, (Lit.int k n).wf = true

theorem IsRow.row {w : World} {a : Option Addr} {len cap : Nat} {zs : List Int} (h : IsRow .i64 w a len cap zs) : ∃ l : List Int, l.length = len ∧ Row w (.slice a len cap) l := by
  rcases h with ⟨rfl, rfl, rfl, rfl⟩ | ⟨x, rfl, hle, hm, hz, hc, _⟩
  · exact ⟨[], rfl, .inl ⟨_, _, rfl, fun _ => rfl, rfl⟩⟩
  · by_cases h0 : len = 0
    · subst h0; exact ⟨[], rfl, .inl ⟨_, _, rfl, fun h => (by cases h), rfl⟩⟩
    · obtain ⟨b, off, rfl, hcell⟩ := ints_at hc (by omega)
      have hlen : (zs.take len).length = len := by rw [List.length_take]; omega
      refine ⟨zs.take len, hlen, .inr ⟨b, off, cap, by rw [hlen], by unfold maxLen at hm; omega, by omega, ?_, ?_⟩⟩
      · have := hcell 0 (by omega)
        exact World.block_lt_of_cell? w _ this
      · intro i hi
        rw [hlen] at hi
        rw [hcell i (by omega)]
        simp [List.getD, hi]
theorem open_introw {H : Type} {enc : TypeId × Value → H} {W : World} {a : Option Addr} {len cap : Nat} {d : DataW H} {p : List MemPlace}
    (h : DataW.Trod enc Try.prog W 0 (fun _ => true) true 22 (.slice a len cap) d p) : ∃ l : List Int, Row W (.slice a len cap) l := by
  have hz : ∃ zs, IsRow .i64 W a len cap zs := by
    obtain ⟨fuel, hf⟩ := h
    rcases open_ints Try.underlying22 Try.underlying3 (by kernel_rfl) hf with ⟨hcs, _⟩ | ⟨x, l, c, zs, hcs, _, hl, hm, hz, _, hcell, hwz⟩
    · simp [Value.cells] at hcs
      obtain ⟨rfl, rfl, rfl⟩ := hcs
      exact ⟨[], .inl ⟨rfl, rfl, rfl, rfl⟩⟩
    · simp [Value.cells] at hcs
      obtain ⟨rfl, rfl, rfl⟩ := hcs
      exact ⟨zs, .inr ⟨_, rfl, hl, hm, by simpa using hz, hcell, hwz⟩⟩
  obtain ⟨zs, hz⟩ := hz
  obtain ⟨l, _, hr⟩ := hz.row
  exact ⟨l, hr⟩
end Go.Proofs.Ytcbchnckeeklkaa
