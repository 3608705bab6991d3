/-
  How rows and spans are told: a row of one number many times, spans, spans and an error. No conditions beyond those stated.
-/
import Derived.Test.YtnlifmedkkboaaaChBase
import Derived.Test.YtnlifmedkkboaaaGlRepeat
namespace Go.Proofs.Ytnlifmedkkboaaa
open Go.RowKit

theorem fill_row {z : Int} {n G : Nat} {w : World} (h : FillAt z n n G w) (hn : n ≤ 1000000) : Row w (.slice (some ⟨G, 0, none⟩) n n) (List.replicate n z) := by
  have hlt : G < w.heap.size := by
    rcases Nat.lt_or_ge G w.heap.size with hlt | hge
    · exact hlt
    · unfold FillAt at h; rw [Array.getElem?_eq_none hge] at h; cases h
  refine .inr ⟨G, 0, n, by rw [List.length_replicate], by rw [List.length_replicate]; omega, by rw [List.length_replicate]; omega, hlt, fun i hi => ?_⟩
  rw [List.length_replicate] at hi
  rw [Nat.zero_add]
  refine block_cell h ?_
  rw [List.getElem?_toArray, fill_at z hi]
  simp [List.getD, hi]
/-- So many times the same number, told. -/
def Many (z : Int) (n : Nat) (w : World) (e : Ending) (w' : World) : Prop := ∃ p c, e = .returned (.slice p n c) ∧ Row w' (.slice p n c) (List.replicate n z) ∧ Lo w w'

/-- Spans, told. -/
def GotSpans (l : List Ch.Span) (w : World) (e : Ending) (w' : World) : Prop := ∃ p c, e = .returned (.slice p l.length c) ∧ SRow w' (.slice p l.length c) l ∧ Lo w w'
/-- Spans and an error, told. -/
def GotSp (a : List Ch.Span × Int) (w : World) (e : Ending) (w' : World) : Prop := ∃ p c, e = .returned (.tuple #[.slice p a.1.length c, .int .i64 a.2]) ∧ SRow w' (.slice p a.1.length c) a.1 ∧ Lo w w'
theorem GotSp.nil {w w' : World} {k : Int} {e : Ending} (he : e = .returned (.tuple #[.slice none 0 0, .int .i64 k])) (h : Lo w w') : GotSp ([], k) w e w' := by
  subst he
  exact ⟨_, _, rfl, RowK.nil _ _ _, h⟩
end Go.Proofs.Ytnlifmedkkboaaa
