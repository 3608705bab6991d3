/-
  A struct of five cells at a block: its cells can be read and written. Nothing of the program. No conditions.
-/
import Derived.Test.YtfnpindohoflaaaGkBlock
namespace Go.Proofs.Ytfnpindohoflaaa
open Go.RowKit

theorem five_at {T ty : Nat} {a b c d e : Value} {w : World} (h : w.heap[T]? = some (.cells #[a, b, c, d, e] ty (0, 0))) :
    (w.cell? ⟨T, 0, none⟩ = some a ∧ w.cell? ⟨T, 1, none⟩ = some b ∧ w.cell? ⟨T, 2, none⟩ = some c ∧ w.cell? ⟨T, 3, none⟩ = some d ∧ w.cell? ⟨T, 4, none⟩ = some e) ∧
    (w.frozen? ⟨T, 0, none⟩ = false ∧ w.frozen? ⟨T, 1, none⟩ = false ∧ w.frozen? ⟨T, 2, none⟩ = false ∧ w.frozen? ⟨T, 3, none⟩ = false ∧ w.frozen? ⟨T, 4, none⟩ = false) :=
  ⟨⟨block_cell h rfl, block_cell h rfl, block_cell h rfl, block_cell h rfl, block_cell h rfl⟩, block_frozen h, block_frozen h, block_frozen h, block_frozen h, block_frozen h⟩
theorem Lo.set5 {a b : World} (h : Lo a b) {T : Nat} (hT : a.heap.size ≤ T) (u0 u1 u2 u3 u4 : Value) : Lo a (((((b.setCell ⟨T, 0, none⟩ u0).setCell ⟨T, 1, none⟩ u1).setCell ⟨T, 2, none⟩ u2).setCell ⟨T, 3, none⟩ u3).setCell ⟨T, 4, none⟩ u4) :=
  ((((h.set hT _).set hT _).set hT _).set hT _).set hT _
end Go.Proofs.Ytfnpindohoflaaa
