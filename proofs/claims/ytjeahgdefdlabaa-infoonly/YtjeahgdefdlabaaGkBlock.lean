/-
  A block of memory that stands: its cells can be read and written. Nothing of the program. No conditions.
-/
import Derived.Test.YtjeahgdefdlabaaGkLo
namespace Go.Proofs.Ytjeahgdefdlabaa
open Go.RowKit

theorem lo_block {T : Nat} {o : Obj} {w w' : World} (h : Lo w w') (hT : w.heap[T]? = some o) : w'.heap[T]? = some o := by
  have hlt : T < w.heap.size := by
    rcases Nat.lt_or_ge T w.heap.size with hlt | hge
    · exact hlt
    · rw [Array.getElem?_eq_none hge] at hT; cases hT
  rw [h.block T hlt]; exact hT
theorem new_block (w : World) (o : Obj) : (w.alloc o).heap[w.heap.size]? = some o := by
  show (w.heap.push o)[w.heap.size]? = _
  simp
theorem block_cell {T ty i : Nat} {cs : Array Value} {w : World} {v : Value} (h : w.heap[T]? = some (.cells cs ty (0, 0))) (hv : cs[i]? = some v) : w.cell? ⟨T, i, none⟩ = some v := by
  simp [World.cell?, h, hv]
theorem block_frozen {T ty i : Nat} {cs : Array Value} {w : World} (h : w.heap[T]? = some (.cells cs ty (0, 0))) : w.frozen? ⟨T, i, none⟩ = false := by
  simp [World.frozen?, h]
/-- A struct of four cells at block T, and that it may be written. -/
theorem four_at {T ty : Nat} {a b c d : Value} {w : World} (h : w.heap[T]? = some (.cells #[a, b, c, d] ty (0, 0))) :
    (w.cell? ⟨T, 0, none⟩ = some a ∧ w.cell? ⟨T, 1, none⟩ = some b ∧ w.cell? ⟨T, 2, none⟩ = some c ∧ w.cell? ⟨T, 3, none⟩ = some d) ∧
    (w.frozen? ⟨T, 0, none⟩ = false ∧ w.frozen? ⟨T, 1, none⟩ = false ∧ w.frozen? ⟨T, 2, none⟩ = false ∧ w.frozen? ⟨T, 3, none⟩ = false) :=
  ⟨⟨block_cell h rfl, block_cell h rfl, block_cell h rfl, block_cell h rfl⟩, block_frozen h, block_frozen h, block_frozen h, block_frozen h⟩
/-- A struct of six cells at block T. -/
theorem six_at {T ty : Nat} {a b c d e f : Value} {w : World} (h : w.heap[T]? = some (.cells #[a, b, c, d, e, f] ty (0, 0))) :
    (w.cell? ⟨T, 0, none⟩ = some a ∧ w.cell? ⟨T, 1, none⟩ = some b ∧ w.cell? ⟨T, 2, none⟩ = some c ∧ w.cell? ⟨T, 3, none⟩ = some d ∧ w.cell? ⟨T, 4, none⟩ = some e ∧ w.cell? ⟨T, 5, none⟩ = some f) ∧
    (w.frozen? ⟨T, 0, none⟩ = false ∧ w.frozen? ⟨T, 1, none⟩ = false ∧ w.frozen? ⟨T, 2, none⟩ = false ∧ w.frozen? ⟨T, 3, none⟩ = false ∧ w.frozen? ⟨T, 4, none⟩ = false ∧ w.frozen? ⟨T, 5, none⟩ = false) :=
  ⟨⟨block_cell h rfl, block_cell h rfl, block_cell h rfl, block_cell h rfl, block_cell h rfl, block_cell h rfl⟩, block_frozen h, block_frozen h, block_frozen h, block_frozen h, block_frozen h, block_frozen h⟩
/-- A struct of three cells at block T. -/
theorem three_at {T ty : Nat} {a b c : Value} {w : World} (h : w.heap[T]? = some (.cells #[a, b, c] ty (0, 0))) :
    (w.cell? ⟨T, 0, none⟩ = some a ∧ w.cell? ⟨T, 1, none⟩ = some b ∧ w.cell? ⟨T, 2, none⟩ = some c) ∧
    (w.frozen? ⟨T, 0, none⟩ = false ∧ w.frozen? ⟨T, 1, none⟩ = false ∧ w.frozen? ⟨T, 2, none⟩ = false) :=
  ⟨⟨block_cell h rfl, block_cell h rfl, block_cell h rfl⟩, block_frozen h, block_frozen h, block_frozen h⟩
end Go.Proofs.Ytjeahgdefdlabaa
