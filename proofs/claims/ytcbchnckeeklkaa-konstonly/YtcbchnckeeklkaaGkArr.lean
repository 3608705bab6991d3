/-
  Arrays of ints in memory: a block that holds numbers; a store into it; a slice of it. Nothing of the program but its types. No conditions beyond those stated.
-/
import Derived.Test.YtcbchnckeeklkaaGkRows
import Derived.Test.YtcbchnckeeklkaaGkBlock
import Derived.Sort.Row
namespace Go.Proofs.Ytcbchnckeeklkaa
open Go.RowKit

/-- Block B holds the numbers l. -/
def ArrAt (w : World) (B ty : Nat) (l : List Int) : Prop := w.heap[B]? = some (.cells (l.map (Value.int .i64)).toArray ty (0, 0))
theorem ArrAt.lt {w : World} {B ty : Nat} {l : List Int} (h : ArrAt w B ty l) : B < w.heap.size := by
  rcases Nat.lt_or_ge B w.heap.size with hlt | hge
  · exact hlt
  · unfold ArrAt at h; rw [Array.getElem?_eq_none hge] at h; cases h
theorem ArrAt.lo {w w' : World} {B ty : Nat} {l : List Int} (h : ArrAt w B ty l) (k : Lo w w') : ArrAt w' B ty l := lo_block k h
theorem ArrAt.cell {w : World} {B ty : Nat} {l : List Int} (h : ArrAt w B ty l) {i : Nat} (hi : i < l.length) : w.cell? ⟨B, i, none⟩ = some (.int .i64 (l.getD i 0)) := by
  refine block_cell h ?_
  simp [List.getD, hi]
theorem ArrAt.frozen {w : World} {B ty : Nat} {l : List Int} (h : ArrAt w B ty l) (i : Nat) : w.frozen? ⟨B, i, none⟩ = false := block_frozen h
theorem ArrAt.set {w : World} {B ty : Nat} {l : List Int} (h : ArrAt w B ty l) (i : Nat) (z : Int) : ArrAt (w.setCell ⟨B, i, none⟩ (.int .i64 z)) B ty (l.set i z) := by
  unfold ArrAt at *
  rw [Sort.setCell_eq]
  simp [Sort.mapBlock, Array.getElem?_modify, h, Sort.onCells, List.map_set]
theorem set_other {w : World} {B T i : Nat} (hne : T ≠ B) (u : Value) : (w.setCell ⟨B, i, none⟩ u).heap[T]? = w.heap[T]? := Below.heap_setCell _ _ _ _ (by exact hne)
/-- The first n numbers of an array, as a slice. -/
theorem ArrAt.row {w : World} {B ty : Nat} {l : List Int} (h : ArrAt w B ty l) {n cap : Nat} (hn : n ≤ l.length) (hc : n ≤ cap) (hm : n ≤ 9223372036854775807) : Row w (.slice (some ⟨B, 0, none⟩) n cap) (l.take n) := by
  have e : (l.take n).length = n := by rw [List.length_take]; omega
  refine .inr ⟨B, 0, cap, by rw [e], by rw [e]; exact hm, by rw [e]; exact hc, h.lt, fun i hi => ?_⟩
  rw [e] at hi
  rw [Nat.zero_add, h.cell (by omega)]
  simp [List.getD, hi]

/-- A list of so many noughts. -/
def Noughts (l : List Value) (n : Nat) : Prop := l = List.replicate n (.int .i64 0)
theorem Noughts.app {a b : List Value} {n m : Nat} (h : Noughts a n) (k : Noughts b m) : Noughts (a.append b) (n + m) := by
  unfold Noughts at *
  rw [h, k, List.append_eq, List.replicate_append_replicate]
theorem Noughts.of {l : List Value} {n : Nat} (h : l = List.replicate n (.int .i64 0)) : Noughts l n := h
theorem Noughts.to {l : List Value} {n m : Nat} (h : Noughts l n) (e : n = m) : Noughts l m := e ▸ h
theorem Noughts.cells {l : List Value} {n : Nat} (h : Noughts l n) : l.toArray = ((List.replicate n (0 : Int)).map (Value.int .i64)).toArray := by
  unfold Noughts at h
  rw [h, List.map_replicate]
end Go.Proofs.Ytcbchnckeeklkaa
