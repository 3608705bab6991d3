/-
  A store into a slice of ints that the call itself owns. Nothing of the program but its types. No conditions beyond those stated.
-/
import Derived.Test.YtcbchnckeeklkaaGkRows
import Derived.Test.YtcbchnckeeklkaaGkBlock
import Derived.Sort.Row
namespace Go.Proofs.Ytcbchnckeeklkaa
open Go.RowKit

theorem own_block {w : World} {base : Nat} {v : Value} {l : List Int} (h : Own w base v l) {i : Nat} (hi : i < l.length) :
    ∃ g c, v = .slice (some ⟨g, 0, none⟩) l.length c ∧ base ≤ g ∧ g < w.heap.size ∧ w.cell? ⟨g, i, none⟩ = some (.int .i64 (l.getD i 0)) ∧ w.frozen? ⟨g, i, none⟩ = false ∧
      ∀ z, Own (w.setCell ⟨g, i, none⟩ (.int .i64 z)) base v (l.set i z) := by
  rcases h.2 with ⟨rfl, hn⟩ | ⟨g, cap, cur, rfl, hb, hg, hnc, hcm, hcs, htk⟩
  · omega
  · have hlt : g < w.heap.size := by
      rcases Nat.lt_or_ge g w.heap.size with hlt | hge
      · exact hlt
      · rw [Array.getElem?_eq_none hge] at hg; cases hg
    rw [Nat.mul_one] at htk
    have hci : cur[i]? = some (.int .i64 (l.getD i 0)) := by
      have h1 := congrArg (fun t : List Value => t[i]?) htk
      simp only [List.getElem?_take, if_pos hi, Array.getElem?_toList, List.getElem?_map] at h1
      rw [h1, List.getElem?_eq_getElem hi]
      simp [List.getD, hi]
    refine ⟨g, cap, rfl, hb, hlt, block_cell hg hci, block_frozen hg, fun z => ?_⟩
    unfold Own World.ownsRow
    rw [List.length_set]
    refine ⟨by simp, .inr ⟨g, cap, cur.setIfInBounds i (.int .i64 z), rfl, hb, ?_, hnc, hcm, by simpa using hcs, ?_⟩⟩
    · rw [Sort.setCell_eq]
      simp [Sort.mapBlock, Array.getElem?_modify, hg, Sort.onCells]
    · rw [Nat.mul_one, Array.toList_setIfInBounds, List.take_set, htk, List.map_set]
end Go.Proofs.Ytcbchnckeeklkaa
