/-
  A text turned into bytes, one byte set, and turned back. Nothing of the program but its types. No conditions beyond those stated.
-/
import Derived.Test.YtbcilhdamjgoeaaGkBytes
namespace Go.Proofs.Ytbcilhdamjgoeaa
open Go.RowKit

theorem conv_set (l : List UInt8) (q : Nat) (c : UInt8) (w : World) (hq : q < l.length) : ∃ C W1, (convert 9 40 (.string ⟨l.toArray⟩)).run Try.prog w = .ok (.slice (some ⟨w.heap.size, 0, none⟩) l.length C) W1 ∧ Lo w W1 ∧
    W1.cell? ⟨w.heap.size, q, none⟩ = some (.int .u8 (l.getD q 0).toNat) ∧ W1.frozen? ⟨w.heap.size, q, none⟩ = false ∧
    (convert 40 9 (.slice (some ⟨w.heap.size, 0, none⟩) l.length C)).run Try.prog (W1.setCell ⟨w.heap.size, q, none⟩ (.int .u8 c.toNat)) = .ok (.string ⟨(l.set q c).toArray⟩) (W1.setCell ⟨w.heap.size, q, none⟩ (.int .u8 c.toNat)) ∧
    Lo w (W1.setCell ⟨w.heap.size, q, none⟩ (.int .u8 c.toNat)) := by
  obtain ⟨C, W1, hconv, l3, hsz, hcells, hfro⟩ := conv_bytes_own l w
  refine ⟨C, W1, hconv, l3, hcells q hq, hfro q hq, ?_, l3.set (Nat.le_refl _) _⟩
  have hlen : (l.set q c).length = l.length := by simp
  rw [← hlen]
  refine run_convert_bytes_back _ 40 9 5 ⟨w.heap.size, 0, none⟩ C (l.set q c) Try.underlying40 Try.underlying5 Try.underlying9 fun j hj => ?_
  have hj' : j < l.length := by rw [← hlen]; exact hj
  have ha : (⟨w.heap.size, 0, none⟩ : Addr).add j = ⟨w.heap.size, j, none⟩ := by rw [Addr.add_lit, Nat.zero_add]
  rw [ha]
  by_cases hjq : j = q
  · subst hjq
    rw [World.cell?_setCell_same _ _ _ (hcells j hj')]
    simp
  · rw [World.cell?_setCell_other _ _ _ _ (by intro hh; injection hh with _ h2 _; exact hjq h2.symm), hcells j hj']
    simp [List.getElem_set_ne (fun h => hjq h.symm), List.getD, hj']
/-- A byte that came in. -/
theorem byte_of {a : Int} (h : (Lit.int .u8 a).wf = true) : ∃ c : UInt8, a = (c.toNat : Int) := by
  have h1 : (decide (IntKind.u8.min ≤ a) && decide (a ≤ IntKind.u8.max)) = true := h
  rw [show IntKind.u8.min = 0 by decide, show IntKind.u8.max = 255 by decide] at h1
  simp at h1
  refine ⟨UInt8.ofNat a.toNat, ?_⟩
  rw [UInt8.toNat_ofNat']
  omega
end Go.Proofs.Ytbcilhdamjgoeaa
