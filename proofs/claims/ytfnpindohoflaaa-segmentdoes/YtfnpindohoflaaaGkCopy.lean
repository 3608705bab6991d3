/-
  copy of numbers into an array in memory: behind it the array holds them at their place, and every other block is as it was. Nothing of the program but its types. No conditions beyond those stated.
-/
import Derived.Test.YtfnpindohoflaaaGround
import Derived.Test.YtfnpindohoflaaaBnBase
import Derived.Laws.CopyOwn
import Derived.Deep.RegionHeld3
namespace Go.Proofs.Ytfnpindohoflaaa
open Go.RowKit

theorem copy_into (rT B ty off n c b so m cs : Nat) (L ys : List Int) (W : World) (harr : ArrAt W B ty L) (hsrc : ∀ j, j < m → W.cell? ⟨b, so + j, none⟩ = some (.int .i64 (ys.getD j 0))) (hm : ys.length = m) (hle : m ≤ n) (hfit : off + n ≤ L.length) :
    ∃ w2, (Builtin.copy_ #[38, 38] rT #[.slice (some ⟨B, off, none⟩) n c, .slice (some ⟨b, so, none⟩) m cs]).run Try.prog W = .ok (.int .i64 (m : Int)) w2 ∧ ArrAt w2 B ty (L.take off ++ ys ++ L.drop (off + m)) ∧ (∀ w0, Lo w0 W → w0.heap.size ≤ B → Lo w0 w2) ∧ ∀ T, T ≠ B → w2.heap[T]? = W.heap[T]? := by
  have hrun := run_copy_row (P := Try.prog) W 38 38 rT 3 B off n c ⟨b, so, none⟩ m cs (L.map (Value.int .i64)).toArray ty (ys.map (Value.int .i64)) Try.underlying38 (by kernel_rfl) harr (by rw [List.length_map, hm]; exact (Nat.min_eq_left hle).symm)
    (fun j u hj => by
      have hjl : j < ys.length := by simpa using (List.getElem?_eq_some_iff.1 hj).1
      rw [show (⟨b, so, none⟩ : Addr).add j = ⟨b, so + j, none⟩ from by unfold Addr.add; split <;> simp_all, hsrc j (by omega)]
      simp [hjl] at hj
      simp [List.getD, hjl, hj])
    (by simp; omega) (by
      intro u hu
      simp only [List.mem_map] at hu
      obtain ⟨z, _, rfl⟩ := hu
      rfl)
  rw [List.length_map, hm] at hrun
  refine ⟨_, hrun, ?_, fun w0 hl hB => below_setRow hl hB _, fun T hT => setRow_other W B T _ hT⟩
  have h := setRow_heap W B _ ((L.map (Value.int .i64)).toArray.toList.take off ++ ys.map (Value.int .i64) ++ (L.map (Value.int .i64)).toArray.toList.drop (off + m)).toArray ty _ harr
  unfold ArrAt
  rw [h]
  simp [List.map_append, List.map_take, List.map_drop]

/-- copy at a step of a region that draws. -/
theorem step_cp {w : World} {ops : Array Oper} {o : Oper} {a : Act} {K : Act → World → Prop} {Q : Exit → Act → World → Prop} {E : Prop} (hgd : o.guard = none) (d s : Operand)
    (ho : o.op = .call { callee := .builtin .copy, args := #[d, s], argTypes := #[38, 38] })
    (B ty off n c b so m cs : Nat) (L ys : List Int) (hd : a.eval d = .slice (some ⟨B, off, none⟩) n c) (hs : a.eval s = .slice (some ⟨b, so, none⟩) m cs)
    (harr : ArrAt w B ty L) (hsrc : ∀ j, j < m → w.cell? ⟨b, so + j, none⟩ = some (.int .i64 (ys.getD j 0))) (hm : ys.length = m) (hle : m ≤ n) (hfit : off + n ≤ L.length)
    (h : ∀ w2, ArrAt w2 B ty (L.take off ++ ys ++ L.drop (off + m)) → (∀ w0, Lo w0 w → w0.heap.size ≤ B → Lo w0 w2) → (∀ T, T ≠ B → w2.heap[T]? = w.heap[T]?) → K (a.put o.dst (.int .i64 (m : Int))) w2) :
    if Region.wanted o (yielded ops a.tmps) = true then Oper.wp Try.prog o a w K Q else E := by
  have hw : Region.wanted o (yielded ops a.tmps) = true := by simp [Region.wanted, hgd]
  rw [if_pos hw]
  obtain ⟨w2, hrun, h1, h2, h3⟩ := copy_into o.type B ty off n c b so m cs L ys w harr hsrc hm hle hfit
  unfold Oper.wp
  simp [execOp, ho, resolve, invoke, builtin, hd, hs, hrun, Result.andThen]
  exact h w2 h1 h2 h3
end Go.Proofs.Ytfnpindohoflaaa
