/-
  The contract of konst.names: the row of names, in their order; one of them. No conditions beyond those stated.
-/
import Derived.Test.YtcbchnckeeklkaaKoSize
import Derived.Deep.WholeRow
namespace Go.Proofs.Ytcbchnckeeklkaa
open Go.RowKit

/-- The names, as cells; a row of them; as many empty texts. -/
def cellsN : Array Value := (Ko.names.map fun x => Value.string ⟨x.toArray⟩).toArray
def aggN : Value := .agg cellsN
def zerosN : Array Value := (List.replicate 56 (Value.string ⟨#[]⟩)).toArray
/-- The parts of the literal. -/
def partsN : Array (Nat × Operand) := (Ko.names.zipIdx.map fun x => (x.2, Operand.const (.string ⟨x.1.toArray⟩))).toArray
def valsN : Array (Nat × Value) := (Ko.names.zipIdx.map fun x => (x.2, Value.string ⟨x.1.toArray⟩)).toArray
def regN : List Oper :=
  [{ dst := some 1, op := Op.build 47 partsN, type := 47, pos := "konst.go:115", after := #[], guard := none },
   { dst := none, op := Op.store 47 (Operand.tmp 0) (Operand.tmp 1), type := 0, pos := "konst.go:115", after := #[{ on := 0, ground := Ground.data }, { on := 0, ground := Ground.phase }], guard := none }]
def codeN : Code := (Code.region 0 [{ dst := some 0, op := Op.alloc 47, type := 0, pos := "konst.go:114", after := #[], guard := none }].toArray false).seq ((Code.region 1 regN.toArray false).seq Code.ret)
theorem codeN_is : Try.f28.body = some codeN := by kernel_rfl

theorem infoN : (Try.prog.info? 47).map (fun i => (i.zero, i.size)) = some (some (.agg zerosN), 56) := by kernel_rfl
theorem builtN : Try.prog.built 47 valsN.toList = some cellsN := by kernel_rfl
theorem cellsN_size : cellsN.size = 56 := by kernel_rfl
theorem zerosN_size : zerosN.size = 56 := by kernel_rfl
theorem cellsN_one : cellsN.all (·.oneCell') = true := by kernel_rfl
theorem valsN_are (a : Act) : (partsN.map fun (i, x) => (i, a.eval x)) = valsN := by
  unfold partsN valsN
  rw [List.map_toArray, List.map_map]
  rfl

theorem names_any (w : World) : Calls Try.prog 28 #[] w fun e w' => e = .returned aggN ∧ Lo w w' := by
  obtain ⟨hz, hi⟩ := zero_of_info infoN
  have hst := run_storeAt_new (P := Try.prog) w 47 zerosN cellsN (by rw [cellsN_size]; exact hi) (by rw [zerosN_size, cellsN_size]) cellsN_one
  have hld := run_loadVar_new (P := Try.prog) w 47 cellsN 56 9 Try.underlying47 (by rw [cellsN_size]; exact hi)
  have hb : ∀ W, (Instr.build 47 valsN).run Try.prog W = .ok (.agg cellsN) W := fun W => run_build W 47 valsN cellsN builtN
  have hal : (Instr.alloc 47 true (.tuple #[])).run Try.prog w = .ok (.pointer (some ⟨w.heap.size, 0, none⟩)) (w.alloc (.cells zerosN 47)) := by
    simp [Instr.alloc, hz, newVar, go_sem]
  refine calls_of_wp Try.func28 codeN_is ?_
  unfold codeN
  apply wp_seq_k; intro K1 hK1
  apply wp_region_lit
  refine wpList_plain rfl fun K hK => ?_
  unfold Oper.wp execOp
  simp only [Sem.run_bind, Sem.run_pure, Result.andThen_ok, hal]
  refine hK _ _ (wpList_nil ?_)
  refine hK1 _ _ ?_
  clear hK hK1
  apply wp_seq_k; intro K2 hK2
  apply wp_region_lit
  unfold regN
  refine wpList_plain rfl fun K hK => ?_
  unfold Oper.wp execOp
  simp only [Sem.run_bind, Sem.run_pure, Result.andThen_ok, valsN_are, hb]
  refine hK _ _ ?_
  refine wpList_plain rfl fun K' hK' => ?_
  unfold Oper.wp execOp
  have e0 : (({ tmps := #[] ++ Array.replicate (Try.f28.ntmps - (#[] : Array Value).size) undef, defers := [] } : Act).put (some 0) (.pointer (some ⟨w.heap.size, 0, none⟩))).put (some 1) (.agg cellsN) = { tmps := #[.pointer (some ⟨w.heap.size, 0, none⟩), .agg cellsN], defers := [] } := by
    rw [Try.ntmps28]
    simp [go_sem, Array.replicate_succ]
  rw [e0]
  simp only [Act.eval, Sem.run_bind]
  have e1 : (#[Value.pointer (some ⟨w.heap.size, 0, none⟩), .agg cellsN] : Array Value).getD 0 undef = .pointer (some ⟨w.heap.size, 0, none⟩) := rfl
  have e2 : (#[Value.pointer (some ⟨w.heap.size, 0, none⟩), .agg cellsN] : Array Value).getD 1 undef = .agg cellsN := rfl
  simp only [e1, e2, hst, Result.andThen_ok]
  refine hK' _ _ (wpList_nil ?_)
  refine hK2 _ _ ?_
  apply wp_ret
  refine bodyPost_ret (v := aggN) ?_ rfl ⟨rfl, (Lo.refl w).alloc _⟩
  unfold results
  rw [Try.results28]
  generalize loadVar = LV at hld ⊢
  simp [go_sem, hld, aggN]

/-- One of them. -/
theorem name_at (k : Nat) (hk : k < 56) (W : World) : (Instr.index 47 aggN (.int .i64 (k : Int))).run Try.prog W = .ok (.string ⟨(Ko.names.getD k []).toArray⟩) W := by
  unfold aggN cellsN
  have h1 : (Ko.names.map fun x => Value.string ⟨x.toArray⟩)[k]? = some (.string ⟨(Ko.names.getD k []).toArray⟩) := by
    rw [List.getElem?_map, List.getD, List.getElem?_eq_getElem (by rw [Ko.names_len]; exact hk)]; rfl
  generalize (Ko.names.map fun x => Value.string ⟨x.toArray⟩) = L at *
  simp [Instr.index, run_underlying Try.underlying47, asIntOf, go_sem, hk, h1]
end Go.Proofs.Ytcbchnckeeklkaa
