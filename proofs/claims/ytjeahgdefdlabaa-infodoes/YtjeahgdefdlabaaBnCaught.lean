/-
  The contracts of bin.caught, for rows and for texts, and of its deferred closures: what the work answers, or the error that it raises. No conditions.
-/
import Derived.Test.YtjeahgdefdlabaaBnValue
import Derived.Test.YtjeahgdefdlabaaGround
namespace Go.Proofs.Ytjeahgdefdlabaa
open Go.RowKit

theorem ta_hit (v : Value) (W : World) : (Instr.typeAssert (.iface 23 v) 20 23 true).run Try.prog W = .ok (.tuple #[v, .bool true]) W := by
  simp [Instr.typeAssert, run_underlying Try.underlying23]
theorem ta_nil (W : World) : (Instr.typeAssert .nilIface 20 23 true).run Try.prog W = .ok (.tuple #[.int .i64 0, .bool false]) W := by
  have hz : (zeroValue 23).run Try.prog W = .ok (.int .i64 0) W := by kernel_rfl
  simp [Instr.typeAssert, run_underlying Try.underlying23, hz]

/-- The world in which the work of caught begins: one named result lies in memory. -/
def boxed (w : World) : World := w.alloc (.cells #[.int .i64 0] 23)
theorem boxed_lo (w : World) : Lo w (boxed w) := (Lo.refl w).alloc _
theorem boxed_size (w : World) : (boxed w).heap.size = w.heap.size + 1 := by simp [boxed]
theorem boxed_facts {w w1 : World} (h : Lo (boxed w) w1) : w1.frozen? ⟨w.heap.size, 0, none⟩ = false ∧ w1.cell? ⟨w.heap.size, 0, none⟩ = some (.int .i64 0) ∧ w.heap.size < w1.heap.size ∧ Lo w w1 := by
  have hs := boxed_size w
  refine ⟨?_, ?_, ?_, (boxed_lo w).trans h⟩
  · rw [h.frozen (by omega)]; simp [boxed, go_sem]
  · rw [h.cell (by omega)]; simp [boxed, go_sem]
  · have := h.size; omega

set_option maxHeartbeats 400000 in
theorem rcatch_panicking (q : Addr) (y k : Int) (older : List PanicEntry) (w : World) (hd : w.cell? q = some (.int .i64 y)) (hy : w.frozen? q = false) :
    CallsD Try.prog 52 #[.pointer (some q)] (.panicking ({ v := .iface 23 (.int .i64 k), recovered := false } :: older)) w fun e u' w' =>
      e = .returned (.tuple #[]) ∧ u' = .panicking ({ v := .iface 23 (.int .i64 k), recovered := true } :: older) ∧ w' = w.setCell q (.int .i64 k) := by
  have ta := ta_hit
  refine callsD_of_wpS Try.func52 rfl fun c₀ cs hu => ?_
  apply wpS_seq
  apply wpS_region
  simp [wpOpsS, go_sem, recoverD, hu, Try.ntmps52, Exit.thenS, ta]
  apply wpS_seq
  apply wpS_region
  simp [wpOpsS, go_sem, Exit.thenS]
  refine wpS_cond (t := true) (by simp [Act.eval]) ?_
  simp only [if_true]
  apply wpS_region
  simp [wpOpsS, go_sem, hd, hy, bodyPostS, results, Try.results52]

set_option maxHeartbeats 400000 in
theorem rcatch_idle (q : Addr) (w : World) :
    CallsD Try.prog 52 #[.pointer (some q)] .returning w fun e u' w' => e = .returned (.tuple #[]) ∧ u' = .returning ∧ w' = w := by
  have ta := ta_nil
  refine callsD_of_wpS Try.func52 rfl fun c₀ cs hu => ?_
  apply wpS_seq
  apply wpS_region
  simp [wpOpsS, go_sem, recoverD, hu, Try.ntmps52, Exit.thenS, ta]
  apply wpS_seq
  apply wpS_region
  simp [wpOpsS, go_sem, Exit.thenS]
  refine wpS_cond (t := false) (by simp [Act.eval]) ?_
  simp only [Bool.false_eq_true, if_false]
  refine wpS_of_wp (wp_skip ?_)
  cases c₀
  simp_all [bodyPostS, results, Try.results52]

set_option maxHeartbeats 400000 in
theorem rcaught_ret (g : Nat) (caps : Array Value) (w : World) (R : World → Value → Prop) (hent : ∀ W : World, (callFunc g caps).run Try.prog W = .ok (.enter g caps) W)
    (hwork : Calls Try.prog g caps (boxed w) fun e w' => ∃ v, e = .returned v ∧ R w' v ∧ Lo (boxed w) w') (hR : ∀ w' v u, R w' v → R (w'.setCell ⟨w.heap.size, 0, none⟩ u) v) :
    Calls Try.prog 34 #[.func (.func g) #[] caps] w fun e w' => ∃ v, e = .returned (.tuple #[v, .int .i64 0]) ∧ R w' v ∧ Lo w w' := by
  have hmf : ∀ (fn : Fn) (first cap : Array Value) (w : World), (Instr.makeFunc fn first cap).run Try.prog w = .ok (.func fn first cap) w := fun _ _ _ _ => rfl
  have HW := Lib.hid hwork
  clear hwork
  go_enter_defers Try.func34, Try.ntmps34
  go_wp2_with fail
  refine HW.out.mono ?_
  rintro e w1 ⟨v, rfl, hr, hlo⟩
  obtain ⟨hz, hc, hsz, hlw⟩ := boxed_facts hlo
  have HR := Lib.hid hr
  clear hlo HW hr
  go_wp2_with fail
  refine leaves_cons (f := 52) (args := #[.pointer (some ⟨w.heap.size, 0, none⟩)]) (by simp) (by simp [go_sem]) ?_
  refine (rcatch_idle ⟨w.heap.size, 0, none⟩ _).mono ?_
  rintro e u' w'' ⟨rfl, rfl, rfl⟩
  simp [Leaves, settle, results, Try.results34, go_sem, hc]
  exact ⟨hR _ _ _ HR.out, hlw.set (by simp) _⟩

set_option maxHeartbeats 400000 in
theorem rcaught_raised (g : Nat) (caps : Array Value) (k : Int) (w : World) (hent : ∀ W : World, (callFunc g caps).run Try.prog W = .ok (.enter g caps) W)
    (hwork : Calls Try.prog g caps (boxed w) fun e w' => e = .panicked (raise k) ∧ Lo (boxed w) w') :
    Calls Try.prog 34 #[.func (.func g) #[] caps] w fun e w' => e = .returned (.tuple #[.slice none 0 0, .int .i64 k]) ∧ Lo w w' := by
  have hmf : ∀ (fn : Fn) (first cap : Array Value) (w : World), (Instr.makeFunc fn first cap).run Try.prog w = .ok (.func fn first cap) w := fun _ _ _ _ => rfl
  have HW := Lib.hid hwork
  clear hwork
  go_enter_defers Try.func34, Try.ntmps34
  go_wp2_with fail
  refine HW.out.mono ?_
  rintro e w1 ⟨rfl, hlo⟩
  obtain ⟨hz, hc, hsz, hlw⟩ := boxed_facts hlo
  clear hlo HW
  go_wp2_with fail
  refine leaves_cons (f := 52) (args := #[.pointer (some ⟨w.heap.size, 0, none⟩)]) (by simp) (by simp [go_sem]) ?_
  refine (rcatch_panicking ⟨w.heap.size, 0, none⟩ 0 k [] _ hc hz).mono ?_
  rintro e u' w'' ⟨rfl, rfl, rfl⟩
  simp [Leaves, settle, results, Try.results34, go_sem, hc]
  exact hlw.set (by simp) _
end Go.Proofs.Ytjeahgdefdlabaa
