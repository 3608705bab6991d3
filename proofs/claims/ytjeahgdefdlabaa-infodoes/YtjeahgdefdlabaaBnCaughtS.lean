/-
  caught[string]: what a call that may panic tells. No conditions beyond those stated.
-/
import Derived.Test.YtjeahgdefdlabaaBnCaught
namespace Go.Proofs.Ytjeahgdefdlabaa
open Go.RowKit

set_option maxHeartbeats 400000 in
theorem scatch_panicking (q : Addr) (y k : Int) (older : List PanicEntry) (w : World) (hd : w.cell? q = some (.int .i64 y)) (hy : w.frozen? q = false) :
    CallsD Try.prog 55 #[.pointer (some q)] (.panicking ({ v := .iface 23 (.int .i64 k), recovered := false } :: older)) w fun e u' w' =>
      e = .returned (.tuple #[]) ∧ u' = .panicking ({ v := .iface 23 (.int .i64 k), recovered := true } :: older) ∧ w' = w.setCell q (.int .i64 k) := by
  have ta := ta_hit
  refine callsD_of_wpS Try.func55 rfl fun c₀ cs hu => ?_
  apply wpS_seq
  apply wpS_region
  simp [wpOpsS, go_sem, recoverD, hu, Try.ntmps55, Exit.thenS, ta]
  apply wpS_seq
  apply wpS_region
  simp [wpOpsS, go_sem, Exit.thenS]
  refine wpS_cond (t := true) (by simp [Act.eval]) ?_
  simp only [if_true]
  apply wpS_region
  simp [wpOpsS, go_sem, hd, hy, bodyPostS, results, Try.results55]

set_option maxHeartbeats 400000 in
theorem scatch_idle (q : Addr) (w : World) :
    CallsD Try.prog 55 #[.pointer (some q)] .returning w fun e u' w' => e = .returned (.tuple #[]) ∧ u' = .returning ∧ w' = w := by
  have ta := ta_nil
  refine callsD_of_wpS Try.func55 rfl fun c₀ cs hu => ?_
  apply wpS_seq
  apply wpS_region
  simp [wpOpsS, go_sem, recoverD, hu, Try.ntmps55, Exit.thenS, ta]
  apply wpS_seq
  apply wpS_region
  simp [wpOpsS, go_sem, Exit.thenS]
  refine wpS_cond (t := false) (by simp [Act.eval]) ?_
  simp only [Bool.false_eq_true, if_false]
  refine wpS_of_wp (wp_skip ?_)
  cases c₀
  simp_all [bodyPostS, results, Try.results55]

set_option maxHeartbeats 400000 in
theorem scaught_ret (g : Nat) (caps : Array Value) (w : World) (R : World → Value → Prop) (hent : ∀ W : World, (callFunc g caps).run Try.prog W = .ok (.enter g caps) W)
    (hwork : Calls Try.prog g caps (boxed w) fun e w' => ∃ v, e = .returned v ∧ R w' v ∧ Lo (boxed w) w') (hR : ∀ w' v u, R w' v → R (w'.setCell ⟨w.heap.size, 0, none⟩ u) v) :
    Calls Try.prog 42 #[.func (.func g) #[] caps] w fun e w' => ∃ v, e = .returned (.tuple #[v, .int .i64 0]) ∧ R w' v ∧ Lo w w' := by
  have hmf : ∀ (fn : Fn) (first cap : Array Value) (w : World), (Instr.makeFunc fn first cap).run Try.prog w = .ok (.func fn first cap) w := fun _ _ _ _ => rfl
  have HW := Lib.hid hwork
  clear hwork
  go_enter_defers Try.func42, Try.ntmps42
  go_wp2_with fail
  refine HW.out.mono ?_
  rintro e w1 ⟨v, rfl, hr, hlo⟩
  obtain ⟨hz, hc, hsz, hlw⟩ := boxed_facts hlo
  have HR := Lib.hid hr
  clear hlo HW hr
  go_wp2_with fail
  refine leaves_cons (f := 55) (args := #[.pointer (some ⟨w.heap.size, 0, none⟩)]) (by simp) (by simp [go_sem]) ?_
  refine (scatch_idle ⟨w.heap.size, 0, none⟩ _).mono ?_
  rintro e u' w'' ⟨rfl, rfl, rfl⟩
  simp [Leaves, settle, results, Try.results42, go_sem, hc]
  exact ⟨hR _ _ _ HR.out, hlw.set (by simp) _⟩

set_option maxHeartbeats 400000 in
theorem scaught_raised (g : Nat) (caps : Array Value) (k : Int) (w : World) (hent : ∀ W : World, (callFunc g caps).run Try.prog W = .ok (.enter g caps) W)
    (hwork : Calls Try.prog g caps (boxed w) fun e w' => e = .panicked (raise k) ∧ Lo (boxed w) w') :
    Calls Try.prog 42 #[.func (.func g) #[] caps] w fun e w' => e = .returned (.tuple #[.string ⟨#[]⟩, .int .i64 k]) ∧ Lo w w' := by
  have hmf : ∀ (fn : Fn) (first cap : Array Value) (w : World), (Instr.makeFunc fn first cap).run Try.prog w = .ok (.func fn first cap) w := fun _ _ _ _ => rfl
  have HW := Lib.hid hwork
  clear hwork
  go_enter_defers Try.func42, Try.ntmps42
  go_wp2_with fail
  refine HW.out.mono ?_
  rintro e w1 ⟨rfl, hlo⟩
  obtain ⟨hz, hc, hsz, hlw⟩ := boxed_facts hlo
  clear hlo HW
  go_wp2_with fail
  refine leaves_cons (f := 55) (args := #[.pointer (some ⟨w.heap.size, 0, none⟩)]) (by simp) (by simp [go_sem]) ?_
  refine (scatch_panicking ⟨w.heap.size, 0, none⟩ 0 k [] _ hc hz).mono ?_
  rintro e u' w'' ⟨rfl, rfl, rfl⟩
  simp [Leaves, settle, results, Try.results42, go_sem, hc]
  exact hlw.set (by simp) _
end Go.Proofs.Ytjeahgdefdlabaa
