/-
  The contracts of dimen.caught and its deferred closure: what the work answers, or the error that it raises. No conditions.
-/
import Derived.Test.YtlfhnldeidgkjaaDoorDmNear
namespace Go.Proofs.YtlfhnldeidgkjaaDoor
open Go.RowKit

theorem ta_hit (v : Value) (W : World) : (Instr.typeAssert (.iface 23 v) 20 23 true).run Tryd.prog W = .ok (.tuple #[v, .bool true]) W := by
  simp [Instr.typeAssert, run_underlying Tryd.underlying23]
theorem ta_nil (W : World) : (Instr.typeAssert .nilIface 20 23 true).run Tryd.prog W = .ok (.tuple #[.int .i64 0, .bool false]) W := by
  have hz : (zeroValue 23).run Tryd.prog W = .ok (.int .i64 0) W := by kernel_rfl
  simp [Instr.typeAssert, run_underlying Tryd.underlying23, hz]

set_option maxHeartbeats 400000 in
theorem catch_panicking (p q : Addr) (x y k : Int) (older : List PanicEntry) (w : World)
    (hc : w.cell? p = some (.int .i64 x)) (hz : w.frozen? p = false) (hd : (w.setCell p (.int .i64 0)).cell? q = some (.int .i64 y)) (hy : (w.setCell p (.int .i64 0)).frozen? q = false) :
    CallsD Tryd.prog 47 #[.pointer (some p), .pointer (some q)] (.panicking ({ v := .iface 23 (.int .i64 k), recovered := false } :: older)) w fun e u' w' =>
      e = .returned (.tuple #[]) ∧ u' = .panicking ({ v := .iface 23 (.int .i64 k), recovered := true } :: older) ∧ w' = (w.setCell p (.int .i64 0)).setCell q (.int .i64 k) := by
  have ta := ta_hit
  refine callsD_of_wpS Tryd.func47 rfl fun c₀ cs hu => ?_
  apply wpS_seq
  apply wpS_region
  simp [wpOpsS, go_sem, recoverD, hu, Tryd.ntmps47, Exit.thenS, ta]
  apply wpS_seq
  apply wpS_region
  simp [wpOpsS, go_sem, Exit.thenS]
  refine wpS_cond (t := true) (by simp [Act.eval]) ?_
  simp only [if_true]
  apply wpS_region
  simp [wpOpsS, go_sem, hc, hz, hd, hy, bodyPostS, results, Tryd.results47]

set_option maxHeartbeats 400000 in
theorem catch_idle (p q : Addr) (w : World) :
    CallsD Tryd.prog 47 #[.pointer (some p), .pointer (some q)] .returning w fun e u' w' => e = .returned (.tuple #[]) ∧ u' = .returning ∧ w' = w := by
  have ta := ta_nil
  refine callsD_of_wpS Tryd.func47 rfl fun c₀ cs hu => ?_
  apply wpS_seq
  apply wpS_region
  simp [wpOpsS, go_sem, recoverD, hu, Tryd.ntmps47, Exit.thenS, ta]
  apply wpS_seq
  apply wpS_region
  simp [wpOpsS, go_sem, Exit.thenS]
  refine wpS_cond (t := false) (by simp [Act.eval]) ?_
  simp only [Bool.false_eq_true, if_false]
  refine wpS_of_wp (wp_skip ?_)
  cases c₀
  simp_all [bodyPostS, results, Tryd.results47]

/-- The world in which the work of caught begins: two named results. -/
def boxed (w : World) : World := (w.alloc (.cells #[.int .i64 0] 3)).alloc (.cells #[.int .i64 0] 23)

theorem boxed_lo (w : World) : Lo w (boxed w) := ((Lo.refl w).alloc _).alloc _
theorem boxed_facts {w w1 : World} (h : Lo (boxed w) w1) : (w1.frozen? ⟨w.heap.size, 0, none⟩ = false ∧ w1.frozen? ⟨w.heap.size + 1, 0, none⟩ = false) ∧
    (w1.cell? ⟨w.heap.size, 0, none⟩ = some (.int .i64 0) ∧ w1.cell? ⟨w.heap.size + 1, 0, none⟩ = some (.int .i64 0)) ∧ w.heap.size + 1 < w1.heap.size ∧ Lo w w1 := by
  have hs : (boxed w).heap.size = w.heap.size + 2 := by simp [boxed]
  refine ⟨⟨?_, ?_⟩, ⟨?_, ?_⟩, ?_, (boxed_lo w).trans h⟩
  · rw [h.frozen (by omega)]; simp [boxed, go_sem]
  · rw [h.frozen (by omega)]; simp [boxed, go_sem]
  · rw [h.cell (by omega)]; simp [boxed, go_sem]
  · rw [h.cell (by omega)]; simp [boxed, go_sem]
  · have := h.size; omega

set_option maxHeartbeats 400000 in
theorem caught_ret (g : Nat) (caps : Array Value) (n : Int) (w : World) (hent : ∀ W : World, (callFunc g caps).run Tryd.prog W = .ok (.enter g caps) W)
    (hwork : Calls Tryd.prog g caps (boxed w) fun e w' => e = .returned (.int .i64 n) ∧ Lo (boxed w) w') :
    Calls Tryd.prog 25 #[.func (.func g) #[] caps] w fun e w' => e = .returned (.tuple #[.int .i64 n, .int .i64 0]) ∧ Lo w w' := by
  have hmf : ∀ (fn : Fn) (first cap : Array Value) (w : World), (Instr.makeFunc fn first cap).run Tryd.prog w = .ok (.func fn first cap) w := fun _ _ _ _ => rfl
  have HW := Lib.hid hwork
  clear hwork
  go_enter_defers Tryd.func25, Tryd.ntmps25
  go_wp2_with fail
  refine HW.out.mono ?_
  rintro e w1 ⟨rfl, hlo⟩
  obtain ⟨⟨hz1, hz2⟩, ⟨hc1, hc2⟩, hsz, hlw⟩ := boxed_facts hlo
  clear hlo HW
  go_wp2_with fail
  refine leaves_cons (f := 47) (args := #[.pointer (some ⟨w.heap.size, 0, none⟩), .pointer (some ⟨w.heap.size + 1, 0, none⟩)]) (by simp) (by simp [go_sem]) ?_
  refine (catch_idle ⟨w.heap.size, 0, none⟩ ⟨w.heap.size + 1, 0, none⟩ _).mono ?_
  rintro e u' w'' ⟨rfl, rfl, rfl⟩
  simp [Leaves, settle, results, Tryd.results25, go_sem, hc1, hc2]
  exact (hlw.set (by simp) _).set (by simp) _

set_option maxHeartbeats 400000 in
theorem caught_raised (g : Nat) (caps : Array Value) (k : Int) (w : World) (hent : ∀ W : World, (callFunc g caps).run Tryd.prog W = .ok (.enter g caps) W)
    (hwork : Calls Tryd.prog g caps (boxed w) fun e w' => e = .panicked (raise k) ∧ Lo (boxed w) w') :
    Calls Tryd.prog 25 #[.func (.func g) #[] caps] w fun e w' => e = .returned (.tuple #[.int .i64 0, .int .i64 k]) ∧ Lo w w' := by
  have hmf : ∀ (fn : Fn) (first cap : Array Value) (w : World), (Instr.makeFunc fn first cap).run Tryd.prog w = .ok (.func fn first cap) w := fun _ _ _ _ => rfl
  have HW := Lib.hid hwork
  clear hwork
  go_enter_defers Tryd.func25, Tryd.ntmps25
  go_wp2_with fail
  refine HW.out.mono ?_
  rintro e w1 ⟨rfl, hlo⟩
  obtain ⟨⟨hz1, hz2⟩, ⟨hc1, hc2⟩, hsz, hlw⟩ := boxed_facts hlo
  clear hlo HW
  go_wp2_with fail
  refine leaves_cons (f := 47) (args := #[.pointer (some ⟨w.heap.size, 0, none⟩), .pointer (some ⟨w.heap.size + 1, 0, none⟩)]) (by simp) (by simp [go_sem]) ?_
  refine (catch_panicking ⟨w.heap.size, 0, none⟩ ⟨w.heap.size + 1, 0, none⟩ 0 0 k [] _ hc1 hz1 ?_ ?_).mono ?_
  · simp [go_sem, hc2]
  · simp [go_sem, hz2]
  rintro e u' w'' ⟨rfl, rfl, rfl⟩
  simp [Leaves, settle, results, Tryd.results25, go_sem, hc1, hc2]
  exact (hlw.set (by simp) _).set (by simp) _

/-- The answer that the work gives is known: so is caught's. -/
theorem caught_any (g : Nat) (caps : Array Value) (a : Int × Int) (w : World) (hent : ∀ W : World, (callFunc g caps).run Tryd.prog W = .ok (.enter g caps) W)
    (hwork : a.2 = 0 ∧ (Calls Tryd.prog g caps (boxed w) fun e w' => e = .returned (.int .i64 a.1) ∧ Lo (boxed w) w') ∨ a.1 = 0 ∧ (Calls Tryd.prog g caps (boxed w) fun e w' => e = .panicked (raise a.2) ∧ Lo (boxed w) w')) :
    Calls Tryd.prog 25 #[.func (.func g) #[] caps] w fun e w' => e = .returned (.tuple #[.int .i64 a.1, .int .i64 a.2]) ∧ Lo w w' := by
  rcases hwork with ⟨h0, hw⟩ | ⟨h0, hw⟩
  · rw [h0]; exact caught_ret g caps a.1 w hent hw
  · rw [h0]; exact caught_raised g caps a.2 w hent hw
end Go.Proofs.YtlfhnldeidgkjaaDoor
