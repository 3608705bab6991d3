/-
  Contracts of package fixed's inner functions: within, caught and its deferred closure. No conditions.
-/
import Derived.Test.YtbcilhdamjgoeaaFxLo
namespace Go.Proofs.Ytbcilhdamjgoeaa
open Go.RowKit

set_option maxHeartbeats 400000 in
theorem within_ok (n : Int) (w : World) (h1 : -1073741823 ≤ n) (h2 : n ≤ 1073741823) :
    Calls Try.prog 81 #[.int .i64 n] w fun e w' => e = .returned (.int .i64 n) ∧ w = w' := by
  go_enter Try.func81, Try.ntmps81
  go_wp2
  go_ret
  exact ⟨rfl, rfl⟩

/-- What within raises. -/
def over : List PanicEntry := [{ v := .iface 24 (.int .i64 2), recovered := false }]

set_option maxHeartbeats 400000 in
theorem within_over (n : Int) (w : World) (h : n < -1073741823 ∨ 1073741823 < n) :
    Calls Try.prog 81 #[.int .i64 n] w fun e w' => e = .panicked over ∧ w = w' := by
  rcases h with h | h
  · go_enter Try.func81, Try.ntmps81
    go_wp2
    exact ⟨rfl, rfl, rfl⟩
  · have h' : ¬ n < -1073741823 := by omega
    go_enter Try.func81, Try.ntmps81
    go_wp2
    exact ⟨rfl, rfl, rfl⟩

theorem catch_panicking (p q : Addr) (x y : Int) (u : TypeId) (pv : Value) (older : List PanicEntry) (w : World)
    (hc : w.cell? p = some (.int .i64 x)) (hz : w.frozen? p = false) (hd : (w.setCell p (.int .i64 0)).cell? q = some (.int .i64 y)) (hy : (w.setCell p (.int .i64 0)).frozen? q = false) :
    CallsD Try.prog 109 #[.pointer (some p), .pointer (some q)] (.panicking ({ v := .iface u pv, recovered := false } :: older)) w fun e u' w' =>
      e = .returned (.tuple #[]) ∧ u' = .panicking ({ v := .iface u pv, recovered := true } :: older) ∧ w' = (w.setCell p (.int .i64 0)).setCell q (.int .i64 2) := by
  refine callsD_of_wpS Try.func109 rfl fun c₀ cs hu => ?_
  apply wpS_seq
  apply wpS_region
  simp [wpOpsS, go_sem, recoverD, hu, Try.ntmps109, Exit.thenS]
  refine wpS_cond (t := true) (by simp [Act.eval, Array.replicate]) ?_
  simp only [if_true]
  apply wpS_region
  simp [wpOpsS, go_sem, hc, hz, hd, hy, bodyPostS, results, Try.results109]

theorem catch_idle (p q : Addr) (w : World) :
    CallsD Try.prog 109 #[.pointer (some p), .pointer (some q)] .returning w fun e u' w' => e = .returned (.tuple #[]) ∧ u' = .returning ∧ w' = w := by
  refine callsD_of_wpS Try.func109 rfl fun c₀ cs hu => ?_
  apply wpS_seq
  apply wpS_region
  simp [wpOpsS, go_sem, recoverD, hu, Try.ntmps109, Exit.thenS]
  refine wpS_cond (t := false) (by simp [Act.eval, Array.replicate]) ?_
  simp only [Bool.false_eq_true, if_false]
  refine wpS_of_wp (wp_skip ?_)
  cases c₀
  simp_all [bodyPostS, results, Try.results109]

/-- The world in which the work of caught begins: two named results. -/
def fboxed (w : World) : World := (w.alloc (.cells #[.int .i64 0] 3)).alloc (.cells #[.int .i64 0] 24)

theorem fboxed_facts {w w1 : World} (h : Lo (fboxed w) w1) : (w1.frozen? ⟨w.heap.size, 0, none⟩ = false ∧ w1.frozen? ⟨w.heap.size + 1, 0, none⟩ = false) ∧
    (w1.cell? ⟨w.heap.size, 0, none⟩ = some (.int .i64 0) ∧ w1.cell? ⟨w.heap.size + 1, 0, none⟩ = some (.int .i64 0)) ∧ w.heap.size + 1 < w1.heap.size ∧ Lo w w1 := by
  have hs : (fboxed w).heap.size = w.heap.size + 2 := by simp [fboxed]
  have hz : Lo w (fboxed w) := ((Lo.refl w).alloc _).alloc _
  refine ⟨⟨?_, ?_⟩, ⟨?_, ?_⟩, ?_, hz.trans h⟩
  · rw [h.frozen (by omega)]; simp [fboxed, go_sem]
  · rw [h.frozen (by omega)]; simp [fboxed, go_sem]
  · rw [h.cell (by omega)]; simp [fboxed, go_sem]
  · rw [h.cell (by omega)]; simp [fboxed, go_sem]
  · have := h.size; omega

set_option maxHeartbeats 400000 in
theorem caught_ret (g : Nat) (caps : Array Value) (n : Int) (w : World) (hent : ∀ W : World, (callFunc g caps).run Try.prog W = .ok (.enter g caps) W)
    (hwork : Calls Try.prog g caps (fboxed w) fun e w' => e = .returned (.int .i64 n) ∧ Lo (fboxed w) w') :
    Calls Try.prog 79 #[.func (.func g) #[] caps] w fun e w' => e = .returned (.tuple #[.int .i64 n, .int .i64 0]) ∧ Lo w w' := by
  have hmf : ∀ (fn : Fn) (first cap : Array Value) (w : World), (Instr.makeFunc fn first cap).run Try.prog w = .ok (.func fn first cap) w := fun _ _ _ _ => rfl
  have HW := Lib.hid hwork
  clear hwork
  go_enter_defers Try.func79, Try.ntmps79
  go_wp2_with fail
  refine HW.out.mono ?_
  rintro e w1 ⟨rfl, hlo⟩
  obtain ⟨⟨hz1, hz2⟩, ⟨hc1, hc2⟩, hsz, hlw⟩ := fboxed_facts hlo
  clear hlo HW
  go_wp2_with fail
  refine leaves_cons (f := 109) (args := #[.pointer (some ⟨w.heap.size, 0, none⟩), .pointer (some ⟨w.heap.size + 1, 0, none⟩)]) (by simp) (by simp [go_sem]) ?_
  refine (catch_idle ⟨w.heap.size, 0, none⟩ ⟨w.heap.size + 1, 0, none⟩ _).mono ?_
  rintro e u' w'' ⟨rfl, rfl, rfl⟩
  simp [Leaves, settle, results, Try.results79, go_sem, hc1, hc2]
  exact (hlw.set (by simp) _).set (by simp) _

set_option maxHeartbeats 400000 in
theorem caught_over (g : Nat) (caps : Array Value) (w : World) (hent : ∀ W : World, (callFunc g caps).run Try.prog W = .ok (.enter g caps) W)
    (hwork : Calls Try.prog g caps (fboxed w) fun e w' => e = .panicked over ∧ Lo (fboxed w) w') :
    Calls Try.prog 79 #[.func (.func g) #[] caps] w fun e w' => e = .returned (.tuple #[.int .i64 0, .int .i64 2]) ∧ Lo w w' := by
  have hmf : ∀ (fn : Fn) (first cap : Array Value) (w : World), (Instr.makeFunc fn first cap).run Try.prog w = .ok (.func fn first cap) w := fun _ _ _ _ => rfl
  have HW := Lib.hid hwork
  clear hwork
  go_enter_defers Try.func79, Try.ntmps79
  go_wp2_with fail
  refine HW.out.mono ?_
  rintro e w1 ⟨rfl, hlo⟩
  obtain ⟨⟨hz1, hz2⟩, ⟨hc1, hc2⟩, hsz, hlw⟩ := fboxed_facts hlo
  clear hlo HW
  go_wp2_with fail
  refine leaves_cons (f := 109) (args := #[.pointer (some ⟨w.heap.size, 0, none⟩), .pointer (some ⟨w.heap.size + 1, 0, none⟩)]) (by simp) (by simp [go_sem]) ?_
  refine (catch_panicking ⟨w.heap.size, 0, none⟩ ⟨w.heap.size + 1, 0, none⟩ 0 0 24 _ [] _ hc1 hz1 ?_ ?_).mono ?_
  · simp [go_sem, hc2]
  · simp [go_sem, hz2]
  rintro e u' w'' ⟨rfl, rfl, rfl⟩
  simp [Leaves, settle, results, Try.results79, go_sem, hc1, hc2]
  exact (hlw.set (by simp) _).set (by simp) _

end Go.Proofs.Ytbcilhdamjgoeaa
