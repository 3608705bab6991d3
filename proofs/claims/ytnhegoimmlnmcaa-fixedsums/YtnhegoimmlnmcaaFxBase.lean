/-
  Contracts of package fixed's inner functions: Is over a slice in memory, within, caught and its deferred closure. No conditions.
-/
import Derived.Test.YtnhegoimmlnmcaaRows
import Derived.Test.YtnhegoimmlnmcaaFxMath
import Derived.WalkKit
import Derived.WalkSpells
import Derived.WalkLawsBesides
import Derived.Defers
import Derived.Recover
import Derived.Lib.Hide
namespace Go.Proofs.Ytnhegoimmlnmcaa
open Go.RowKit

/-- Of what was there nothing has turned. A plain def, closed to the walk. -/
def Lo (w w' : World) : Prop := Below w.heap.size w w'
theorem Lo.refl (w : World) : Lo w w := Below.refl _ _
theorem Lo.trans {a b c : World} (h : Lo a b) (k : Lo b c) : Lo a c := Below.trans h (Below.mono k h.size)
theorem Lo.alloc {a b : World} (h : Lo a b) (o : Obj) : Lo a (b.alloc o) := Below.alloc h h.size o
theorem Lo.drew {a b : World} (h : Lo a b) : Lo a b.drew := Below.drew h
theorem Lo.set {a b : World} (h : Lo a b) {p : Addr} (hp : a.heap.size ≤ p.block) (u : Value) : Lo a (b.setCell p u) := Below.setCell h hp u
theorem Lo.cell {w w' : World} (h : Lo w w') {b o : Nat} (hb : b < w.heap.size) : w'.cell? ⟨b, o, none⟩ = w.cell? ⟨b, o, none⟩ := Below.cell (p := ⟨b, o, none⟩) h hb
theorem Lo.frozen {w w' : World} (h : Lo w w') {b o : Nat} (hb : b < w.heap.size) : w'.frozen? ⟨b, o, none⟩ = w.frozen? ⟨b, o, none⟩ := Below.frozen (p := ⟨b, o, none⟩) h hb

/-- The slice v reads as the numbers l. -/
def Row (w : World) (v : Value) (l : List Int) : Prop :=
  (∃ p c, v = .slice p 0 c ∧ (p = none → c = 0) ∧ l = []) ∨
  ∃ b off cap, v = .slice (some ⟨b, off, none⟩) l.length cap ∧ l.length ≤ 9223372036854775807 ∧ l.length ≤ cap ∧ b < w.heap.size ∧ ∀ i, i < l.length → w.cell? ⟨b, off + i, none⟩ = some (.int .i64 (l.getD i 0))

theorem Row.lo {w w' : World} {v : Value} {l : List Int} (h : Row w v l) (hl : Lo w w') : Row w' v l := by
  rcases h with h | ⟨b, off, cap, h1, h2, h2b, h3, h4⟩
  · exact .inl h
  · exact .inr ⟨b, off, cap, h1, h2, h2b, Nat.lt_of_lt_of_le h3 hl.size, fun i hi => by rw [hl.cell h3]; exact h4 i hi⟩

theorem ret_bool {a b : Bool} (h : a = b) : Ending.returned (.bool a) = .returned (.bool b) := by rw [h]
theorem ret_int {k : IntKind} {a b : Int} (h : a = b) : Ending.returned (.int k a) = .returned (.int k b) := by rw [h]

set_option maxHeartbeats 400000 in
theorem is_nil_any (p : Option Addr) (c : Nat) (w : World) : Calls Try.prog 21 #[.slice p 0 c] w fun e w' => e = .returned (.bool true) ∧ w = w' := by
  go_enter Try.func21, Try.ntmps21
  go_wp2
  go_loop [7] (fun i => i = .int .i64 0) (fun _ => 0)
  case atStart => exact rfl
  case round =>
    subst hrel
    go_wp2
    go_ret
    exact ⟨rfl, rfl⟩

set_option maxHeartbeats 400000 in
theorem is_row_any (b off cap : Nat) (l : List Int) (w : World) (hm : l.length ≤ 9223372036854775807)
    (hc : ∀ i, i < l.length → w.cell? ⟨b, off + i, none⟩ = some (.int .i64 (l.getD i 0))) :
    Calls Try.prog 21 #[.slice (some ⟨b, off, none⟩) l.length cap] w fun e w' => e = .returned (.bool (Fx.is l)) ∧ w = w' := by
  generalize hn : l.length = n at *
  have HN : Hid (l.length = n) := hn
  have HC : Hid (∀ i, i < n → w.cell? ⟨b, off + i, none⟩ = some (.int .i64 (l.getD i 0))) := hc
  clear hn hc
  go_enter Try.func21, Try.ntmps21
  go_wp2
  go_loop [7] (fun i => ∃ k : Nat, k ≤ n ∧ i = .int .i64 k ∧ Fx.is (l.take k) = true) (fun i => n - (intOf i).toNat)
  case atStart => exact ⟨0, Nat.zero_le _, rfl, rfl⟩
  case round =>
    obtain ⟨k, hk, rfl, his⟩ := hrel
    have HI := Lib.hid his
    clear his
    by_cases hlt : k < n
    · have hcell := HC.out k hlt
      have hstep : l.take (k + 1) = l.take k ++ [l.getD k 0] := by
        have h' : k < l.length := by rw [HN.out]; exact hlt
        rw [List.take_succ_eq_append_getElem h']; simp [List.getD, List.getElem?_eq_getElem h']
      have HS := Lib.hid hstep
      clear hstep
      generalize hz : l.getD k 0 = z at *
      have HZ := Lib.hid hz
      clear hz
      by_cases h1 : z < -1073741823
      · go_wp2
        go_ret
        refine ⟨ret_bool ?_, rfl⟩
        symm
        have : Fx.len z = false := Fx.len_not (by omega)
        have hmem : z ∈ l := by
          have h' : k < l.length := by rw [HN.out]; exact hlt
          rw [← HZ.out]; simp [List.getD, List.getElem?_eq_getElem h']
        simp only [Fx.is]
        rw [Bool.eq_false_iff]
        intro hall
        rw [List.all_eq_true] at hall
        rw [hall z hmem] at this
        cases this
      · by_cases h2 : 1073741823 < z
        · go_wp2
          go_ret
          refine ⟨ret_bool ?_, rfl⟩
          symm
          have : Fx.len z = false := Fx.len_not (by omega)
          have hmem : z ∈ l := by
            have h' : k < l.length := by rw [HN.out]; exact hlt
            rw [← HZ.out]; simp [List.getD, List.getElem?_eq_getElem h']
          simp only [Fx.is]
          rw [Bool.eq_false_iff]
          intro hall
          rw [List.all_eq_true] at hall
          rw [hall z hmem] at this
          cases this
        · go_wp2
          go_round
          case rel =>
            refine ⟨k + 1, by omega, by go_num, ?_⟩
            rw [HS.out, Fx.is, List.all_append]
            have h0 : (l.take k).all Fx.len = true := HI.out
            simp [h0, Fx.len_yes (n := z) (by omega) (by omega)]
          case measure => simp [intOf]; omega
    · go_wp2
      go_ret
      refine ⟨ret_bool ?_, rfl⟩
      have h1 : l.take k = l := List.take_of_length_le (by rw [HN.out]; omega)
      have := HI.out
      rw [h1] at this
      exact this.symm

theorem is_any (v : Value) (l : List Int) (w : World) (h : Row w v l) :
    Calls Try.prog 21 #[v] w fun e w' => e = .returned (.bool (Fx.is l)) ∧ w = w' := by
  rcases h with ⟨p, c, rfl, _, rfl⟩ | ⟨b, off, cap, rfl, h2, h2b, h3, h4⟩
  · exact is_nil_any p c w
  · exact is_row_any b off cap l w h2 h4

set_option maxHeartbeats 400000 in
theorem within_ok (n : Int) (w : World) (h1 : -1073741823 ≤ n) (h2 : n ≤ 1073741823) :
    Calls Try.prog 25 #[.int .i64 n] w fun e w' => e = .returned (.int .i64 n) ∧ w = w' := by
  go_enter Try.func25, Try.ntmps25
  go_wp2
  go_ret
  exact ⟨rfl, rfl⟩

/-- What within raises. -/
def over : List PanicEntry := [{ v := .iface 24 (.int .i64 2), recovered := false }]

set_option maxHeartbeats 400000 in
theorem within_over (n : Int) (w : World) (h : n < -1073741823 ∨ 1073741823 < n) :
    Calls Try.prog 25 #[.int .i64 n] w fun e w' => e = .panicked over ∧ w = w' := by
  rcases h with h | h
  · go_enter Try.func25, Try.ntmps25
    go_wp2
    exact ⟨rfl, rfl, rfl⟩
  · have h' : ¬ n < -1073741823 := by omega
    go_enter Try.func25, Try.ntmps25
    go_wp2
    exact ⟨rfl, rfl, rfl⟩

theorem catch_panicking (p q : Addr) (x y : Int) (u : TypeId) (pv : Value) (older : List PanicEntry) (w : World)
    (hc : w.cell? p = some (.int .i64 x)) (hz : w.frozen? p = false) (hd : (w.setCell p (.int .i64 0)).cell? q = some (.int .i64 y)) (hy : (w.setCell p (.int .i64 0)).frozen? q = false) :
    CallsD Try.prog 33 #[.pointer (some p), .pointer (some q)] (.panicking ({ v := .iface u pv, recovered := false } :: older)) w fun e u' w' =>
      e = .returned (.tuple #[]) ∧ u' = .panicking ({ v := .iface u pv, recovered := true } :: older) ∧ w' = (w.setCell p (.int .i64 0)).setCell q (.int .i64 2) := by
  refine callsD_of_wpS Try.func33 rfl fun c₀ cs hu => ?_
  apply wpS_seq
  apply wpS_region
  simp [wpOpsS, go_sem, recoverD, hu, Try.ntmps33, Exit.thenS]
  refine wpS_cond (t := true) (by simp [Act.eval, Array.replicate]) ?_
  simp only [if_true]
  apply wpS_region
  simp [wpOpsS, go_sem, hc, hz, hd, hy, bodyPostS, results, Try.results33]

theorem catch_idle (p q : Addr) (w : World) :
    CallsD Try.prog 33 #[.pointer (some p), .pointer (some q)] .returning w fun e u' w' => e = .returned (.tuple #[]) ∧ u' = .returning ∧ w' = w := by
  refine callsD_of_wpS Try.func33 rfl fun c₀ cs hu => ?_
  apply wpS_seq
  apply wpS_region
  simp [wpOpsS, go_sem, recoverD, hu, Try.ntmps33, Exit.thenS]
  refine wpS_cond (t := false) (by simp [Act.eval, Array.replicate]) ?_
  simp only [Bool.false_eq_true, if_false]
  refine wpS_of_wp (wp_skip ?_)
  cases c₀
  simp_all [bodyPostS, results, Try.results33]

/-- The world in which the work of caught begins: two named results. -/
def boxed (w : World) : World := (w.alloc (.cells #[.int .i64 0] 3)).alloc (.cells #[.int .i64 0] 24)

theorem boxed_facts {w w1 : World} (h : Lo (boxed w) w1) : (w1.frozen? ⟨w.heap.size, 0, none⟩ = false ∧ w1.frozen? ⟨w.heap.size + 1, 0, none⟩ = false) ∧
    (w1.cell? ⟨w.heap.size, 0, none⟩ = some (.int .i64 0) ∧ w1.cell? ⟨w.heap.size + 1, 0, none⟩ = some (.int .i64 0)) ∧ w.heap.size + 1 < w1.heap.size ∧ Lo w w1 := by
  have hs : (boxed w).heap.size = w.heap.size + 2 := by simp [boxed]
  have hz : Lo w (boxed w) := ((Lo.refl w).alloc _).alloc _
  refine ⟨⟨?_, ?_⟩, ⟨?_, ?_⟩, ?_, hz.trans h⟩
  · rw [h.frozen (by omega)]; simp [boxed, go_sem]
  · rw [h.frozen (by omega)]; simp [boxed, go_sem]
  · rw [h.cell (by omega)]; simp [boxed, go_sem]
  · rw [h.cell (by omega)]; simp [boxed, go_sem]
  · have := h.size; omega

set_option maxHeartbeats 400000 in
theorem caught_ret (g : Nat) (caps : Array Value) (n : Int) (w : World) (hent : ∀ W : World, (callFunc g caps).run Try.prog W = .ok (.enter g caps) W)
    (hwork : Calls Try.prog g caps (boxed w) fun e w' => e = .returned (.int .i64 n) ∧ Lo (boxed w) w') :
    Calls Try.prog 23 #[.func (.func g) #[] caps] w fun e w' => e = .returned (.tuple #[.int .i64 n, .int .i64 0]) ∧ Lo w w' := by
  have hmf : ∀ (fn : Fn) (first cap : Array Value) (w : World), (Instr.makeFunc fn first cap).run Try.prog w = .ok (.func fn first cap) w := fun _ _ _ _ => rfl
  have HW := Lib.hid hwork
  clear hwork
  go_enter_defers Try.func23, Try.ntmps23
  go_wp2_with fail
  refine HW.out.mono ?_
  rintro e w1 ⟨rfl, hlo⟩
  obtain ⟨⟨hz1, hz2⟩, ⟨hc1, hc2⟩, hsz, hlw⟩ := boxed_facts hlo
  clear hlo HW
  go_wp2_with fail
  refine leaves_cons (f := 33) (args := #[.pointer (some ⟨w.heap.size, 0, none⟩), .pointer (some ⟨w.heap.size + 1, 0, none⟩)]) (by simp) (by simp [go_sem]) ?_
  refine (catch_idle ⟨w.heap.size, 0, none⟩ ⟨w.heap.size + 1, 0, none⟩ _).mono ?_
  rintro e u' w'' ⟨rfl, rfl, rfl⟩
  simp [Leaves, settle, results, Try.results23, go_sem, hc1, hc2]
  exact (hlw.set (by simp) _).set (by simp) _

set_option maxHeartbeats 400000 in
theorem caught_over (g : Nat) (caps : Array Value) (w : World) (hent : ∀ W : World, (callFunc g caps).run Try.prog W = .ok (.enter g caps) W)
    (hwork : Calls Try.prog g caps (boxed w) fun e w' => e = .panicked over ∧ Lo (boxed w) w') :
    Calls Try.prog 23 #[.func (.func g) #[] caps] w fun e w' => e = .returned (.tuple #[.int .i64 0, .int .i64 2]) ∧ Lo w w' := by
  have hmf : ∀ (fn : Fn) (first cap : Array Value) (w : World), (Instr.makeFunc fn first cap).run Try.prog w = .ok (.func fn first cap) w := fun _ _ _ _ => rfl
  have HW := Lib.hid hwork
  clear hwork
  go_enter_defers Try.func23, Try.ntmps23
  go_wp2_with fail
  refine HW.out.mono ?_
  rintro e w1 ⟨rfl, hlo⟩
  obtain ⟨⟨hz1, hz2⟩, ⟨hc1, hc2⟩, hsz, hlw⟩ := boxed_facts hlo
  clear hlo HW
  go_wp2_with fail
  refine leaves_cons (f := 33) (args := #[.pointer (some ⟨w.heap.size, 0, none⟩), .pointer (some ⟨w.heap.size + 1, 0, none⟩)]) (by simp) (by simp [go_sem]) ?_
  refine (catch_panicking ⟨w.heap.size, 0, none⟩ ⟨w.heap.size + 1, 0, none⟩ 0 0 24 _ [] _ hc1 hz1 ?_ ?_).mono ?_
  · simp [go_sem, hc2]
  · simp [go_sem, hz2]
  rintro e u' w'' ⟨rfl, rfl, rfl⟩
  simp [Leaves, settle, results, Try.results23, go_sem, hc1, hc2]
  exact (hlw.set (by simp) _).set (by simp) _

end Go.Proofs.Ytnhegoimmlnmcaa
