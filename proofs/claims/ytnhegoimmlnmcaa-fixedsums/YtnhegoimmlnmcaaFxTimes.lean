/-
  The contract of fixed.Times, for all integers. No conditions.
-/
import Derived.Test.YtnhegoimmlnmcaaFxCalls
import Derived.RegionDies
namespace Go.Proofs.Ytnhegoimmlnmcaa
open Go.RowKit

theorem within_q (n : Int) (w : World) (k : Nat) (h1 : -1073741823 ≤ n) (h2 : n ≤ 1073741823) :
    Calls Try.prog 25 #[.int .i64 n] (w.drewN k) fun e w' => e = .returned (.int .i64 n) ∧ ∃ m, w' = w.drewN m :=
  (within_ok n _ h1 h2).mono fun _ _ h => ⟨h.1, k, h.2.symm⟩

set_option maxHeartbeats 400000 in
theorem times1_ok (p q : Nat) (a n : Int) (w : World) (ha : Fx.len a = true) (hn : Fx.len n = true)
    (ca : w.cell? ⟨p, 0, none⟩ = some (.int .i64 a)) (cn : w.cell? ⟨q, 0, none⟩ = some (.int .i64 n)) (hy : Fx.len (a * n) = true) :
    Calls Try.prog 28 #[.pointer (some ⟨p, 0, none⟩), .pointer (some ⟨q, 0, none⟩)] w fun e w' => e = .returned (.int .i64 (a * n)) ∧ Lo w w' := by
  obtain ⟨m1, m2⟩ := Fx.mul_bd ha hn
  obtain ⟨n1, n2⟩ := (Fx.len_iff n).1 hn
  obtain ⟨y1, y2⟩ := (Fx.len_iff _).1 hy
  clear ha hn hy
  have hwr : IntKind.i64.wrap (a * n) = a * n := IntWalk.i64_in _ (by omega)
  go_enter Try.func28, Try.ntmps28
  go_wp2_with fail
  go_quiet ((go_at_call 25; (with_reducible exact within_q _ _ _ (by assumption) (by assumption))))
  go_wp2_with fail
  go_ret
  exact ⟨rfl, (Lo.refl w).drewN _⟩

set_option maxHeartbeats 400000 in
theorem times1_far (p q : Nat) (a n : Int) (w : World) (hn : n < -1073741823 ∨ 1073741823 < n)
    (ca : w.cell? ⟨p, 0, none⟩ = some (.int .i64 a)) (cn : w.cell? ⟨q, 0, none⟩ = some (.int .i64 n)) :
    Calls Try.prog 28 #[.pointer (some ⟨p, 0, none⟩), .pointer (some ⟨q, 0, none⟩)] w fun e w' => e = .panicked over ∧ Lo w w' := by
  have HN := Lib.hid hn
  clear hn
  go_enter Try.func28, Try.ntmps28
  go_wp2_with fail
  go_region_dies
  all_goals
    refine (within_over n _ HN.out).mono ?_
    rintro e w' ⟨rfl, rfl⟩
    exact ⟨rfl, rfl, (Lo.refl w).drew⟩

set_option maxHeartbeats 400000 in
theorem times1_over (p q : Nat) (a n : Int) (w : World) (ha : Fx.len a = true) (hn : Fx.len n = true) (hy : a * n < -1073741823 ∨ 1073741823 < a * n)
    (ca : w.cell? ⟨p, 0, none⟩ = some (.int .i64 a)) (cn : w.cell? ⟨q, 0, none⟩ = some (.int .i64 n)) :
    Calls Try.prog 28 #[.pointer (some ⟨p, 0, none⟩), .pointer (some ⟨q, 0, none⟩)] w fun e w' => e = .panicked over ∧ Lo w w' := by
  obtain ⟨m1, m2⟩ := Fx.mul_bd ha hn
  obtain ⟨n1, n2⟩ := (Fx.len_iff n).1 hn
  have hwr : IntKind.i64.wrap (a * n) = a * n := IntWalk.i64_in _ (by omega)
  have HY := Lib.hid hy
  clear ha hn hy
  go_enter Try.func28, Try.ntmps28
  go_wp2_with fail
  go_region_dies
  all_goals
    refine (within_ok n _ n1 n2).mono ?_
    rintro e w' ⟨rfl, rfl⟩
    simp only []
    rename_i K hK
    refine hK _ _ ?_
    clear hK K
  all_goals
    try (
      refine wpAny_ready (rs := [0]) (by decide +kernel) (by simp) ?_
      refine AllReady.cons rfl (fun K hK => ?_) AllReady.nil
      go_simp
      refine hK _ _ ?_
      clear hK K)
    refine wpAny_ready (rs := [3]) (by decide +kernel) (by simp) ?_
    refine AllReady.cons rfl (fun K hK => ?_) AllReady.nil
    go_simp
    refine hK _ _ ?_
    clear hK K
    refine wpAny_ready (rs := [4]) (by decide +kernel) (by simp) ?_
    refine AllReady.cons rfl (fun K hK => ?_) AllReady.nil
    go_simp
    refine (within_over (a * n) _ HY.out).mono ?_
    rintro e w' ⟨rfl, rfl⟩
    exact ⟨rfl, rfl, (Lo.refl w).drew⟩

/-- The world at Times' call of caught. -/
def tmW (w : World) (a n : Int) : World :=
  ((w.alloc (.cells #[.int .i64 a] 3)).alloc (.cells #[.int .i64 n] 3)).alloc (.cells #[.int .i64 a] 3)
theorem tmW_cells (w : World) (a n : Int) : (boxed (tmW w a n)).cell? ⟨w.heap.size, 0, none⟩ = some (.int .i64 a) ∧ (boxed (tmW w a n)).cell? ⟨w.heap.size + 1, 0, none⟩ = some (.int .i64 n) := by
  simp [boxed, tmW, go_sem]
theorem Lo.alloc3 (w : World) (a b c : Obj) : Lo w (((w.alloc a).alloc b).alloc c) := (((Lo.refl w).alloc a).alloc b).alloc c

theorem times_caught (a n : Int) (w : World) (ha : Fx.len a = true) :
    Calls Try.prog 23 #[.func (.func 28) #[] #[.pointer (some ⟨w.heap.size, 0, none⟩), .pointer (some ⟨w.heap.size + 1, 0, none⟩)]] (tmW w a n) fun e w' =>
      e = tup (if Fx.len n = true then Fx.told (a * n) else (0, 2)) ∧ Lo (tmW w a n) w' := by
  obtain ⟨c1, c2⟩ := tmW_cells w a n
  by_cases hn : Fx.len n = true
  · rw [if_pos hn]
    by_cases hy : Fx.len (a * n) = true
    · rw [Fx.told, if_pos hy]
      exact caught_ret _ _ _ _ (enter_times _) (times1_ok _ _ a n _ ha hn c1 c2 hy)
    · rw [Fx.told, if_neg hy]
      exact caught_over _ _ _ (enter_times _) (times1_over _ _ a n _ ha hn (Fx.len_no (by simpa using hy)) c1 c2)
  · rw [if_neg hn]
    exact caught_over _ _ _ (enter_times _) (times1_far _ _ a n _ (Fx.len_no (by simpa using hn)) c1 c2)

set_option maxHeartbeats 400000 in
theorem times_no (a n : Int) (w : World) (ha : Fx.len a = false) :
    Calls Try.prog 14 #[.int .i64 a, .int .i64 n] w fun e w' => e = tup (0, 1) ∧ Lo w w' := by
  have HI : Hid (Fx.is [a] = false) := by show _ = _; simp [Fx.is, ha]
  clear ha
  go_enter Try.func14, Try.ntmps14
  go_wp2_with fail
  refine (is_any _ [a] _ (row1 _ _ (by simp) a)).mono ?_
  rintro e w' ⟨rfl, rfl⟩
  rw [HI.out]
  go_wp2_with fail
  go_ret2
  exact ⟨rfl, Lo.alloc3 _ _ _ _⟩

set_option maxHeartbeats 400000 in
theorem times_zero (n : Int) (w : World) :
    Calls Try.prog 14 #[.int .i64 0, .int .i64 n] w fun e w' => e = tup (0, 0) ∧ Lo w w' := by
  have HI : Hid (Fx.is [0] = true) := by show _ = _; decide
  go_enter Try.func14, Try.ntmps14
  go_wp2_with fail
  refine (is_any _ [0] _ (row1 _ _ (by simp) 0)).mono ?_
  rintro e w' ⟨rfl, rfl⟩
  rw [HI.out]
  go_wp2_with fail
  go_ret2
  exact ⟨rfl, Lo.alloc3 _ _ _ _⟩

set_option maxHeartbeats 400000 in
theorem times_some (a n : Int) (w : World) (ha : Fx.len a = true) (h0 : ¬ a = 0) :
    Calls Try.prog 14 #[.int .i64 a, .int .i64 n] w fun e w' => e = tup (if Fx.len n = true then Fx.told (a * n) else (0, 2)) ∧ Lo w w' := by
  have hmf : ∀ (fn : Fn) (first cap : Array Value) (w : World), (Instr.makeFunc fn first cap).run Try.prog w = .ok (.func fn first cap) w := fun _ _ _ _ => rfl
  have HI : Hid (Fx.is [a] = true) := by show _ = _; simp [Fx.is, ha]
  have HM := Lib.hid (times_caught a n w ha)
  generalize (if Fx.len n = true then Fx.told (a * n) else (0, 2)) = y at *
  unfold tmW at HM
  have h0' : (a == 0) = false := by simpa using h0
  clear ha h0
  go_enter Try.func14, Try.ntmps14
  go_wp2_with fail
  refine (is_any _ [a] _ (row1 _ _ (by simp) a)).mono ?_
  rintro e w' ⟨rfl, rfl⟩
  rw [HI.out]
  go_wp2_with fail
  refine HM.out.mono ?_
  rintro e w1 ⟨rfl, hlo⟩
  go_wp2_with fail
  go_ret2
  exact ⟨rfl, (Lo.alloc3 _ _ _ _).trans hlo⟩

theorem times_any (a n : Int) (w : World) :
    Calls Try.prog 14 #[.int .i64 a, .int .i64 n] w fun e w' => e = tup (Fx.times a n) ∧ Lo w w' := by
  by_cases ha : Fx.len a = true
  · by_cases h0 : a = 0
    · subst h0
      rw [Fx.times, if_pos ha, if_pos rfl]; exact times_zero n w
    · rw [Fx.times, if_pos ha, if_neg h0]; exact times_some a n w ha h0
  · rw [Fx.times, if_neg ha]; exact times_no a n w (by simpa using ha)

set_option maxHeartbeats 800000 in
/-- The rows that each statement asks of the program. -/
theorem checked_any (w : World) : Calls Try.prog 20 #[] w fun e w' => e = .returned (.bool true) ∧ Lo w w' := by
  have H1 := Lib.hid (fun W => muldiv_any 5 1 2 W)
  have H2 := Lib.hid (fun W => muldiv_any (-5) 1 2 W)
  have H3 := Lib.hid (fun W => half_any (-3) W)
  have H4 := Lib.hid (fun W => add_any 1073741823 1 W)
  rw [show Fx.mulDiv 5 1 2 = (3, 0) from by decide] at H1
  rw [show Fx.mulDiv (-5) 1 2 = (-3, 0) from by decide] at H2
  rw [show Fx.half (-3) = (-2, 0) from by decide] at H3
  rw [show Fx.sum [1073741823, 1] = (0, 2) from by decide] at H4
  go_enter Try.func20, Try.ntmps20
  go_wp2_with fail
  refine (H1.out _).mono ?_
  rintro e w1 ⟨rfl, l1⟩
  go_wp2_with fail
  refine (H2.out _).mono ?_
  rintro e w2 ⟨rfl, l2⟩
  go_wp2_with fail
  refine (H3.out _).mono ?_
  rintro e w3 ⟨rfl, l3⟩
  go_wp2_with fail
  refine (H4.out _).mono ?_
  rintro e w4 ⟨rfl, l4⟩
  go_wp2_with fail
  refine (is_any _ [1, 1073741823] _ (row2 _ _ (by simp) 1 1073741823)).mono ?_
  rintro e w5 ⟨rfl, rfl⟩
  rw [show Fx.is [1, 1073741823] = true from by decide]
  go_wp2_with fail
  refine (is_any _ [-1073741824] _ (row1 _ _ (by simp) (-1073741824))).mono ?_
  rintro e w5 ⟨rfl, rfl⟩
  rw [show Fx.is [-1073741824] = false from by decide]
  go_wp2_with fail
  go_ret
  exact ⟨rfl, ((((l1.trans l2).trans l3).trans l4).alloc _).alloc _⟩

end Go.Proofs.Ytnhegoimmlnmcaa
