/-
  The walk of the law FixedTurns: it returns true for all ints. No conditions.
-/
import Derived.Test.YtnhegoimmlnmcaaFxTimes
import Derived.Test.YtnhegoimmlnmcaaFxNear
namespace Go.Proofs.Ytnhegoimmlnmcaa
open Go.RowKit

set_option maxHeartbeats 800000 in
theorem fixedTurns_no (a b c : Int) (w : World) (h : Fx.is [a, b, c] = false) :
    Calls Try.prog 5 #[.int .i64 a, .int .i64 b, .int .i64 c] w fun e w' => e = .returned (.bool true) ∧ Lo w w' := by
  have HM := Lib.hid (fun W => muldiv_any a b c W)
  rw [show Fx.mulDiv a b c = (0, 1) from by rw [Fx.mulDiv, if_neg (by simp [h])]] at HM
  have HI := Lib.hid h
  clear h
  go_enter Try.func5, Try.ntmps5
  go_wp2_with fail
  refine (is_any _ [a, b, c] _ (row3 _ _ (by simp) a b c)).mono ?_
  rintro e w5 ⟨rfl, rfl⟩
  rw [HI.out]
  go_wp2_with fail
  refine (HM.out _).mono ?_
  rintro e w1 ⟨rfl, l1⟩
  go_wp2_with fail
  refine (checked_any _).mono ?_
  rintro e w2 ⟨rfl, l2⟩
  go_wp2_with fail
  go_ret
  exact ⟨rfl, (((Lo.refl w).alloc _).trans l1).trans l2⟩

set_option maxHeartbeats 1600000 in
theorem fixedTurns_yes (a b c q x : Int) (w : World) (h : Fx.is [a, b, c] = true) (hq : Fx.mulDiv a b c = (q, x)) (q1 : -1073741823 ≤ q) (q2 : q ≤ 1073741823) (h0 : ¬ c = 0) :
    Calls Try.prog 5 #[.int .i64 a, .int .i64 b, .int .i64 c] w fun e w' => e = .returned (.bool true) ∧ Lo w w' := by
  obtain ⟨ha, hb, hc⟩ : Fx.len a = true ∧ Fx.len b = true ∧ Fx.len c = true := by simpa [Fx.is] using h
  obtain ⟨a1, a2⟩ := (Fx.len_iff a).1 ha
  obtain ⟨c1, c2⟩ := (Fx.len_iff c).1 hc
  have H1 := Lib.hid (fun W => muldiv_any a b c W)
  have H2 := Lib.hid (fun W => muldiv_any b a c W)
  have H3 := Lib.hid (fun W => muldiv_any (-a) b (-c) W)
  have H4 := Lib.hid (fun W => muldiv_any (-a) b c W)
  have H5 := Lib.hid (fun W => muldiv_any a c c W)
  rw [hq] at H1
  rw [← Fx.mulDiv_comm, hq] at H2
  rw [Fx.mulDiv_neg2, hq] at H3
  rw [Fx.mulDiv_neg, hq] at H4
  rw [Fx.mulDiv_self a c ha hc h0] at H5
  have HI := Lib.hid h
  have h0' : (c == 0) = false := by simpa using h0
  clear h hq ha hb hc h0
  go_enter Try.func5, Try.ntmps5
  go_wp2_with fail
  refine (is_any _ [a, b, c] _ (row3 _ _ (by simp) a b c)).mono ?_
  rintro e w5 ⟨rfl, rfl⟩
  rw [HI.out]
  go_wp2_with fail
  refine (H1.out _).mono ?_
  rintro e w1 ⟨rfl, l1⟩
  go_wp2_with fail
  refine (H2.out _).mono ?_
  rintro e w2 ⟨rfl, l2⟩
  go_wp2_with fail
  refine (H3.out _).mono ?_
  rintro e w3 ⟨rfl, l3⟩
  go_wp2_with fail
  refine (H4.out _).mono ?_
  rintro e w4 ⟨rfl, l4⟩
  go_wp2_with fail
  refine (H5.out _).mono ?_
  rintro e w5 ⟨rfl, l5⟩
  go_wp2_with fail
  refine (checked_any _).mono ?_
  rintro e w6 ⟨rfl, l6⟩
  go_wp2_with fail
  go_ret
  exact ⟨rfl, ((((((((Lo.refl w).alloc _).trans l1).trans l2).trans l3).trans l4).trans l5).trans l6)⟩

set_option maxHeartbeats 1600000 in
theorem fixedTurns_nought (a b : Int) (w : World) (h : Fx.is [a, b, 0] = true) :
    Calls Try.prog 5 #[.int .i64 a, .int .i64 b, .int .i64 0] w fun e w' => e = .returned (.bool true) ∧ Lo w w' := by
  obtain ⟨ha, hb⟩ : Fx.len a = true ∧ Fx.len b = true := by simp [Fx.is] at h; exact ⟨h.1, h.2.1⟩
  obtain ⟨a1, a2⟩ := (Fx.len_iff a).1 ha
  have H1 := Lib.hid (fun W x y => muldiv_any x y 0 W)
  have hz : ∀ x y, Fx.mulDiv x y 0 = (0, 1) := fun x y => by rw [Fx.mulDiv, if_neg (by simp)]
  have HZ := Lib.hid hz
  have HI := Lib.hid h
  clear h ha hb hz
  go_enter Try.func5, Try.ntmps5
  go_wp2_with fail
  refine (is_any _ [a, b, 0] _ (row3 _ _ (by simp) a b 0)).mono ?_
  rintro e w5 ⟨rfl, rfl⟩
  rw [HI.out]
  go_wp2_with fail
  refine (H1.out _ a b).mono ?_
  rintro e w1 ⟨rfl, l1⟩
  rw [HZ.out]
  go_wp2_with fail
  refine (H1.out _ b a).mono ?_
  rintro e w2 ⟨rfl, l2⟩
  rw [HZ.out]
  go_wp2_with fail
  refine (H1.out _ (-a) b).mono ?_
  rintro e w3 ⟨rfl, l3⟩
  rw [HZ.out]
  go_wp2_with fail
  refine (H1.out _ (-a) b).mono ?_
  rintro e w4 ⟨rfl, l4⟩
  rw [HZ.out]
  go_wp2_with fail
  refine (checked_any _).mono ?_
  rintro e w6 ⟨rfl, l6⟩
  go_wp2_with fail
  go_ret
  exact ⟨rfl, (((((((Lo.refl w).alloc _).trans l1).trans l2).trans l3).trans l4).trans l6)⟩

theorem Fx.told_bd (q : Int) : -1073741823 ≤ (Fx.told q).1 ∧ (Fx.told q).1 ≤ 1073741823 := by
  unfold Fx.told
  by_cases h : Fx.len q = true
  · rw [if_pos h]; exact (Fx.len_iff q).1 h
  · rw [if_neg h]; decide
theorem Fx.mulDiv_bd (a b c : Int) : -1073741823 ≤ (Fx.mulDiv a b c).1 ∧ (Fx.mulDiv a b c).1 ≤ 1073741823 := by
  unfold Fx.mulDiv
  by_cases h : Fx.is [a, b, c] = true ∧ c ≠ 0
  · rw [if_pos h]; exact Fx.told_bd _
  · rw [if_neg h]; decide

theorem fixedTurns_walk (a0 a1 a2 : Int) (_w0 : (Lit.int .i64 a0).wf = true) (_w1 : (Lit.int .i64 a1).wf = true) (_w2 : (Lit.int .i64 a2).wf = true) (w : World) :
    Calls Try.prog 5 #[.int .i64 a0, .int .i64 a1, .int .i64 a2] w fun e w' => e = .returned (.bool true) ∧ Below w.heap.size w w' := by
  by_cases h : Fx.is [a0, a1, a2] = true
  · by_cases h0 : a2 = 0
    · subst h0; exact fixedTurns_nought a0 a1 w h
    · obtain ⟨q1, q2⟩ := Fx.mulDiv_bd a0 a1 a2
      exact fixedTurns_yes a0 a1 a2 _ (Fx.mulDiv a0 a1 a2).2 w h rfl q1 q2 h0
  · exact fixedTurns_no a0 a1 a2 w (by simpa using h)

end Go.Proofs.Ytnhegoimmlnmcaa
