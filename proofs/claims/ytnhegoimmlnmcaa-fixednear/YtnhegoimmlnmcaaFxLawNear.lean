/-
  The walk of the law FixedNear: it returns true for all ints. No conditions.
-/
import Derived.Test.YtnhegoimmlnmcaaFxTimes
import Derived.Test.YtnhegoimmlnmcaaFxNear
namespace Go.Proofs.Ytnhegoimmlnmcaa
open Go.RowKit

set_option maxHeartbeats 800000 in
theorem fixedNear_arg (a b c : Int) (w : World) (h : Fx.is [a, b, c] = false ∨ Fx.is [a, b, c] = true ∧ (c == 0) = true) (hq : Fx.mulDiv a b c = (0, 1)) :
    Calls Try.prog 4 #[.int .i64 a, .int .i64 b, .int .i64 c] w fun e w' => e = .returned (.bool true) ∧ Lo w w' := by
  have HM := Lib.hid (fun W => muldiv_any a b c W)
  rw [hq] at HM
  clear hq
  rcases h with h | ⟨h, h0⟩
  all_goals
    have HI := Lib.hid h
    clear h
    go_enter Try.func4, Try.ntmps4
    go_wp2_with fail
    refine (HM.out _).mono ?_
    rintro e w1 ⟨rfl, l1⟩
    go_wp2_with fail
    refine (checked_any _).mono ?_
    rintro e w2 ⟨rfl, l2⟩
    go_wp2_with fail
    refine (is_any _ [a, b, c] _ (row3 _ _ (by simp) a b c)).mono ?_
    rintro e w5 ⟨rfl, rfl⟩
    rw [HI.out]
    go_wp2_with fail
    go_ret
    exact ⟨rfl, (l1.trans l2).alloc _⟩

set_option maxHeartbeats 800000 in
theorem fixedNear_over (a b c : Int) (w : World) (hq : Fx.mulDiv a b c = (0, 2)) :
    Calls Try.prog 4 #[.int .i64 a, .int .i64 b, .int .i64 c] w fun e w' => e = .returned (.bool true) ∧ Lo w w' := by
  have HM := Lib.hid (fun W => muldiv_any a b c W)
  rw [hq] at HM
  clear hq
  go_enter Try.func4, Try.ntmps4
  go_wp2_with fail
  refine (HM.out _).mono ?_
  rintro e w1 ⟨rfl, l1⟩
  go_wp2_with fail
  refine (checked_any _).mono ?_
  rintro e w2 ⟨rfl, l2⟩
  go_wp2_with fail
  go_ret
  exact ⟨rfl, (l1.trans l2)⟩

set_option maxHeartbeats 1600000 in
theorem fixedNear_pos (a b c q : Int) (w : World) (hi : Fx.is [a, b, c, q] = true) (hc : 0 < c) (hq : Fx.mulDiv a b c = (q, 0))
    (m1 : -1152921504606846976 ≤ a * b) (m2 : a * b ≤ 1152921504606846976) (t1 : -1152921504606846976 ≤ q * c) (t2 : q * c ≤ 1152921504606846976)
    (n1 : 2 * (q * c - a * b) ≤ c) (n2 : -c ≤ 2 * (q * c - a * b)) (hs : 2 * (q * c - a * b) = c ∨ 2 * (q * c - a * b) = -c → (0 ≤ a * b ↔ a * b ≤ q * c)) :
    Calls Try.prog 4 #[.int .i64 a, .int .i64 b, .int .i64 c] w fun e w' => e = .returned (.bool true) ∧ Lo w w' := by
  obtain ⟨c1, c2⟩ : -1073741823 ≤ c ∧ c ≤ 1073741823 := (Fx.len_iff c).1 (by simp [Fx.is] at hi; exact hi.2.2.1)
  have HM := Lib.hid (fun W => muldiv_any a b c W)
  rw [hq] at HM
  have HI := Lib.hid hi
  have h0 : (c == 0) = false := by rw [beq_eq_false_iff_ne]; omega
  have hcase : ((2 * (q * c - a * b) != c) = true ∧ (2 * (q * c - a * b) != -c) = true) ∨
      ((2 * (q * c - a * b) != c) = true ∧ (2 * (q * c - a * b) != -c) = false ∧ (decide (0 ≤ a * b) == decide (a * b ≤ q * c)) = true) ∨
      ((2 * (q * c - a * b) != c) = false ∧ (decide (0 ≤ a * b) == decide (a * b ≤ q * c)) = true) := by
    by_cases h1 : 2 * (q * c - a * b) = c
    · exact .inr (.inr ⟨by rw [h1]; simp, by have := hs (.inl h1); simpa using this⟩)
    · by_cases h2 : 2 * (q * c - a * b) = -c
      · exact .inr (.inl ⟨by rw [bne_iff_ne]; exact h1, by rw [h2]; simp, by have := hs (.inr h2); simpa using this⟩)
      · exact .inl ⟨by rw [bne_iff_ne]; exact h1, by rw [bne_iff_ne]; exact h2⟩
  clear hq hi hs
  go_enter Try.func4, Try.ntmps4
  go_wp2_with fail
  refine (HM.out _).mono ?_
  rintro e w1 ⟨rfl, l1⟩
  go_wp2_with fail
  refine (is_any _ [a, b, c, q] _ (row4 _ _ (by simp) a b c q)).mono ?_
  rintro e w5 ⟨rfl, rfl⟩
  rw [HI.out]
  rcases hcase with ⟨h1, h2⟩ | ⟨h1, h2, h3⟩ | ⟨h1, h3⟩
  all_goals
    go_wp2_with fail
    refine (checked_any _).mono ?_
    rintro e w6 ⟨rfl, l6⟩
    go_wp2_with fail
    go_ret
    exact ⟨rfl, (l1.alloc _).trans l6⟩

set_option maxHeartbeats 1600000 in
theorem fixedNear_neg (a b c q : Int) (w : World) (hi : Fx.is [a, b, c, q] = true) (hc : c < 0) (hq : Fx.mulDiv a b c = (q, 0))
    (m1 : -1152921504606846976 ≤ a * b) (m2 : a * b ≤ 1152921504606846976) (t1 : -1152921504606846976 ≤ q * c) (t2 : q * c ≤ 1152921504606846976)
    (n1 : 2 * (q * c - a * b) ≤ -c) (n2 : c ≤ 2 * (q * c - a * b)) (hs : 2 * (q * c - a * b) = -c ∨ 2 * (q * c - a * b) = c → (0 ≤ a * b ↔ a * b ≤ q * c)) :
    Calls Try.prog 4 #[.int .i64 a, .int .i64 b, .int .i64 c] w fun e w' => e = .returned (.bool true) ∧ Lo w w' := by
  obtain ⟨c1, c2⟩ : -1073741823 ≤ c ∧ c ≤ 1073741823 := (Fx.len_iff c).1 (by simp [Fx.is] at hi; exact hi.2.2.1)
  have HM := Lib.hid (fun W => muldiv_any a b c W)
  rw [hq] at HM
  have HI := Lib.hid hi
  have h0 : (c == 0) = false := by rw [beq_eq_false_iff_ne]; omega
  have hcase : ((2 * (q * c - a * b) != -c) = true ∧ (2 * (q * c - a * b) != c) = true) ∨
      ((2 * (q * c - a * b) != -c) = true ∧ (2 * (q * c - a * b) != c) = false ∧ (decide (0 ≤ a * b) == decide (a * b ≤ q * c)) = true) ∨
      ((2 * (q * c - a * b) != -c) = false ∧ (decide (0 ≤ a * b) == decide (a * b ≤ q * c)) = true) := by
    by_cases h1 : 2 * (q * c - a * b) = -c
    · exact .inr (.inr ⟨by rw [h1]; simp, by have := hs (.inl h1); simpa using this⟩)
    · by_cases h2 : 2 * (q * c - a * b) = c
      · exact .inr (.inl ⟨by rw [bne_iff_ne]; exact h1, by rw [h2]; simp, by have := hs (.inr h2); simpa using this⟩)
      · exact .inl ⟨by rw [bne_iff_ne]; exact h1, by rw [bne_iff_ne]; exact h2⟩
  clear hq hi hs
  go_enter Try.func4, Try.ntmps4
  go_wp2_with fail
  refine (HM.out _).mono ?_
  rintro e w1 ⟨rfl, l1⟩
  go_wp2_with fail
  refine (is_any _ [a, b, c, q] _ (row4 _ _ (by simp) a b c q)).mono ?_
  rintro e w5 ⟨rfl, rfl⟩
  rw [HI.out]
  rcases hcase with ⟨h1, h2⟩ | ⟨h1, h2, h3⟩ | ⟨h1, h3⟩
  all_goals
    go_wp2_with fail
    refine (checked_any _).mono ?_
    rintro e w6 ⟨rfl, l6⟩
    go_wp2_with fail
    go_ret
    exact ⟨rfl, (l1.alloc _).trans l6⟩

theorem fixedNear_walk (a0 a1 a2 : Int) (_w0 : (Lit.int .i64 a0).wf = true) (_w1 : (Lit.int .i64 a1).wf = true) (_w2 : (Lit.int .i64 a2).wf = true) (w : World) :
    Calls Try.prog 4 #[.int .i64 a0, .int .i64 a1, .int .i64 a2] w fun e w' => e = .returned (.bool true) ∧ Below w.heap.size w w' := by
  by_cases h : Fx.is [a0, a1, a2] = true ∧ a2 ≠ 0
  · obtain ⟨ha, hb, hc⟩ : Fx.len a0 = true ∧ Fx.len a1 = true ∧ Fx.len a2 = true := by simpa [Fx.is] using h.1
    by_cases hy : Fx.len (Fx.near (a0 * a1) a2) = true
    · have hq : Fx.mulDiv a0 a1 a2 = (Fx.near (a0 * a1) a2, 0) := by rw [Fx.mulDiv, if_pos h, Fx.told, if_pos hy]
      obtain ⟨m1, m2⟩ := Fx.mul_bd ha hb
      obtain ⟨t1, t2⟩ := Fx.mul_bd hy hc
      obtain ⟨⟨n1, n2⟩, hs⟩ := Fx.near_spec (a0 * a1) a2 h.2
      have hi : Fx.is [a0, a1, a2, Fx.near (a0 * a1) a2] = true := by simp [Fx.is, ha, hb, hc, hy]
      by_cases hp : 0 < a2
      · have hz : Fx.size a2 = a2 := by unfold Fx.size; rw [if_neg (by omega)]
        rw [hz] at n1 n2 hs
        exact fixedNear_pos a0 a1 a2 _ w hi hp hq m1 m2 t1 t2 n1 n2 hs
      · have hz : Fx.size a2 = -a2 := by unfold Fx.size; rw [if_pos (by omega)]
        rw [hz] at n1 n2 hs
        rw [Int.neg_neg] at n2 hs
        exact fixedNear_neg a0 a1 a2 _ w hi (by omega) hq m1 m2 t1 t2 n1 n2 hs
    · exact fixedNear_over a0 a1 a2 w (by rw [Fx.mulDiv, if_pos h, Fx.told, if_neg hy])
  · refine fixedNear_arg a0 a1 a2 w ?_ (by rw [Fx.mulDiv, if_neg h])
    by_cases hi : Fx.is [a0, a1, a2] = true
    · refine .inr ⟨hi, ?_⟩
      simp only [hi, true_and] at h; simpa using h
    · exact .inl (by simpa using hi)

end Go.Proofs.Ytnhegoimmlnmcaa
