/-
  The walk of the law FixedGrows: it returns true for all ints. No conditions.
-/
import Derived.Test.YtnhegoimmlnmcaaFxTimes
import Derived.Test.YtnhegoimmlnmcaaFxNear
import Derived.Test.YtnhegoimmlnmcaaFxLawHalf
namespace Go.Proofs.Ytnhegoimmlnmcaa
open Go.RowKit

set_option maxHeartbeats 800000 in
theorem fixedGrows_no (a more b c : Int) (w : World) (h : Fx.is [a, more, b, c] = false) :
    Calls Try.prog 6 #[.int .i64 a, .int .i64 more, .int .i64 b, .int .i64 c] w fun e w' => e = .returned (.bool true) ∧ Lo w w' := by
  have HI := Lib.hid h
  clear h
  go_enter Try.func6, Try.ntmps6
  go_wp2_with fail
  refine (is_any _ [a, more, b, c] _ (row4 _ _ (by simp) a more b c)).mono ?_
  rintro e w5 ⟨rfl, rfl⟩
  rw [HI.out]
  go_wp2_with fail
  refine (checked_any _).mono ?_
  rintro e w2 ⟨rfl, l2⟩
  go_wp2_with fail
  go_ret
  exact ⟨rfl, ((Lo.refl w).alloc _).trans l2⟩

set_option maxHeartbeats 800000 in
theorem fixedGrows_out (a more b c : Int) (w : World) (h : Fx.is [a, more, b, c] = true) (hout : b < 0 ∨ ¬ b < 0 ∧ c ≤ 0 ∨ ¬ b < 0 ∧ ¬ c ≤ 0 ∧ more < 0) :
    Calls Try.prog 6 #[.int .i64 a, .int .i64 more, .int .i64 b, .int .i64 c] w fun e w' => e = .returned (.bool true) ∧ Lo w w' := by
  have HI := Lib.hid h
  clear h
  rcases hout with h1 | ⟨h1, h2⟩ | ⟨h1, h2, h3⟩
  all_goals
    go_enter Try.func6, Try.ntmps6
    go_wp2_with fail
    refine (is_any _ [a, more, b, c] _ (row4 _ _ (by simp) a more b c)).mono ?_
    rintro e w5 ⟨rfl, rfl⟩
    rw [HI.out]
    go_wp2_with fail
    refine (checked_any _).mono ?_
    rintro e w2 ⟨rfl, l2⟩
    go_wp2_with fail
    go_ret
    exact ⟨rfl, ((Lo.refl w).alloc _).trans l2⟩

set_option maxHeartbeats 1600000 in
theorem fixedGrows_in (a more b c d e q f r g : Int) (w : World) (h : Fx.is [a, more, b, c] = true) (h1 : 0 ≤ b) (h2 : 0 < c) (h3 : 0 ≤ more)
    (hd : Fx.sum [a, more] = (d, e)) (hq : Fx.mulDiv a b c = (q, f)) (hr : Fx.mulDiv d b c = (r, g))
    (hend : (e != 0) = true ∨ (e != 0) = false ∧ (f != 0) = true ∨ (e != 0) = false ∧ (f != 0) = false ∧ (g != 0) = true ∨ (e != 0) = false ∧ (f != 0) = false ∧ (g != 0) = false ∧ q ≤ r) :
    Calls Try.prog 6 #[.int .i64 a, .int .i64 more, .int .i64 b, .int .i64 c] w fun e w' => e = .returned (.bool true) ∧ Lo w w' := by
  have HI := Lib.hid h
  have H1 := Lib.hid (fun W => add_any a more W)
  have H2 := Lib.hid (fun W => muldiv_any a b c W)
  have H3 := Lib.hid (fun W => muldiv_any d b c W)
  rw [hd] at H1
  rw [hq] at H2
  rw [hr] at H3
  clear h hd hq hr
  go_enter Try.func6, Try.ntmps6
  go_wp2_with fail
  refine (is_any _ [a, more, b, c] _ (row4 _ _ (by simp) a more b c)).mono ?_
  rintro e w5 ⟨rfl, rfl⟩
  rw [HI.out]
  go_wp2_with fail
  refine (H1.out _).mono ?_
  rintro e w1 ⟨rfl, l1⟩
  go_wp2_with fail
  refine (H2.out _).mono ?_
  rintro e w2 ⟨rfl, l2⟩
  go_wp2_with fail
  refine (H3.out _).mono ?_
  rintro e w3 ⟨rfl, l3⟩
  rcases hend with he | ⟨he, hf⟩ | ⟨he, hf, hg⟩ | ⟨he, hf, hg, hle⟩
  all_goals
    go_wp2_with fail
    refine (checked_any _).mono ?_
    rintro e w6 ⟨rfl, l6⟩
    go_wp2_with fail
    go_ret
    exact ⟨rfl, ((((((Lo.refl w).alloc _).trans l1).trans l2).trans l3).trans l6)⟩

theorem Fx.told_cases (q : Int) : Fx.told q = (q, 0) ∨ Fx.told q = (0, 2) := by
  unfold Fx.told
  by_cases h : Fx.len q = true
  · rw [if_pos h]; exact .inl rfl
  · rw [if_neg h]; exact .inr rfl
theorem Fx.mulDiv_cases (a b c : Int) : Fx.mulDiv a b c = (Fx.near (a * b) c, 0) ∨ Fx.mulDiv a b c = (0, 2) ∨ Fx.mulDiv a b c = (0, 1) := by
  unfold Fx.mulDiv
  by_cases h : Fx.is [a, b, c] = true ∧ c ≠ 0
  · rw [if_pos h]; rcases Fx.told_cases (Fx.near (a * b) c) with h | h
    · exact .inl h
    · exact .inr (.inl h)
  · rw [if_neg h]; exact .inr (.inr rfl)

theorem fixedGrows_walk (a0 a1 a2 a3 : Int) (_w0 : (Lit.int .i64 a0).wf = true) (_w1 : (Lit.int .i64 a1).wf = true) (_w2 : (Lit.int .i64 a2).wf = true) (_w3 : (Lit.int .i64 a3).wf = true) (w : World) :
    Calls Try.prog 6 #[.int .i64 a0, .int .i64 a1, .int .i64 a2, .int .i64 a3] w fun e w' => e = .returned (.bool true) ∧ Below w.heap.size w w' := by
  by_cases h : Fx.is [a0, a1, a2, a3] = true
  · by_cases hin : 0 ≤ a2 ∧ 0 < a3 ∧ 0 ≤ a1
    · obtain ⟨h1, h2, h3⟩ := hin
      have ha : Fx.len a0 = true ∧ Fx.len a1 = true := by simp [Fx.is] at h; exact ⟨h.1, h.2.1⟩
      have hs := Fx.sum2 ha.1 ha.2
      rcases Fx.told_cases (a0 + a1) with ht | ht
      · rw [ht] at hs
        rcases Fx.mulDiv_cases a0 a2 a3 with hq | hq | hq
        · rcases Fx.mulDiv_cases (a0 + a1) a2 a3 with hr | hr | hr
          · refine fixedGrows_in a0 a1 a2 a3 _ _ _ _ _ _ w h h1 h2 h3 hs hq hr (.inr (.inr (.inr ⟨rfl, rfl, rfl, ?_⟩)))
            exact Fx.near_mono _ _ _ h2 (Int.mul_le_mul_of_nonneg_right (by omega) h1)
          · exact fixedGrows_in a0 a1 a2 a3 _ _ _ _ _ _ w h h1 h2 h3 hs hq hr (.inr (.inr (.inl ⟨rfl, rfl, rfl⟩)))
          · exact fixedGrows_in a0 a1 a2 a3 _ _ _ _ _ _ w h h1 h2 h3 hs hq hr (.inr (.inr (.inl ⟨rfl, rfl, rfl⟩)))
        · exact fixedGrows_in a0 a1 a2 a3 _ _ _ _ (Fx.mulDiv (a0 + a1) a2 a3).1 (Fx.mulDiv (a0 + a1) a2 a3).2 w h h1 h2 h3 hs hq rfl (.inr (.inl ⟨rfl, rfl⟩))
        · exact fixedGrows_in a0 a1 a2 a3 _ _ _ _ (Fx.mulDiv (a0 + a1) a2 a3).1 (Fx.mulDiv (a0 + a1) a2 a3).2 w h h1 h2 h3 hs hq rfl (.inr (.inl ⟨rfl, rfl⟩))
      · rw [ht] at hs
        exact fixedGrows_in a0 a1 a2 a3 _ _ (Fx.mulDiv a0 a2 a3).1 (Fx.mulDiv a0 a2 a3).2 (Fx.mulDiv 0 a2 a3).1 (Fx.mulDiv 0 a2 a3).2 w h h1 h2 h3 hs rfl rfl (.inl rfl)
    · exact fixedGrows_out a0 a1 a2 a3 w h (by omega)
  · exact fixedGrows_no a0 a1 a2 a3 w (by simpa using h)

end Go.Proofs.Ytnhegoimmlnmcaa
