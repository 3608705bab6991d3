/-
  The walk of the law FixedHalf: it returns true for every int. No conditions.
-/
import Derived.Test.YtnhegoimmlnmcaaFxTimes
namespace Go.Proofs.Ytnhegoimmlnmcaa
open Go.RowKit

theorem Fx.sum2 {a b : Int} (ha : Fx.len a = true) (hb : Fx.len b = true) : Fx.sum [a, b] = Fx.told (a + b) := by
  have hi : Fx.is [a, b] = true := by simp [Fx.is, ha, hb]
  rw [Fx.sum, if_pos hi, Fx.sumFrom, Int.zero_add, if_pos ha, Fx.sumFrom]
  unfold Fx.told
  by_cases h : Fx.len (a + b) = true
  · rw [if_pos h, if_pos h]; rfl
  · rw [if_neg h, if_neg h]; rfl

set_option maxHeartbeats 800000 in
theorem fixedHalf_no (a : Int) (w : World) (h : Fx.len a = false) :
    Calls Try.prog 8 #[.int .i64 a] w fun e w' => e = .returned (.bool true) ∧ Lo w w' := by
  have HH := Lib.hid (fun W => half_no a W h)
  have HI : Hid (Fx.is [a] = false) := by show _ = _; simp [Fx.is, h]
  clear h
  go_enter Try.func8, Try.ntmps8
  go_wp2_with fail
  refine (HH.out _).mono ?_
  rintro e w1 ⟨rfl, l1⟩
  go_wp2_with fail
  refine (is_any _ [a] _ (row1 _ _ (by simp) a)).mono ?_
  rintro e w5 ⟨rfl, rfl⟩
  rw [HI.out]
  go_wp2_with fail
  refine (checked_any _).mono ?_
  rintro e w2 ⟨rfl, l2⟩
  go_wp2_with fail
  go_ret
  exact ⟨rfl, (l1.alloc _).trans l2⟩

set_option maxHeartbeats 800000 in
theorem fixedHalf_yes (a d f g : Int) (w : World) (h : Fx.len a = true) (hd : Fx.sum [a, a] = (d, f)) (hg : Fx.half d = (g, 0)) (hend : (f != 0) = true ∨ (f != 0) = false ∧ (g == a) = true) :
    Calls Try.prog 8 #[.int .i64 a] w fun e w' => e = .returned (.bool true) ∧ Lo w w' := by
  obtain ⟨a1, a2⟩ := (Fx.len_iff a).1 h
  have HH := Lib.hid (fun W => half_yes a W h)
  have HA := Lib.hid (fun W => add_any a a W)
  have HG := Lib.hid (fun W => half_any d W)
  rw [hd] at HA
  rw [hg] at HG
  have HI : Hid (Fx.is [a] = true) := by show _ = _; simp [Fx.is, h]
  have hb : 2 * (a / 2) = a ∨ 2 * (a / 2) + 1 = a := by omega
  have hb' : (2 * (a / 2) == a) = true ∨ (2 * (a / 2) == a) = false ∧ (2 * (a / 2) + 1 == a) = true := by
    rcases hb with hb | hb
    · exact .inl (by simp [hb])
    · exact .inr ⟨by rw [beq_eq_false_iff_ne]; omega, by simp [hb]⟩
  clear h hd hg hb
  go_enter Try.func8, Try.ntmps8
  go_wp2_with fail
  refine (HH.out _).mono ?_
  rintro e w1 ⟨rfl, l1⟩
  go_wp2_with fail
  refine (is_any _ [a] _ (row1 _ _ (by simp) a)).mono ?_
  rintro e w5 ⟨rfl, rfl⟩
  rw [HI.out]
  go_wp2_with fail
  refine (HA.out _).mono ?_
  rintro e w2 ⟨rfl, l2⟩
  go_wp2_with fail
  refine (HG.out _).mono ?_
  rintro e w3 ⟨rfl, l3⟩
  go_wp2_with fail
  refine (checked_any _).mono ?_
  rintro e w4 ⟨rfl, l4⟩
  rcases hb' with hb | ⟨hb, hb2⟩
  all_goals
    rcases hend with he | ⟨he, he2⟩
    all_goals
      go_wp2_with fail
      go_ret
      exact ⟨rfl, ((((l1.alloc _).trans l2).trans l3).trans l4)⟩

theorem fixedHalf_walk (a0 : Int) (_w0 : (Lit.int .i64 a0).wf = true) (w : World) :
    Calls Try.prog 8 #[.int .i64 a0] w fun e w' => e = .returned (.bool true) ∧ Below w.heap.size w w' := by
  by_cases h : Fx.len a0 = true
  · by_cases h2 : Fx.len (a0 + a0) = true
    · exact fixedHalf_yes a0 (a0 + a0) 0 a0 w h (by rw [Fx.sum2 h h, Fx.told, if_pos h2]) (by rw [Fx.half, if_pos h2]; congr 1; omega) (.inr ⟨rfl, by simp⟩)
    · exact fixedHalf_yes a0 0 2 0 w h (by rw [Fx.sum2 h h, Fx.told, if_neg h2]) (by decide) (.inl rfl)
  · exact fixedHalf_no a0 w (by simpa using h)

end Go.Proofs.Ytnhegoimmlnmcaa
