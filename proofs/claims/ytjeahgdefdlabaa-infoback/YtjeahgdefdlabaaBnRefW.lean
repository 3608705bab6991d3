/-
  Contracts of the document's answers for layer 3: Wide, Fits of the references. No conditions beyond those stated.
-/
import Derived.Test.YtjeahgdefdlabaaBnRefP
namespace Go.Proofs.Ytjeahgdefdlabaa
open Go.RowKit

set_option maxHeartbeats 400000 in
/-- Wide, of whatever number. -/
theorem rwide_some (n : Int) (w : World) : Calls Try.prog 51 #[.int .i64 n] w fun e w' => e = .returned (.int .i64 (if n < 0 then wrap64 (0 - n) else n)) ∧ w = w' := by
  by_cases h : n < 0
  · rw [if_pos h]
    go_enter Try.func51, Try.ntmps51
    go_wp2_with fail
    go_ret
    exact ⟨ret_int (by first | rfl | (congr 1; omega) | omega), rfl⟩
  · rw [if_neg h]
    go_enter Try.func51, Try.ntmps51
    go_wp2_with fail
    go_ret
    exact ⟨rfl, rfl⟩
theorem rwide_any (n : Int) (w : World) (h : Bn.isSize n = true) : Calls Try.prog 51 #[.int .i64 n] w fun e w' => e = .returned (.int .i64 n.natAbs) ∧ w = w' := by
  have hv : (if n < 0 then wrap64 (0 - n) else n) = (n.natAbs : Int) := by
    rw [Bn.isSize_iff] at h
    by_cases hn : n < 0
    · rw [if_pos hn, wrap_id (by omega) (by omega)]; omega
    · rw [if_neg hn]; omega
  rw [← hv]
  exact rwide_some n w

set_option maxHeartbeats 800000 in
theorem rfits_any (v n : Int) (w : World) (h : Bn.isSize n = true) :
    Calls Try.prog 31 #[.int .i64 v, .int .i64 n] w fun e w' => e = .returned (.bool (Bn.fits v n)) ∧ w = w' := by
  have HW := Lib.hid (fun W => rwide_any n W h)
  have HP := Lib.hid (fun W => rpower_any n.natAbs W (Bn.isSize_wide h).2)
  have hP1 : 256 ^ n.natAbs ≤ 4294967296 := Nat.le_trans (Nat.pow_le_pow_right (by omega) (Bn.isSize_wide h).2) (by decide)
  generalize hy : Bn.fits v n = y
  have HY := Lib.hid hy
  unfold Bn.fits at HY
  clear hy h
  generalize 256 ^ n.natAbs = P at *
  generalize n.natAbs = q at *
  have hq : ((P / 2 : Nat) : Int) = (P : Int) / 2 := by omega
  by_cases hn : n < 0
  · rw [if_pos hn, hq] at HY
    by_cases h1 : -((P : Int) / 2) ≤ v
    · by_cases h2 : v < (P : Int) / 2
      · have HYY : Hid (y = true) := Lib.hid (by rw [← HY.out]; simp [h1, h2])
        go_enter Try.func31, Try.ntmps31
        go_wp2_with fail
        refine (HW.out _).mono ?_
        rintro e w1 ⟨rfl, rfl⟩
        go_wp2_with fail
        refine (HP.out _).mono ?_
        rintro e w1 ⟨rfl, rfl⟩
        go_wp2_with fail
        go_ret
        exact ⟨ret_bool (by rw [HYY.out]; try (simp <;> omega)), rfl⟩
      · have HYY : Hid (y = false) := Lib.hid (by rw [← HY.out]; simp [h1]; omega)
        go_enter Try.func31, Try.ntmps31
        go_wp2_with fail
        refine (HW.out _).mono ?_
        rintro e w1 ⟨rfl, rfl⟩
        go_wp2_with fail
        refine (HP.out _).mono ?_
        rintro e w1 ⟨rfl, rfl⟩
        go_wp2_with fail
        go_ret
        exact ⟨ret_bool (by rw [HYY.out]; try (simp <;> omega)), rfl⟩
    · have HYY : Hid (y = false) := Lib.hid (by rw [← HY.out]; simp; omega)
      go_enter Try.func31, Try.ntmps31
      go_wp2_with fail
      refine (HW.out _).mono ?_
      rintro e w1 ⟨rfl, rfl⟩
      go_wp2_with fail
      refine (HP.out _).mono ?_
      rintro e w1 ⟨rfl, rfl⟩
      go_wp2_with fail
      go_ret
      exact ⟨ret_bool (by rw [HYY.out]; try (simp <;> omega)), rfl⟩
  · rw [if_neg hn] at HY
    by_cases h1 : 0 ≤ v
    · by_cases h2 : v < (P : Int)
      · have HYY : Hid (y = true) := Lib.hid (by rw [← HY.out]; simp [h1, h2])
        go_enter Try.func31, Try.ntmps31
        go_wp2_with fail
        refine (HW.out _).mono ?_
        rintro e w1 ⟨rfl, rfl⟩
        go_wp2_with fail
        refine (HP.out _).mono ?_
        rintro e w1 ⟨rfl, rfl⟩
        go_wp2_with fail
        go_ret
        exact ⟨ret_bool (by rw [HYY.out]; try (simp <;> omega)), rfl⟩
      · have HYY : Hid (y = false) := Lib.hid (by rw [← HY.out]; simp [h1]; omega)
        go_enter Try.func31, Try.ntmps31
        go_wp2_with fail
        refine (HW.out _).mono ?_
        rintro e w1 ⟨rfl, rfl⟩
        go_wp2_with fail
        refine (HP.out _).mono ?_
        rintro e w1 ⟨rfl, rfl⟩
        go_wp2_with fail
        go_ret
        exact ⟨ret_bool (by rw [HYY.out]; try (simp <;> omega)), rfl⟩
    · have HYY : Hid (y = false) := Lib.hid (by rw [← HY.out]; simp; omega)
      go_enter Try.func31, Try.ntmps31
      go_wp2_with fail
      refine (HW.out _).mono ?_
      rintro e w1 ⟨rfl, rfl⟩
      go_wp2_with fail
      refine (HP.out _).mono ?_
      rintro e w1 ⟨rfl, rfl⟩
      go_wp2_with fail
      go_ret
      exact ⟨ret_bool (by rw [HYY.out]; try (simp <;> omega)), rfl⟩
end Go.Proofs.Ytjeahgdefdlabaa
