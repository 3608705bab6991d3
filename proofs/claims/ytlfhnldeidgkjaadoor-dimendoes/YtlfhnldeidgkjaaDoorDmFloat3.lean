/-
  Plain facts on IEEE double words: math.Round by its bits rounds halves away from 0; the sign turned; what a float tells as a length. No conditions.
-/
import Derived.Test.YtlfhnldeidgkjaaDoorDmFloat2
namespace Fl
open Ieee

/-- math.Round, by the bits. -/
def round (x : Nat) : Nat :=
  if x % 9223372036854775808 / 4503599627370496 < 1022 then x - x % 9223372036854775808
  else if x % 9223372036854775808 / 4503599627370496 = 1022 then x - x % 9223372036854775808 + 4607182418800017408
  else if x % 9223372036854775808 / 4503599627370496 < 1075 then
    (x + 2 ^ (1074 - x % 9223372036854775808 / 4503599627370496)) / 2 ^ (1075 - x % 9223372036854775808 / 4503599627370496) * 2 ^ (1075 - x % 9223372036854775808 / 4503599627370496)
  else x

theorem pow_sum (a b c : Nat) (h : a + b = c) : 2 ^ c = 2 ^ a * 2 ^ b := by subst h; exact Nat.pow_add 2 a b

theorem pow_sum_lit (N a b c : Nat) (hN : N = 2 ^ a) (h : a + b = c) : 2 ^ c = N * 2 ^ b := by subst h; subst hN; exact Nat.pow_add 2 a b

theorem word_zero (s : Bool) (r : Nat) (h : r < 9223372036854775808) : double.word s r - double.word s r % 9223372036854775808 = double.word s 0 ∧ ∀ a, double.word s 0 + a = double.word s a := by
  unfold Format.word
  rw [d_sign]
  cases s <;> simp <;> omega

theorem small_H {v : Nat} (h : v < H) : (v + H) / U * U = 0 := by
  have := H_pos
  rw [U_eq, Nat.div_eq_of_lt (by omega), Nat.zero_mul]

theorem round_mid (s : Bool) (e M : Nat) (h1 : 1023 ≤ e) (h2 : e < 1075) (m1 : 4503599627370496 ≤ M) (m2 : M < 9007199254740992) :
    Num ((double.word s ((e - 1) * 4503599627370496 + M) + 2 ^ (1074 - e)) / 2 ^ (1075 - e) * 2 ^ (1075 - e)) s ((M * 2 ^ (e - 1) + H) / U * U) := by
  have hU : U = 2 ^ (1075 - e) * 2 ^ (e - 1) := by
    unfold U; exact pow_sum _ _ 1074 (by omega)
  have hH : H = 2 ^ (1074 - e) * 2 ^ (e - 1) := by
    unfold H; exact pow_sum _ _ 1073 (by omega)
  have hD : 2 ^ (1075 - e) = 2 * 2 ^ (1074 - e) := pow_gen _ _ (by omega)
  have hN : (4503599627370496 : Nat) = 2 ^ (52 - (1075 - e)) * 2 ^ (1075 - e) := by
    rw [← Nat.pow_add, show 52 - (1075 - e) + (1075 - e) = 52 by omega]
  have hh : 0 < 2 ^ (1074 - e) := Nat.two_pow_pos _
  have hP : 0 < 2 ^ (e - 1) := Nat.two_pow_pos _
  have hPe : 2 ^ e = 2 * 2 ^ (e - 1) := pow_gen _ _ (by omega)
  rw [hU, hH, ← Nat.add_mul, Nat.mul_div_mul_right _ _ hP]
  generalize 2 ^ (1074 - e) = h at *
  generalize 2 ^ (1075 - e) = D at *
  generalize 2 ^ (52 - (1075 - e)) = k at *
  subst hD
  have hq1 : k ≤ (M + h) / (2 * h) := by
    rw [Nat.le_div_iff_mul_le (by omega)]
    omega
  have hq2 : (M + h) / (2 * h) < 2 * k + 1 := by
    rw [Nat.div_lt_iff_lt_mul (by omega), Nat.add_mul, Nat.mul_assoc]
    omega
  have hb : double.word s ((e - 1) * 4503599627370496 + M) = double.word s ((e - 1) * 4503599627370496) + M := by
    unfold Format.word; rw [d_sign]; cases s <;> simp <;> omega
  have hdiv : ∃ c, double.word s ((e - 1) * 4503599627370496) = c * (2 * h) := by
    unfold Format.word
    rw [d_sign]
    cases s
    · refine ⟨(e - 1) * k, ?_⟩
      simp only [Bool.false_eq_true, if_false]
      rw [Nat.mul_assoc, ← hN]
    · refine ⟨2048 * k + (e - 1) * k, ?_⟩
      simp only [if_true]
      rw [Nat.add_mul, Nat.mul_assoc, Nat.mul_assoc, ← hN]
  obtain ⟨c, hcd⟩ := hdiv
  have hsum : (double.word s ((e - 1) * 4503599627370496 + M) + h) / (2 * h) * (2 * h) = double.word s ((e - 1) * 4503599627370496 + (M + h) / (2 * h) * (2 * h)) := by
    have h3 : ∀ a, double.word s ((e - 1) * 4503599627370496 + a) = c * (2 * h) + a := by
      intro a
      rw [← hcd]
      unfold Format.word; rw [d_sign]; cases s <;> simp <;> omega
    rw [h3, h3, Nat.add_assoc, Nat.add_comm (c * (2 * h)), Nat.add_mul_div_right _ _ (by omega), Nat.add_mul, Nat.add_comm]
  rw [hsum]
  generalize (M + h) / (2 * h) = q at *
  rw [← Nat.mul_assoc q (2 * h)]
  by_cases hq : q = 2 * k
  · have e1 : q * (2 * h) = 9007199254740992 := by rw [hq, Nat.mul_assoc, ← hN]
    rw [e1]
    have := num_canon s 4503599627370496 e (by omega) (.inr (by omega)) (by omega)
    rw [hPe, ← Nat.mul_assoc] at this
    rw [show (e - 1) * 4503599627370496 + 9007199254740992 = e * 4503599627370496 + 4503599627370496 by omega]
    exact this
  · have e1 : q * (2 * h) < 9007199254740992 := by
      have : q + 1 ≤ 2 * k := by omega
      have h4 := Nat.mul_le_mul_right (2 * h) this
      rw [Nat.add_mul, Nat.mul_assoc 2 k, ← hN] at h4
      omega
    have e2 : 4503599627370496 ≤ q * (2 * h) := by
      rw [hN]; exact Nat.mul_le_mul_right _ hq1
    exact num_canon s (q * (2 * h)) (e - 1) e1 (.inr e2) (by omega)

theorem lt_pow_shift {m k : Nat} (h : m < 9007199254740992) : m * 2 ^ k < 2 ^ (53 + k) := by
  rw [Nat.pow_add 2 53]; exact Nat.mul_lt_mul_of_pos_right h (Nat.two_pow_pos _)

theorem round_num {x : Nat} {s : Bool} {v : Nat} (hx : Num x s v) (hlt : x < 18446744073709551616) : Num (round x) s ((v + H) / U * U) := by
  obtain ⟨t, r, hr, rfl⟩ := word_of x hlt
  obtain ⟨m, i, h1, h2, h3, rfl⟩ := hx
  obtain ⟨_, hmod⟩ := word_lt t r hr
  obtain ⟨hz, hadd⟩ := word_zero t r hr
  have hzero : Num (double.word t 0) t 0 := by simpa using num_canon t 0 0 (by omega) (.inl rfl) (by omega)
  rw [read_word t r hr] at h1
  unfold round
  rw [hmod] at hz
  rw [hmod]
  by_cases c1 : r < 4503599627370496
  · rw [if_pos c1] at h1
    cases h1
    rw [if_pos (by omega), hz, small_H]
    · exact hzero
    · show r * 2 ^ 0 < H
      have : 2 ^ 52 ≤ H := by unfold H; exact pow_mono 52 1073 (by omega)
      omega
  · rw [if_neg c1] at h1
    by_cases c2 : r < 9218868437227405312
    · rw [if_pos c2] at h1
      cases h1
      have he : (-1074 + ((r / 4503599627370496 - 1 : Nat) : Int) + 1074).toNat = r / 4503599627370496 - 1 := by omega
      rw [he]
      have m1 : 4503599627370496 ≤ 4503599627370496 + r % 4503599627370496 := by omega
      by_cases c3 : r / 4503599627370496 < 1022
      · rw [if_pos c3, hz, small_H]
        · exact hzero
        · have h5 := lt_pow_shift (m := 4503599627370496 + r % 4503599627370496) (k := r / 4503599627370496 - 1) (by omega)
          have h6 : 2 ^ (53 + (r / 4503599627370496 - 1)) ≤ H := by unfold H; exact pow_mono _ 1073 (by omega)
          omega
      · rw [if_neg c3]
        by_cases c4 : r / 4503599627370496 = 1022
        · rw [if_pos c4, hz, hadd, c4]
          have hP : 0 < 2 ^ 1021 := Nat.two_pow_pos 1021
          have hH : H = 4503599627370496 * 2 ^ 1021 := by unfold H; exact pow_sum_lit 4503599627370496 52 1021 1073 rfl rfl
          have e3 : 4503599627370496 * 2 ^ 1022 = U := by unfold U; exact (pow_sum_lit 4503599627370496 52 1022 1074 rfl rfl).symm
          have hsub : 1022 - 1 = 1021 := rfl
          rw [hsub]
          generalize 2 ^ 1021 = P at *
          have hU2 := U_eq
          have hlow : H ≤ (4503599627370496 + r % 4503599627370496) * P := by rw [hH]; exact Nat.mul_le_mul_right P m1
          have hhigh : (4503599627370496 + r % 4503599627370496) * P < U := by
            rw [U_eq, hH, ← Nat.mul_assoc]
            exact Nat.mul_lt_mul_of_pos_right (by omega) hP
          generalize (4503599627370496 + r % 4503599627370496) * P = v at *
          have hq : (v + H) / U = 1 := by
            apply Nat.div_eq_of_lt_le
            · omega
            · omega
          rw [hq, Nat.one_mul]
          have := num_canon s 4503599627370496 1022 (by omega) (.inr (by omega)) (by omega)
          rw [e3] at this
          exact this
        · rw [if_neg c4]
          by_cases c5 : r / 4503599627370496 < 1075
          · rw [if_pos c5]
            have := round_mid s (r / 4503599627370496) (4503599627370496 + r % 4503599627370496) (by omega) c5 m1 (by omega)
            rw [show (r / 4503599627370496 - 1) * 4503599627370496 + (4503599627370496 + r % 4503599627370496) = r by omega] at this
            exact this
          · rw [if_neg c5]
            have hk : ∃ c, (4503599627370496 + r % 4503599627370496) * 2 ^ (r / 4503599627370496 - 1) = c * U := by
              refine ⟨(4503599627370496 + r % 4503599627370496) * 2 ^ (r / 4503599627370496 - 1 - 1074), ?_⟩
              unfold U
              rw [Nat.mul_assoc, ← pow_sum (r / 4503599627370496 - 1 - 1074) 1074 (r / 4503599627370496 - 1) (by omega)]
            obtain ⟨c, hc⟩ := hk
            have hv : ((4503599627370496 + r % 4503599627370496) * 2 ^ (r / 4503599627370496 - 1) + H) / U * U = (4503599627370496 + r % 4503599627370496) * 2 ^ (r / 4503599627370496 - 1) := by
              rw [hc]
              have := U_eq
              have := H_pos
              have e5 : (c * U + H) / U = c := by
                rw [Nat.add_comm, Nat.add_mul_div_right _ _ U_pos, Nat.div_eq_of_lt (by omega), Nat.zero_add]
              rw [e5]
            rw [hv]
            have := num_canon s (4503599627370496 + r % 4503599627370496) (r / 4503599627370496 - 1) (by omega) (.inr m1) (by omega)
            rw [show (r / 4503599627370496 - 1) * 4503599627370496 + (4503599627370496 + r % 4503599627370496) = r by omega] at this
            exact this
    · rw [if_neg c2] at h1
      by_cases c3 : r = 9218868437227405312
      · rw [if_pos c3] at h1; cases h1
      · rw [if_neg c3] at h1; cases h1

/-- What a word tells as a length: the number, or 0 and the error. -/
def ans (x : Nat) : Int × Int :=
  match double.read x with
  | .nan _ _ => (0, 3)
  | .infinity _ => (0, 2)
  | .number s m i => if (m * 2 ^ (i + 1074).toNat + H) / U ≤ 1073741823 then (sv s ((m * 2 ^ (i + 1074).toNat + H) / U), 0) else (0, 2)

theorem ans_num {x : Nat} {s : Bool} {v : Nat} (hx : Num x s v) : ans x = if (v + H) / U ≤ 1073741823 then (sv s ((v + H) / U), 0) else (0, 2) := by
  obtain ⟨m, i, h1, h2, h3, rfl⟩ := hx
  unfold ans
  rw [h1]
theorem ans_inf {x : Nat} {s : Bool} (h : double.read x = .infinity s) : ans x = (0, 2) := by unfold ans; rw [h]
theorem ans_nan {x : Nat} {s : Bool} {f : Nat} (h : double.read x = .nan s f) : ans x = (0, 3) := by unfold ans; rw [h]

/-- The three kinds of words. -/
theorem kinds (x : Nat) : (∃ s f, double.read x = .nan s f) ∨ (∃ s, double.read x = .infinity s) ∨ ∃ s v, Num x s v := by
  cases h : double.read x with
  | nan s f => exact .inl ⟨s, f, rfl⟩
  | infinity s => exact .inr (.inl ⟨s, rfl⟩)
  | number s m i => exact .inr (.inr ⟨s, _, num_of_read h⟩)

end Fl
