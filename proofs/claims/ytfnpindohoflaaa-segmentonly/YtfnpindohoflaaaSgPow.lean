/-
  The greatest power of two that is at most a number, by doubling, and bits.Len. Nothing of the program. No conditions beyond those stated.
-/
import Derived.Test.YtfnpindohoflaaaSgPut
import Derived.Lib.BitFns
namespace Sg
theorem double_pow (n : Nat) : ∀ (f s : Nat), 2 ^ s ≤ n → n < 2 ^ s + f → ∃ t, Sf.double n f (2 ^ s) s = (2 ^ t, t) ∧ 2 ^ t ≤ n ∧ n < 2 ^ (t + 1)
  | 0, s, h1, h2 => by omega
  | f + 1, s, h1, h2 => by
    rw [Sf.double]
    by_cases h : 2 * 2 ^ s ≤ n
    · rw [if_pos h]
      have e : 2 * 2 ^ s = 2 ^ (s + 1) := by rw [Nat.pow_succ]; omega
      have h0 : 1 ≤ 2 ^ s := Nat.one_le_two_pow
      rw [e] at h ⊢
      have e2 : 2 ^ (s + 1) = 2 * 2 ^ s := e.symm
      exact double_pow n f (s + 1) h (by omega)
    · rw [if_neg h]
      refine ⟨s, rfl, h1, ?_⟩
      rw [Nat.pow_succ]; omega
theorem pow2_is {n : Nat} (h : 0 < n) (hn : n ≤ 8200) : ∃ t, Sf.pow2 n = (2 ^ t, t) ∧ 2 ^ t ≤ n ∧ n < 2 ^ (t + 1) ∧ Go.Lib.bitLen n = t + 1 ∧ t < 14 := by
  obtain ⟨t, e, h1, h2⟩ := double_pow n n 0 (by rw [Nat.pow_zero]; omega) (by rw [Nat.pow_zero]; omega)
  refine ⟨t, ?_, h1, h2, ?_, ?_⟩
  · unfold Sf.pow2
    rw [if_neg (by omega)]
    exact e
  · rw [Go.Lib.bitLen_shift t n h1 (by omega)]
    have hq : n / 2 ^ t = 1 := by
      have h0 : 0 < 2 ^ t := Nat.pow_pos (by omega)
      rw [Nat.pow_succ] at h2
      apply Nat.div_eq_of_lt_le
      · omega
      · omega
    rw [hq]
    rfl
  · have h3 : 2 ^ t < 2 ^ 14 := by
      have : (2 : Nat) ^ 14 = 16384 := by decide
      omega
    exact (Nat.pow_lt_pow_iff_right (by omega)).1 h3
end Sg
