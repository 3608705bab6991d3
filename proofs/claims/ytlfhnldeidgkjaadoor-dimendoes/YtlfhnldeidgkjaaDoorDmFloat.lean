/-
  Plain facts on IEEE double words: what a finite word stands for, as a whole number of units of 2 ^ -1074. No conditions.
-/
import Ieee.Arith
namespace Fl
open Ieee

theorem d_binade : double.binade = 4503599627370496 := rfl
theorem d_inf : double.infRung = 9218868437227405312 := rfl
theorem d_sign : double.signWeight = 9223372036854775808 := rfl
theorem d_least : double.leastPlace = -1074 := rfl
theorem d_frac : double.fractionBits = 52 := rfl

/-- The value with its sign. -/
def sv (s : Bool) (v : Nat) : Int := if s then -(v : Int) else v
theorem sv_not (s : Bool) (v : Nat) : sv (!s) v = -sv s v := by cases s <;> simp [sv]
theorem sv_natAbs (s : Bool) (v : Nat) : (sv s v).natAbs = v := by cases s <;> simp [sv]

/-- The word x is the number of v units, with the sign s. -/
def Num (x : Nat) (s : Bool) (v : Nat) : Prop := ∃ m i, double.read x = .number s m i ∧ -1074 ≤ i ∧ m < 9007199254740992 ∧ v = m * 2 ^ (i + 1074).toNat

theorem word_lt (s : Bool) (r : Nat) (h : r < 9223372036854775808) : double.word s r / 9223372036854775808 % 2 = s.toNat ∧ double.word s r % 9223372036854775808 = r := by
  unfold Format.word
  rw [d_sign]
  cases s <;> simp <;> omega

theorem read_word (s : Bool) (r : Nat) (h : r < 9223372036854775808) : double.read (double.word s r) =
    if r < 4503599627370496 then .number s r (-1074) else if r < 9218868437227405312 then .number s (4503599627370496 + r % 4503599627370496) (-1074 + (r / 4503599627370496 - 1 : Nat))
    else if r = 9218868437227405312 then .infinity s else .nan s (r - 9218868437227405312) := by
  obtain ⟨h1, h2⟩ := word_lt s r h
  unfold Format.read
  simp only [d_binade, d_inf, d_sign, d_least, h1, h2]
  cases s <;> rfl

theorem read_inf (s : Bool) : double.read (double.word s double.infRung) = .infinity s := by
  rw [read_word s _ (by rw [d_inf]; omega), d_inf]; simp

theorem word_of (x : Nat) (h : x < 18446744073709551616) : ∃ s r, r < 9223372036854775808 ∧ x = double.word s r := by
  refine ⟨decide (9223372036854775808 ≤ x), x % 9223372036854775808, by omega, ?_⟩
  unfold Format.word
  rw [d_sign]
  by_cases hx : 9223372036854775808 ≤ x
  · simp [hx]; omega
  · simp [hx]; omega

theorem read_any (x : Nat) : double.read x = if x % 9223372036854775808 < 4503599627370496 then .number (x / 9223372036854775808 % 2 == 1) (x % 9223372036854775808) (-1074)
    else if x % 9223372036854775808 < 9218868437227405312 then .number (x / 9223372036854775808 % 2 == 1) (4503599627370496 + x % 9223372036854775808 % 4503599627370496) (-1074 + (x % 9223372036854775808 / 4503599627370496 - 1 : Nat))
    else if x % 9223372036854775808 = 9218868437227405312 then .infinity (x / 9223372036854775808 % 2 == 1) else .nan (x / 9223372036854775808 % 2 == 1) (x % 9223372036854775808 - 9218868437227405312) := rfl

theorem read_bd {x : Nat} {s : Bool} {m : Nat} {i : Int} (h : double.read x = .number s m i) : m < 9007199254740992 ∧ -1074 ≤ i ∧ i ≤ 971 := by
  rw [read_any] at h
  by_cases h1 : x % 9223372036854775808 < 4503599627370496
  · rw [if_pos h1] at h
    cases h; omega
  · rw [if_neg h1] at h
    by_cases h2 : x % 9223372036854775808 < 9218868437227405312
    · rw [if_pos h2] at h
      cases h; omega
    · rw [if_neg h2] at h
      by_cases h3 : x % 9223372036854775808 = 9218868437227405312
      · rw [if_pos h3] at h; cases h
      · rw [if_neg h3] at h; cases h

theorem num_of_read {x : Nat} {s : Bool} {m : Nat} {i : Int} (h : double.read x = .number s m i) : Num x s (m * 2 ^ (i + 1074).toNat) :=
  ⟨m, i, h, (read_bd h).2.1, (read_bd h).1, rfl⟩

theorem Num.uniq {x : Nat} {s t : Bool} {v u : Nat} (h : Num x s v) (k : Num x t u) : s = t ∧ v = u := by
  obtain ⟨m, i, h1, _, _, rfl⟩ := h
  obtain ⟨n, j, k1, _, _, rfl⟩ := k
  rw [h1] at k1
  cases k1
  exact ⟨rfl, rfl⟩

theorem read_canon (s : Bool) (m e : Nat) (hm : m < 9007199254740992) (hc : e = 0 ∨ 4503599627370496 ≤ m) (he : e ≤ 2045) :
    double.read (double.word s (e * 4503599627370496 + m)) = .number s m ((e : Int) - 1074) := by
  rw [read_word s _ (by omega)]
  by_cases h1 : e * 4503599627370496 + m < 4503599627370496
  · rw [if_pos h1]
    have : e = 0 := by omega
    subst this
    simp
  · rw [if_neg h1, if_pos (by omega)]
    have hm2 : 4503599627370496 ≤ m := by omega
    have e1 : (e * 4503599627370496 + m) % 4503599627370496 = m - 4503599627370496 := by omega
    have e2 : (e * 4503599627370496 + m) / 4503599627370496 = e + 1 := by omega
    rw [e1, e2]
    have e3 : 4503599627370496 + (m - 4503599627370496) = m := by omega
    rw [e3, show (-1074 + ((e + 1 - 1 : Nat) : Int)) = (e : Int) - 1074 by omega]

theorem num_canon (s : Bool) (m e : Nat) (hm : m < 9007199254740992) (hc : e = 0 ∨ 4503599627370496 ≤ m) (he : e ≤ 2045) :
    Num (double.word s (e * 4503599627370496 + m)) s (m * 2 ^ e) := by
  refine ⟨m, (e : Int) - 1074, read_canon s m e hm hc he, by omega, hm, ?_⟩
  have : ((e : Int) - 1074 + 1074).toNat = e := by omega
  rw [this]

theorem log2_eq {n k : Nat} (h1 : 2 ^ k ≤ n) (h2 : n < 2 ^ (k + 1)) : n.log2 = k := by
  have hn : n ≠ 0 := by have := Nat.two_pow_pos k; omega
  have a : k ≤ n.log2 := (Nat.le_log2 hn).2 h1
  have b : n.log2 < k + 1 := (Nat.log2_lt hn).2 h2
  omega

theorem cut_zero (s : Bool) (n : Nat) : Toward.even.cut s n 0 = n := by
  unfold Toward.cut
  simp [Nat.mod_one]

theorem cut_exact (s : Bool) (m d : Nat) (hm : m ≠ 0) : Toward.even.cut s (m * 2 ^ d) d = m := by
  have h0 : m * 2 ^ d ≠ 0 := Nat.mul_ne_zero hm (by have := Nat.two_pow_pos d; omega)
  have hd : d ≤ (m * 2 ^ d).log2 := (Nat.le_log2 h0).2 (Nat.le_mul_of_pos_left _ (by omega))
  unfold Toward.cut
  have hmin : min d ((m * 2 ^ d).log2 + 2) = d := by omega
  simp only [hmin, Nat.one_shiftLeft]
  have hp := Nat.two_pow_pos d
  rw [Nat.mul_div_cancel _ hp, Nat.mul_mod_left]
  simp

theorem pow_ne (k : Nat) : 2 ^ k ≠ 0 := by have := Nat.two_pow_pos k; omega

/-- What nearest makes of a number that the format has, were there no greatest one. -/
theorem nearest_canon (s : Bool) (mag : Nat) (place : Int) (m e K A : Nat) (hm : m < 9007199254740992) (hm0 : m ≠ 0) (hc : e = 0 ∨ 4503599627370496 ≤ m)
    (hA : place + 1074 + K = A) (hK : mag * 2 ^ A = m * 2 ^ (e + K)) :
    double.nearest s mag place = double.word s (min (e * 4503599627370496 + m) 9218868437227405312) := by
  have hmag : mag ≠ 0 := by
    intro h
    rw [h, Nat.zero_mul] at hK
    exact Nat.mul_ne_zero hm0 (pow_ne _) hK.symm
  have hl1 : 2 ^ mag.log2 ≤ mag := Nat.log2_self_le hmag
  have hl2 : mag < 2 ^ (mag.log2 + 1) := Nat.lt_log2_self
  have hm53 : m < 2 ^ 53 := hm
  -- the place of the last digit
  have hup : mag.log2 + A < 53 + (e + K) := by
    have h1 : 2 ^ (mag.log2 + A) ≤ mag * 2 ^ A := by rw [Nat.pow_add]; exact Nat.mul_le_mul_right _ hl1
    have h2 : m * 2 ^ (e + K) < 2 ^ (53 + (e + K)) := by rw [Nat.pow_add 2 53]; exact Nat.mul_lt_mul_of_pos_right hm53 (Nat.two_pow_pos _)
    have h3 : 2 ^ (mag.log2 + A) < 2 ^ (53 + (e + K)) := by omega
    exact (Nat.pow_lt_pow_iff_right (by omega)).1 h3
  have hlast : max (place + mag.log2 - 52) (-1074) = (e : Int) - 1074 := by
    rcases hc with rfl | hc
    · omega
    · have h1 : 2 ^ (52 + (e + K)) ≤ m * 2 ^ (e + K) := by rw [Nat.pow_add 2 52]; exact Nat.mul_le_mul_right _ hc
      have h2 : mag * 2 ^ A < 2 ^ (mag.log2 + 1 + A) := by rw [Nat.pow_add 2 (mag.log2 + 1)]; exact Nat.mul_lt_mul_of_pos_right hl2 (Nat.two_pow_pos _)
      have h3 : 2 ^ (52 + (e + K)) < 2 ^ (mag.log2 + 1 + A) := by omega
      have h4 := (Nat.pow_lt_pow_iff_right (by omega : 1 < 2)).1 h3
      omega
  unfold Format.nearest
  rw [if_neg hmag]
  simp only [d_frac, d_least, d_binade, d_inf]
  have hl52 : ((52 : Nat) : Int) = 52 := rfl
  rw [hl52, hlast]
  have hk : Toward.even.cut s (mag <<< (place - ((e : Int) - 1074)).toNat) ((e : Int) - 1074 - place).toNat = m := by
    by_cases hd : K + e ≤ A
    · have e1 : (place - ((e : Int) - 1074)).toNat = A - (K + e) := by omega
      have e2 : ((e : Int) - 1074 - place).toNat = 0 := by omega
      rw [e1, e2, cut_zero, Nat.shiftLeft_eq]
      have h5 : A = (A - (K + e)) + (e + K) := by omega
      rw [h5, Nat.pow_add, ← Nat.mul_assoc] at hK
      have := Nat.eq_of_mul_eq_mul_right (Nat.two_pow_pos _) hK
      have h6 : A - (K + e) + (e + K) - (K + e) = A - (K + e) := by omega
      exact this
    · have e1 : (place - ((e : Int) - 1074)).toNat = 0 := by omega
      have e2 : ((e : Int) - 1074 - place).toNat = K + e - A := by omega
      rw [e1, e2, Nat.shiftLeft_zero]
      have h5 : e + K = (K + e - A) + A := by omega
      rw [h5, Nat.pow_add, ← Nat.mul_assoc] at hK
      have := Nat.eq_of_mul_eq_mul_right (Nat.two_pow_pos _) hK
      rw [this]
      exact cut_exact s m _ hm0
  rw [hk]
  have : ((e : Int) - 1074 - -1074).toNat = e := by omega
  rw [this]

theorem canon_of : ∀ (e m : Nat), m < 9007199254740992 → m ≠ 0 → ∃ m' e', m' < 9007199254740992 ∧ m' ≠ 0 ∧ (e' = 0 ∨ 4503599627370496 ≤ m') ∧ m' * 2 ^ e' = m * 2 ^ e
  | 0, m, h, h0 => ⟨m, 0, h, h0, .inl rfl, rfl⟩
  | e + 1, m, h, h0 => by
    by_cases hm : 4503599627370496 ≤ m
    · exact ⟨m, e + 1, h, h0, .inr hm, rfl⟩
    · obtain ⟨m', e', a, b, c, d⟩ := canon_of e (2 * m) (by omega) (by omega)
      refine ⟨m', e', a, b, c, ?_⟩
      rw [d, Nat.pow_succ]
      rw [Nat.mul_comm 2 m, Nat.mul_assoc, Nat.mul_comm 2]

theorem shift_eq {mag A m e m' e' K : Nat} (h : mag * 2 ^ A = m * 2 ^ (e + K)) (k : m' * 2 ^ e' = m * 2 ^ e) : mag * 2 ^ A = m' * 2 ^ (e' + K) := by
  rw [h, Nat.pow_add, Nat.pow_add, ← Nat.mul_assoc, ← Nat.mul_assoc, k]

theorem nearest_num (s : Bool) (mag : Nat) (place : Int) (m e K A : Nat) (hm : m < 9007199254740992) (hv : m * 2 ^ e < 2 ^ 2098)
    (hA : place + 1074 + K = A) (hK : mag * 2 ^ A = m * 2 ^ (e + K)) : Num (double.nearest s mag place) s (m * 2 ^ e) := by
  by_cases hm0 : m = 0
  · subst hm0
    rw [Nat.zero_mul] at hK
    have : mag = 0 := by
      rcases Nat.mul_eq_zero.1 hK with h | h
      · exact h
      · exact absurd h (pow_ne _)
    subst this
    unfold Format.nearest
    rw [if_pos rfl]
    have := num_canon s 0 0 (by omega) (.inl rfl) (by omega)
    simpa using this
  · obtain ⟨m', e', a, b, c, d⟩ := canon_of e m hm hm0
    rw [nearest_canon s mag place m' e' K A a b c hA (shift_eq hK d), ← d]
    rw [← d] at hv
    have he : e' ≤ 2045 := by
      rcases c with c | c
      · omega
      · have h1 : 2 ^ (52 + e') ≤ m' * 2 ^ e' := by rw [Nat.pow_add 2 52]; exact Nat.mul_le_mul_right _ c
        have h2 : 2 ^ (52 + e') < 2 ^ 2098 := Nat.lt_of_le_of_lt h1 hv
        have := (Nat.pow_lt_pow_iff_right (by omega : 1 < 2)).1 h2
        omega
    rw [Nat.min_eq_left (by omega)]
    exact num_canon s m' e' a c he

theorem nearest_inf (s : Bool) (mag : Nat) (place : Int) (m e K A : Nat) (hm : m < 9007199254740992) (hv : 2 ^ 2098 ≤ m * 2 ^ e)
    (hA : place + 1074 + K = A) (hK : mag * 2 ^ A = m * 2 ^ (e + K)) : double.nearest s mag place = double.word s double.infRung := by
  have hm0 : m ≠ 0 := by
    intro h
    rw [h, Nat.zero_mul] at hv
    have := Nat.two_pow_pos 2098
    omega
  obtain ⟨m', e', a, b, c, d⟩ := canon_of e m hm hm0
  rw [nearest_canon s mag place m' e' K A a b c hA (shift_eq hK d), d_inf]
  rw [← d] at hv
  have he : 2046 ≤ e' := by
    have h1 : m' * 2 ^ e' < 2 ^ (53 + e') := by rw [Nat.pow_add 2 53]; exact Nat.mul_lt_mul_of_pos_right a (Nat.two_pow_pos _)
    have h2 : 2 ^ 2098 < 2 ^ (53 + e') := Nat.lt_of_le_of_lt hv h1
    have := (Nat.pow_lt_pow_iff_right (by omega : 1 < 2)).1 h2
    omega
  rw [Nat.min_eq_right (by omega)]

end Fl
