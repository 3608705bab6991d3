/-
  Plain facts on dimen's floats: a length as a float, times 1, times 0, times what is endless or no number, the sign turned. No conditions.
-/
import Derived.Test.YtlfhnldeidgkjaaDoorDmOf
namespace Fl
open Ieee

theorem mul_pow_lt (n a b c d : Nat) (h : n < 2 ^ a) (hs : a + b = c) (hd : c ≤ d) : n * 2 ^ b < 2 ^ d := by
  subst hs
  refine Nat.lt_of_lt_of_le ?_ (pow_mono _ _ hd)
  rw [Nat.pow_add]
  exact Nat.mul_lt_mul_of_pos_right h (Nat.two_pow_pos b)
theorem nearest_whole (s : Bool) (n e : Nat) (hn : n < 9007199254740992) (hv : n * 2 ^ e < 2 ^ 2098) (he : e = 1074) : Num (double.nearest s n 0) s (n * 2 ^ e) :=
  nearest_num s n 0 n e 0 e hn hv (by omega) (by rw [Nat.add_zero])
theorem num_int (a : Int) (h : a.natAbs ≤ 1073741823) : Num (Go.floatOfInt .f64 a) (decide (a < 0)) (a.natAbs * U) := by
  have hlt : a.natAbs * 2 ^ 1074 < 2 ^ 2098 := mul_pow_lt a.natAbs 30 1074 1104 2098 (by omega) rfl (by omega)
  have := nearest_whole (decide (a < 0)) a.natAbs 1074 (by omega) hlt rfl
  unfold U
  exact this

theorem ans_whole {x : Nat} {s : Bool} {n : Nat} (h : Num x s (n * U)) (hn : n ≤ 1073741823) : ans x = (sv s n, 0) := by
  rw [ans_num h]
  have e : (n * U + H) / U = n := by
    rw [Nat.add_comm, Nat.add_mul_div_right _ _ U_pos, Nat.div_eq_of_lt (by have := U_eq; have := H_pos; omega), Nat.zero_add]
  rw [e, if_pos hn]

theorem sv_int (a : Int) : sv (decide (a < 0)) a.natAbs = a := by
  unfold sv
  by_cases h : a < 0
  · simp [h]; omega
  · simp [h]; omega

theorem small_prod (n : Nat) (h : n ≤ 1073741823) : n * U < 2 ^ 2098 := by
  unfold U
  exact mul_pow_lt n 30 1074 1104 2098 (by omega) rfl (by omega)

theorem scale_one (a : Int) (h : a.natAbs ≤ 1073741823) : scale a 4607182418800017408 = (a, 0) := by
  have hn := num_int a h
  obtain ⟨y, hy, hz⟩ := (mul_two hn 4607182418800017408 0 (by omega) rfl).1 (by rw [Nat.pow_zero, Nat.mul_one]; exact small_prod _ h)
  rw [Nat.pow_zero, Nat.mul_one] at hz
  unfold scale
  rw [hy]
  show ans y = _
  rw [ans_whole hz h, sv_int]

theorem scale_zero (a : Int) (h : a.natAbs ≤ 1073741823) : scale a 0 = (0, 0) := by
  obtain ⟨m, i, h1, h2, h3, h4⟩ := num_int a h
  have hm : double.mul (Go.floatOfInt .f64 a) 0 = some (double.word (decide (a < 0)) 0) := by
    unfold Format.mul
    rw [h1, show double.read 0 = .number false 0 (-1074) from rfl]
    show some (double.nearest (decide (a < 0) ^^ false) (m * 0) _) = _
    rw [Bool.xor_false, Nat.mul_zero]
    rfl
  unfold scale
  rw [hm]
  have hz := num_canon (decide (a < 0)) 0 0 (by omega) (.inl rfl) (by omega)
  rw [Nat.zero_mul] at hz
  show ans (double.word _ 0) = _
  have h0 : Num (double.word (decide (a < 0)) 0) (decide (a < 0)) (0 * U) := by rw [Nat.zero_mul]; exact hz
  rw [ans_whole h0 (by omega)]
  unfold sv
  by_cases hd : a < 0 <;> simp

theorem scale_nan (a : Int) : scale a 9221120237041090561 = (0, 3) := by
  unfold scale Format.mul
  rw [show double.read 9221120237041090561 = .nan false 2251799813685249 from rfl]
  cases double.read (Go.floatOfInt .f64 a) <;> rfl

theorem scale_inf (a : Int) (h : a.natAbs ≤ 1073741823) (h0 : a ≠ 0) : scale a 9218868437227405312 = (0, 2) := by
  obtain ⟨m, i, h1, h2, h3, h4⟩ := num_int a h
  have hm : m ≠ 0 := by
    intro hm
    rw [hm, Nat.zero_mul] at h4
    have := Nat.mul_ne_zero (show a.natAbs ≠ 0 by omega) (show U ≠ 0 by have := U_pos; omega)
    exact this h4
  unfold scale Format.mul
  rw [h1, show double.read 9218868437227405312 = .infinity false from rfl]
  simp only [Datum.product, if_neg hm, Option.map_some]
  show ans (double.word _ double.infRung) = _
  exact ans_inf (read_inf _)

theorem scale_inf_zero : scale 0 9218868437227405312 = (0, 3) := by kernel_rfl

/-! The sign turned. -/
theorem xor_sign (s : Bool) (r : Nat) (h : r < 9223372036854775808) : double.word s r ^^^ 9223372036854775808 = double.word (!s) r := by
  have key : r ^^^ 9223372036854775808 = 9223372036854775808 + r := by
    apply Nat.eq_of_testBit_eq
    intro j
    rw [Nat.testBit_xor, show (9223372036854775808 : Nat) = 2 ^ 63 from rfl, Nat.testBit_two_pow]
    rcases Nat.lt_trichotomy j 63 with hj | hj | hj
    · rw [Nat.testBit_two_pow_add_gt hj]
      simp [show ¬ 63 = j by omega]
    · subst hj
      rw [Nat.testBit_two_pow_add_eq]
      simp
    · rw [Nat.testBit_lt_two_pow (x := r) (i := j) (Nat.lt_of_lt_of_le h (Nat.pow_le_pow_right (n := 2) (by omega) (by omega : 63 ≤ j))), Nat.testBit_lt_two_pow (x := 2 ^ 63 + r) (i := j)]
      · simp [show ¬ 63 = j by omega]
      · have : 2 ^ 64 ≤ 2 ^ j := Nat.pow_le_pow_right (by omega) (by omega)
        omega
  unfold Format.word
  rw [d_sign]
  cases s
  · simp [key]
  · simp only [if_true, Bool.not_true, Bool.false_eq_true, if_false]
    rw [← key, Nat.xor_assoc, Nat.xor_self, Nat.xor_zero]

theorem read_opposite (s : Bool) (r : Nat) (h : r < 9223372036854775808) : double.read (double.word (!s) r) = (double.read (double.word s r)).opposite := by
  rw [read_word _ _ h, read_word _ _ h]
  by_cases c1 : r < 4503599627370496
  · rw [if_pos c1, if_pos c1]; rfl
  · rw [if_neg c1, if_neg c1]
    by_cases c2 : r < 9218868437227405312
    · rw [if_pos c2, if_pos c2]; rfl
    · rw [if_neg c2, if_neg c2]
      by_cases c3 : r = 9218868437227405312
      · rw [if_pos c3, if_pos c3]; rfl
      · rw [if_neg c3, if_neg c3]; rfl

def neg (x : Nat) : Nat := x ^^^ 9223372036854775808

theorem read_neg {x : Nat} (h : x < 18446744073709551616) : double.read (neg x) = (double.read x).opposite := by
  obtain ⟨s, r, hr, rfl⟩ := word_of x h
  unfold neg
  rw [xor_sign s r hr, read_opposite s r hr]

theorem ans_opposite {x y : Nat} (h : double.read y = (double.read x).opposite) : ans y = (-(ans x).1, (ans x).2) := by
  unfold ans
  rw [h]
  cases double.read x with
  | nan s f => rfl
  | infinity s => rfl
  | number s m i =>
    simp only [Datum.opposite]
    by_cases c : (m * 2 ^ (i + 1074).toNat + H) / U ≤ 1073741823
    · rw [if_pos c, if_pos c, sv_not]
    · rw [if_neg c, if_neg c]; rfl

theorem nearest_word (mag : Nat) (place : Int) : ∃ r, r < 9223372036854775808 ∧ ∀ s, double.nearest s mag place = double.word s r := by
  by_cases h : mag = 0
  · refine ⟨0, by omega, fun s => ?_⟩
    unfold Format.nearest
    rw [if_pos h]
  · refine ⟨min ((max (place + mag.log2 - 52) (-1074) - -1074).toNat * 4503599627370496 + Toward.even.cut false (mag <<< (place - max (place + mag.log2 - 52) (-1074)).toNat) (max (place + mag.log2 - 52) (-1074) - place).toNat) 9218868437227405312, ?_, fun s => ?_⟩
    · exact Nat.lt_of_le_of_lt (Nat.min_le_right _ _) (by omega)
    · unfold Format.nearest
      rw [if_neg h]
      rfl

theorem mul_neg (x y : Nat) (hy : y < 18446744073709551616) : (double.mul x y = none ∧ double.mul x (neg y) = none) ∨ ∃ p q, double.mul x y = some p ∧ double.mul x (neg y) = some q ∧ double.read q = (double.read p).opposite := by
  have hn := read_neg hy
  unfold Format.mul
  rw [hn]
  cases hx : double.read x with
  | nan s f => left; exact ⟨rfl, rfl⟩
  | infinity s =>
    cases hy2 : double.read y with
    | nan t g => left; exact ⟨rfl, rfl⟩
    | infinity t =>
      right
      refine ⟨_, _, rfl, rfl, ?_⟩
      show double.read (double.word (s ^^ !t) double.infRung) = (double.read (double.word (s ^^ t) double.infRung)).opposite
      rw [read_inf, read_inf]
      cases s <;> cases t <;> rfl
    | number t n j =>
      simp only [Datum.opposite, Datum.product]
      by_cases h0 : n = 0
      · rw [if_pos h0, if_pos h0]; left; exact ⟨rfl, rfl⟩
      · rw [if_neg h0, if_neg h0]
        right
        refine ⟨_, _, rfl, rfl, ?_⟩
        show double.read (double.word (s ^^ !t) double.infRung) = (double.read (double.word (s ^^ t) double.infRung)).opposite
        rw [read_inf, read_inf]
        cases s <;> cases t <;> rfl
  | number s m i =>
    cases hy2 : double.read y with
    | nan t g => left; exact ⟨rfl, rfl⟩
    | infinity t =>
      simp only [Datum.opposite, Datum.product]
      by_cases h0 : m = 0
      · rw [if_pos h0, if_pos h0]; left; exact ⟨rfl, rfl⟩
      · rw [if_neg h0, if_neg h0]
        right
        refine ⟨_, _, rfl, rfl, ?_⟩
        show double.read (double.word ((!t) ^^ s) double.infRung) = (double.read (double.word (t ^^ s) double.infRung)).opposite
        rw [read_inf, read_inf]
        cases s <;> cases t <;> rfl
    | number t n j =>
      right
      refine ⟨_, _, rfl, rfl, ?_⟩
      show double.read (double.nearest (s ^^ !t) (m * n) (i + j)) = (double.read (double.nearest (s ^^ t) (m * n) (i + j))).opposite
      obtain ⟨r, hr, hw⟩ := nearest_word (m * n) (i + j)
      rw [hw, hw, show (s ^^ !t) = !(s ^^ t) by cases s <;> cases t <;> rfl]
      exact read_opposite _ r hr

theorem scale_neg (a : Int) (f : Nat) (hf : f < 18446744073709551616) : scale a (neg f) = (-(scale a f).1, (scale a f).2) := by
  unfold scale
  rcases mul_neg (Go.floatOfInt .f64 a) f hf with ⟨h1, h2⟩ | ⟨p, q, h1, h2, h3⟩
  · rw [h1, h2]; rfl
  · rw [h1, h2]; exact ans_opposite h3

theorem ans_bd (x : Nat) : -1073741823 ≤ (ans x).1 ∧ (ans x).1 ≤ 1073741823 := by
  rcases kinds x with ⟨s, f, h⟩ | ⟨s, h⟩ | ⟨s, v, h⟩
  · rw [ans_nan h]; decide
  · rw [ans_inf h]; decide
  · rw [ans_num h]
    generalize (v + H) / U = n
    by_cases c : n ≤ 1073741823
    · rw [if_pos c]; unfold sv; cases s <;> simp <;> omega
    · rw [if_neg c]; decide
theorem scale_bd (a : Int) (f : Nat) : -1073741823 ≤ (scale a f).1 ∧ (scale a f).1 ≤ 1073741823 := by
  unfold scale
  cases double.mul (Go.floatOfInt .f64 a) f with
  | none => decide
  | some p => exact ans_bd p
theorem of_bd (f : Nat) : -1073741823 ≤ (of f).1 ∧ (of f).1 ≤ 1073741823 := by
  unfold of
  cases double.mul f 4679240012837945344 with
  | none => decide
  | some p => exact ans_bd p
end Fl
