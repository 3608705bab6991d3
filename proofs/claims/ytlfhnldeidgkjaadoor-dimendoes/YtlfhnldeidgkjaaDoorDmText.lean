/-
  Plain functions on texts: what dimen's Text and Parse tell. No conditions.
-/
import Derived.Lib.ItoaNum
import Derived.Lib.Strings
import Derived.Lib.IndexMore
import Derived.Lib.IndexBytes
import Derived.Lib.CutLaws
namespace Dm
open Go

def isDig (c : UInt8) : Bool := decide (48 ≤ c.toNat) && decide (c.toNat ≤ 57)
/-- The number that digits are. -/
def numv (l : List UInt8) : Nat := l.foldl (fun v c => 10 * v + (c.toNat - 48)) 0
def good (l : List UInt8) (most : Nat) : Bool := decide (1 ≤ l.length) && decide (l.length ≤ most) && l.all isDig
def scaled (n count : Nat) : Nat := (131072 * n + 10 ^ count) / (2 * 10 ^ count)
def fraction (p count : Nat) : Nat := (2 * p * 10 ^ count + 65536) / 131072
def ok (p k : Nat) : Bool := scaled (fraction p k) k == p
/-- How many digits tell p scaled points. -/
def count (p : Nat) : Nat := if ok p 1 then 1 else if ok p 2 then 2 else if ok p 3 then 3 else if ok p 4 then 4 else 5
def digits (p : Nat) : List UInt8 := (Lib.decDigits (10 ^ count p + fraction p (count p))).drop 1
def text (a : Int) : List UInt8 := (if a < 0 then [45] else []) ++ Lib.decDigits (a.natAbs / 65536) ++ [46] ++ digits (a.natAbs % 65536) ++ [112, 116]

/-- A length, or refused. -/
def within (n : Int) : Int × Int := if -1073741823 ≤ n ∧ n ≤ 1073741823 then (n, 0) else (0, 2)
/-- What Parse tells of the parts: the sign, in front of the point, behind it (if there is one). -/
def parts (minus : Bool) (whole : List UInt8) (point : Bool) (fract : List UInt8) : Int × Int :=
  if good whole 5 = false then (0, 5)
  else if point = true ∧ good fract 10 = false then (0, 5)
  else within (if minus then -((numv whole * 65536 + (if point then scaled (numv fract) fract.length else 0) : Nat) : Int) else ((numv whole * 65536 + (if point then scaled (numv fract) fract.length else 0) : Nat) : Int))
def parse (l : List UInt8) : Int × Int :=
  if Lib.hasSuffix (Lib.trimPrefix l [45]) [112, 116] = false then (0, 5)
  else parts (Lib.hasPrefix l [45]) (Lib.cut (Lib.trimSuffix (Lib.trimPrefix l [45]) [112, 116]) [46]).1 (Lib.cut (Lib.trimSuffix (Lib.trimPrefix l [45]) [112, 116]) [46]).2.2 (Lib.cut (Lib.trimSuffix (Lib.trimPrefix l [45]) [112, 116]) [46]).2.1

theorem numv_snoc (l : List UInt8) (c : UInt8) : numv (l ++ [c]) = 10 * numv l + (c.toNat - 48) := by simp [numv, List.foldl_append]
theorem fold_lt : ∀ (l : List UInt8) (v : Nat), l.all isDig = true → l.foldl (fun v c => 10 * v + (c.toNat - 48)) v < (v + 1) * 10 ^ l.length
  | [], v, _ => by simp
  | c :: l, v, h => by
    simp only [List.all_cons, Bool.and_eq_true] at h
    have h1 := fold_lt l (10 * v + (c.toNat - 48)) h.2
    have h2 := h.1
    simp [isDig] at h2
    rw [List.foldl_cons, List.length_cons, Nat.pow_succ, Nat.mul_comm (10 ^ l.length) 10, ← Nat.mul_assoc]
    refine Nat.lt_of_lt_of_le h1 (Nat.mul_le_mul_right _ ?_)
    omega
theorem numv_lt (l : List UInt8) (h : l.all isDig = true) : numv l < 10 ^ l.length := by
  have := fold_lt l 0 h
  simpa [numv] using this

theorem ok5 (p : Nat) : scaled (fraction p 5) 5 = p := by
  unfold scaled fraction
  omega
theorem ok_count (p : Nat) : scaled (fraction p (count p)) (count p) = p := by
  unfold count
  by_cases h1 : ok p 1 = true
  · rw [if_pos h1]; simpa [ok] using h1
  · rw [if_neg h1]
    by_cases h2 : ok p 2 = true
    · rw [if_pos h2]; simpa [ok] using h2
    · rw [if_neg h2]
      by_cases h3 : ok p 3 = true
      · rw [if_pos h3]; simpa [ok] using h3
      · rw [if_neg h3]
        by_cases h4 : ok p 4 = true
        · rw [if_pos h4]; simpa [ok] using h4
        · rw [if_neg h4]; exact ok5 p
theorem count_bd (p : Nat) : 1 ≤ count p ∧ count p ≤ 5 := by
  unfold count
  by_cases h1 : ok p 1 = true
  · rw [if_pos h1]; omega
  · rw [if_neg h1]
    by_cases h2 : ok p 2 = true
    · rw [if_pos h2]; omega
    · rw [if_neg h2]
      by_cases h3 : ok p 3 = true
      · rw [if_pos h3]; omega
      · rw [if_neg h3]
        by_cases h4 : ok p 4 = true
        · rw [if_pos h4]; omega
        · rw [if_neg h4]; omega
/-- Fewer digits do not do. -/
theorem count_least (p k : Nat) (h1 : 1 ≤ k) (h2 : k < count p) : scaled (fraction p k) k ≠ p := by
  have hb := count_bd p
  have hk : k = 1 ∨ k = 2 ∨ k = 3 ∨ k = 4 := by omega
  unfold count at h2
  by_cases c1 : ok p 1 = true
  · rw [if_pos c1] at h2; omega
  · rw [if_neg c1] at h2
    by_cases c2 : ok p 2 = true
    · rw [if_pos c2] at h2
      obtain rfl : k = 1 := by omega
      simpa [ok] using c1
    · rw [if_neg c2] at h2
      by_cases c3 : ok p 3 = true
      · rw [if_pos c3] at h2
        obtain rfl | rfl : k = 1 ∨ k = 2 := by omega
        · simpa [ok] using c1
        · simpa [ok] using c2
      · rw [if_neg c3] at h2
        by_cases c4 : ok p 4 = true
        · rw [if_pos c4] at h2
          obtain rfl | rfl | rfl : k = 1 ∨ k = 2 ∨ k = 3 := by omega
          · simpa [ok] using c1
          · simpa [ok] using c2
          · simpa [ok] using c3
        · obtain rfl | rfl | rfl | rfl := hk
          · simpa [ok] using c1
          · simpa [ok] using c2
          · simpa [ok] using c3
          · simpa [ok] using c4

theorem pow10_bd (k : Nat) (h : k ≤ 10) : 10 ^ k ≤ 10000000000 := by
  have : 10 ^ k ≤ 10 ^ 10 := Nat.pow_le_pow_right (by omega) h
  omega
end Dm
