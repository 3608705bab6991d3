/-
  Plain facts on IEEE double words: comparing, products with a power of two, differences that are exact, quotients by 65536, whole parts, rounding. No conditions.
-/
import Derived.Test.YtlfhnldeidgkjaaDoorDmFloat
namespace Fl
open Ieee

/-- Units to one, and to a half. -/
def U : Nat := 2 ^ 1074
def H : Nat := 2 ^ 1073
theorem pow_gen (a b : Nat) (h : a = b + 1) : 2 ^ a = 2 * 2 ^ b := by subst h; rw [Nat.pow_succ, Nat.mul_comm]
theorem U_eq : U = 2 * H := by unfold U H; exact pow_gen 1074 1073 rfl
theorem H_pos : 0 < H := by unfold H; exact Nat.two_pow_pos 1073
theorem U_pos : 0 < U := by unfold U; exact Nat.two_pow_pos 1074
theorem pow_mono (a b : Nat) (h : a ≤ b) : 2 ^ a ≤ 2 ^ b := Nat.pow_le_pow_right (by omega) h

theorem signed_eq (s : Bool) (m k : Nat) : signed s m k = sv s (m * 2 ^ k) := by
  unfold signed sv; rw [Nat.shiftLeft_eq]
theorem sv_mul (s : Bool) (a b : Nat) : sv s (a * b) = sv s a * b := by
  cases s <;> simp [sv, Int.neg_mul]

theorem cmp_scale (a b c : Int) (h : 0 < c) : compare (a * c) (b * c) = compare a b := by
  show compareOfLessAndEq (a * c) (b * c) = compareOfLessAndEq a b
  unfold compareOfLessAndEq
  by_cases h1 : a < b
  · rw [if_pos h1, if_pos (Int.mul_lt_mul_of_pos_right h1 h)]
  · rw [if_neg h1]
    have h2 : ¬ a * c < b * c := by
      intro k
      exact h1 (Int.lt_of_mul_lt_mul_right k (Int.le_of_lt h))
    rw [if_neg h2]
    by_cases h3 : a = b
    · rw [if_pos h3, if_pos (by rw [h3])]
    · rw [if_neg h3, if_neg (fun k => h3 (Int.eq_of_mul_eq_mul_right (by omega) k))]

theorem pow_split {i base : Int} (h1 : -1074 ≤ base) (h2 : base ≤ i) (m : Nat) : m * 2 ^ (i + 1074).toNat = m * 2 ^ (i - base).toNat * 2 ^ (base + 1074).toNat := by
  rw [Nat.mul_assoc, ← Nat.pow_add]
  congr 2
  omega

theorem order_num {x y : Nat} {s t : Bool} {v u : Nat} (hx : Num x s v) (hy : Num y t u) : double.order x y = some (compare (sv s v) (sv t u)) := by
  obtain ⟨m, i, h1, h2, _, rfl⟩ := hx
  obtain ⟨n, j, k1, k2, _, rfl⟩ := hy
  unfold Format.order
  rw [h1, k1]
  show some (compare (signed s m (i - min i j).toNat) (signed t n (j - min i j).toNat)) = _
  rw [signed_eq, signed_eq, pow_split (base := min i j) (by omega) (by omega) m, pow_split (i := j) (base := min i j) (by omega) (by omega) n, sv_mul s (m * 2 ^ (i - min i j).toNat), sv_mul t (n * 2 ^ (j - min i j).toNat), cmp_scale]
  exact Int.natCast_pos.2 (Nat.two_pow_pos _)

theorem cmp_lt (a b : Int) : (some (compare a b) == some Ordering.lt) = decide (a < b) := by
  show (some (compareOfLessAndEq a b) == some Ordering.lt) = decide (a < b)
  unfold compareOfLessAndEq
  by_cases h : a < b
  · simp [h]
  · by_cases k : a = b <;> simp [h, k]
theorem cmp_gt (a b : Int) : (some (compare a b) == some Ordering.gt) = decide (b < a) := by
  show (some (compareOfLessAndEq a b) == some Ordering.gt) = decide (b < a)
  unfold compareOfLessAndEq
  by_cases h : a < b
  · have : ¬ b < a := by omega
    simp [h, this]
  · by_cases k : a = b
    · subst k; simp
    · have : b < a := by omega
      simp [h, k, this]
theorem cmp_eq (a b : Int) : (some (compare a b) == some Ordering.eq) = decide (a = b) := by
  show (some (compareOfLessAndEq a b) == some Ordering.eq) = decide (a = b)
  unfold compareOfLessAndEq
  by_cases h : a < b
  · have : ¬ a = b := by omega
    simp [h, this]
  · by_cases k : a = b
    · subst k; simp
    · simp [h, k]

theorem lt_num {x y : Nat} {s t : Bool} {v u : Nat} (hx : Num x s v) (hy : Num y t u) : (double.order x y == some .lt) = decide (sv s v < sv t u) := by rw [order_num hx hy, cmp_lt]
theorem gt_num {x y : Nat} {s t : Bool} {v u : Nat} (hx : Num x s v) (hy : Num y t u) : (double.order x y == some .gt) = decide (sv t u < sv s v) := by rw [order_num hx hy, cmp_gt]
theorem eq_num {x y : Nat} {s t : Bool} {v u : Nat} (hx : Num x s v) (hy : Num y t u) : (double.order x y == some .eq) = decide (sv s v = sv t u) := by rw [order_num hx hy, cmp_eq]

theorem mul_two {x : Nat} {s : Bool} {v : Nat} (hx : Num x s v) (C c : Nat) (hc : c ≤ 52) (hC : double.read C = .number false 4503599627370496 ((c : Int) - 52)) :
    (v * 2 ^ c < 2 ^ 2098 → ∃ y, double.mul x C = some y ∧ Num y s (v * 2 ^ c)) ∧ (2 ^ 2098 ≤ v * 2 ^ c → double.mul x C = some (double.word s double.infRung)) := by
  obtain ⟨m, i, h1, h2, h3, rfl⟩ := hx
  have hmul : double.mul x C = some (double.nearest s (m * 4503599627370496) (i + ((c : Int) - 52))) := by
    unfold Format.mul
    rw [h1, hC]
    show some (double.nearest (s ^^ false) (m * 4503599627370496) (i + ((c : Int) - 52))) = _
    rw [Bool.xor_false]
  have hK : m * 4503599627370496 * 2 ^ (i + 1074).toNat = m * 2 ^ ((i + 1074).toNat + c + (52 - c)) := by
    have : (i + 1074).toNat + c + (52 - c) = 52 + (i + 1074).toNat := by omega
    rw [this, Nat.pow_add, Nat.mul_assoc]
  have hA : i + ((c : Int) - 52) + 1074 + ((52 - c : Nat) : Int) = (((i + 1074).toNat : Nat) : Int) := by omega
  have hv : m * 2 ^ (i + 1074).toNat * 2 ^ c = m * 2 ^ ((i + 1074).toNat + c) := by rw [Nat.mul_assoc, ← Nat.pow_add]
  rw [hmul, hv]
  constructor
  · intro h
    exact ⟨_, rfl, nearest_num s _ _ m _ (52 - c) _ h3 h hA hK⟩
  · intro h
    rw [nearest_inf s _ _ m _ (52 - c) _ h3 h hA hK]

/-- A difference that the format has. -/
theorem sub_num {x y : Nat} {s t : Bool} {v u : Nat} (hx : Num x s v) (hy : Num y t u) (m e : Nat) (hm : m < 9007199254740992) (hv : m * 2 ^ e < 2 ^ 2098) (hd : (sv s v - sv t u).natAbs = m * 2 ^ e) :
    ∃ z n, double.sub x y = some z ∧ Num z n (m * 2 ^ e) ∧ (sv n (m * 2 ^ e) = sv s v - sv t u) := by
  obtain ⟨a, i, h1, h2, h3, rfl⟩ := hx
  obtain ⟨b, j, k1, k2, k3, rfl⟩ := hy
  have hsub : double.sub x y = some (double.nearest (if signed s a (i - min i j).toNat + signed (!t) b (j - min i j).toNat = 0 then s && !t else decide (signed s a (i - min i j).toNat + signed (!t) b (j - min i j).toNat < 0)) (signed s a (i - min i j).toNat + signed (!t) b (j - min i j).toNat).natAbs (min i j)) := by
    unfold Format.sub
    rw [h1, k1]
    rfl
  rw [hsub]
  have htot : (signed s a (i - min i j).toNat + signed (!t) b (j - min i j).toNat) * ((2 ^ (min i j + 1074).toNat : Nat) : Int) = sv s (a * 2 ^ (i + 1074).toNat) - sv t (b * 2 ^ (j + 1074).toNat) := by
    rw [signed_eq, signed_eq, pow_split (base := min i j) (by omega) (by omega) a, pow_split (i := j) (base := min i j) (by omega) (by omega) b, sv_mul s (a * 2 ^ (i - min i j).toNat), sv_mul t (b * 2 ^ (j - min i j).toNat), sv_not, Int.add_mul, Int.neg_mul]
    rfl
  generalize signed s a (i - min i j).toNat + signed (!t) b (j - min i j).toNat = total at *
  rw [← htot] at hd
  rw [← htot]
  have hp : 0 < 2 ^ (min i j + 1074).toNat := Nat.two_pow_pos _
  have hK : total.natAbs * 2 ^ (min i j + 1074).toNat = m * 2 ^ (e + 0) := by
    rw [Int.natAbs_mul, Int.natAbs_natCast] at hd
    rw [Nat.add_zero]; exact hd
  refine ⟨_, _, rfl, nearest_num _ _ _ m e 0 (min i j + 1074).toNat hm hv (by omega) hK, ?_⟩
  rw [Nat.add_zero] at hK
  rw [← hK]
  by_cases h0 : total = 0
  · subst h0
    simp [sv]
  · rw [if_neg h0]
    by_cases hn : total < 0
    · simp [sv, hn]
      rw [← Int.neg_mul]
      congr 1
      omega
    · simp [sv, hn]
      rw [show ((total.natAbs : Nat) : Int) = total by omega]

theorem log2_le {m : Nat} (h : m < 9007199254740992) : m.log2 ≤ 52 := by
  by_cases h0 : m = 0
  · subst h0; decide
  · have : m.log2 < 53 := (Nat.log2_lt h0).2 h
    omega

/-- By 65536, where nothing is lost. -/
theorem div_two {x : Nat} {s : Bool} {m : Nat} {i : Int} (hx : double.read x = .number s m i) (hi : -1058 ≤ i) (C : Nat) (hC : double.read C = .number false 4503599627370496 (-36)) :
    ∃ y, double.div x C = some y ∧ Num y s (m * 2 ^ (i + 1058).toNat) := by
  obtain ⟨hm, b1, b2⟩ := read_bd hx
  have hl := log2_le hm
  have e52 : (4503599627370496 : Nat).log2 = 52 := by decide
  have hp : (4503599627370496 : Nat) = 2 ^ 52 := rfl
  have hq : m <<< (52 + 2 + 52 - m.log2) / 4503599627370496 = m * 2 ^ (54 - m.log2) := by
    rw [Nat.shiftLeft_eq, show 52 + 2 + 52 - m.log2 = (54 - m.log2) + 52 by omega, Nat.pow_add, ← Nat.mul_assoc, hp, Nat.mul_div_cancel _ (Nat.two_pow_pos _)]
  have hr : m <<< (52 + 2 + 52 - m.log2) % 4503599627370496 = 0 := by
    rw [Nat.shiftLeft_eq, show 52 + 2 + 52 - m.log2 = (54 - m.log2) + 52 by omega, Nat.pow_add, ← Nat.mul_assoc, hp, Nat.mul_mod_left]
  have hdiv : double.div x C = some (double.nearest s (2 * (m * 2 ^ (54 - m.log2))) (i - -36 - ((52 + 2 + 52 - m.log2 : Nat) : Int) - 1)) := by
    unfold Format.div
    rw [hx, hC]
    simp only [Datum.quotient, d_frac, e52, hq, hr]
    simp only [Bool.xor_false]
    rfl
  refine ⟨_, hdiv, nearest_num s _ _ m _ (106 - m.log2) (i + 1058 + 51).toNat hm ?_ (by omega) ?_⟩
  · have h1 : m * 2 ^ (i + 1058).toNat < 2 ^ (53 + (i + 1058).toNat) := by rw [Nat.pow_add 2 53]; exact Nat.mul_lt_mul_of_pos_right hm (Nat.two_pow_pos _)
    have h4 : 2 ^ (53 + (i + 1058).toNat) ≤ 2 ^ 2098 := pow_mono _ 2098 (by omega)
    exact Nat.lt_of_lt_of_le h1 h4
  · rw [Nat.mul_comm 2, Nat.mul_assoc, Nat.mul_assoc, ← Nat.pow_succ', ← Nat.pow_add]
    congr 2
    omega

/-- The whole part. -/
theorem toInt_num {x : Nat} {s : Bool} {v : Nat} (hx : Num x s v) : (double.read x).toInt .zero = some (sv s (v / U)) := by
  obtain ⟨m, i, h1, h2, h3, rfl⟩ := hx
  rw [h1]
  show some (signed s (Toward.zero.cut s (m <<< i.toNat) (-i).toNat) 0) = _
  rw [signed_eq, Nat.pow_zero, Nat.mul_one]
  congr 2
  unfold Toward.cut
  simp only [Nat.one_shiftLeft]
  have hmin : m <<< i.toNat / 2 ^ min (-i).toNat ((m <<< i.toNat).log2 + 2) = m <<< i.toNat / 2 ^ (-i).toNat := by
    by_cases hle : (-i).toNat ≤ (m <<< i.toNat).log2 + 2
    · rw [Nat.min_eq_left hle]
    · have hlt : m <<< i.toNat < 2 ^ ((m <<< i.toNat).log2 + 2) := by
        have := @Nat.lt_log2_self (m <<< i.toNat)
        have h4 : 2 ^ ((m <<< i.toNat).log2 + 1) ≤ 2 ^ ((m <<< i.toNat).log2 + 2) := Nat.pow_le_pow_right (by omega) (by omega)
        omega
      rw [Nat.min_eq_right (by omega), Nat.div_eq_of_lt hlt, Nat.div_eq_of_lt]
      exact Nat.lt_of_lt_of_le hlt (Nat.pow_le_pow_right (by omega) (by omega))
  rw [hmin, Nat.shiftLeft_eq]
  unfold U
  show m * 2 ^ i.toNat / 2 ^ (-i).toNat + 0 = _
  by_cases hi : 0 ≤ i
  · have e1 : (-i).toNat = 0 := by omega
    rw [e1, show (i + 1074).toNat = i.toNat + 1074 by omega, Nat.pow_add, ← Nat.mul_assoc, Nat.mul_div_cancel _ (Nat.two_pow_pos 1074)]
    simp
  · have e1 : i.toNat = 0 := by omega
    have e2 : 1074 = (-i).toNat + (i + 1074).toNat := by omega
    rw [e1, Nat.pow_zero, Nat.mul_one, Nat.add_zero]
    conv => rhs; rw [e2, Nat.pow_add]
    rw [Nat.mul_div_mul_right _ _ (Nat.two_pow_pos _)]

end Fl
