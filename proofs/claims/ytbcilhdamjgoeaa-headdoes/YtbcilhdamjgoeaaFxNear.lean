/-
  Plain facts on the nearest quotient (Fx.near): signs, sides, how near it is, that it grows. No conditions beyond those stated.
-/
import Derived.Test.YtbcilhdamjgoeaaFxMath
namespace Go.Proofs.Ytbcilhdamjgoeaa
namespace Fx

theorem size_neg (x : Int) : size (-x) = size x := by unfold size; split <;> split <;> omega
theorem size_zero : size 0 = 0 := rfl

theorem near_zero (c : Int) (hc : c ≠ 0) : near 0 c = 0 := by
  have h : 2 * size ((0 : Int).tmod c) < size c := by
    rw [Int.zero_tmod, size_zero, size_natAbs]; omega
  rw [near, if_pos h, Int.zero_tdiv]

theorem near_neg (n c : Int) (hc : c ≠ 0) : near (-n) c = -near n c := by
  by_cases hn : n = 0
  · subst hn; rw [Int.neg_zero, near_zero c hc, Int.neg_zero]
  · unfold near
    rw [Int.neg_tmod, size_neg, Int.neg_tdiv]
    by_cases h1 : 2 * size (n.tmod c) < size c
    · rw [if_pos h1, if_pos h1]
    · rw [if_neg h1, if_neg h1]
      by_cases a : n < 0 <;> by_cases b : c < 0
      · have e1 : decide (-n < 0) = false := by simp; omega
        have e2 : decide (n < 0) = true := by simp; omega
        have e3 : decide (c < 0) = true := by simp; omega
        rw [e1, e2, e3]; simp; omega
      · have e1 : decide (-n < 0) = false := by simp; omega
        have e2 : decide (n < 0) = true := by simp; omega
        have e3 : decide (c < 0) = false := by simp; omega
        rw [e1, e2, e3]; simp; omega
      · have e1 : decide (-n < 0) = true := by simp; omega
        have e2 : decide (n < 0) = false := by simp; omega
        have e3 : decide (c < 0) = true := by simp; omega
        rw [e1, e2, e3]; simp; omega
      · have e1 : decide (-n < 0) = true := by simp; omega
        have e2 : decide (n < 0) = false := by simp; omega
        have e3 : decide (c < 0) = false := by simp; omega
        rw [e1, e2, e3]; simp; omega

theorem near_neg_by (n c : Int) (hc : c ≠ 0) : near n (-c) = -near n c := by
  unfold near
  rw [Int.tmod_neg, size_neg, Int.tdiv_neg]
  by_cases h1 : 2 * size (n.tmod c) < size c
  · rw [if_pos h1, if_pos h1]
  · rw [if_neg h1, if_neg h1]
    by_cases a : n < 0 <;> by_cases b : c < 0
    · have e1 : decide (-c < 0) = false := by simp; omega
      have e2 : decide (n < 0) = true := by simp; omega
      have e3 : decide (c < 0) = true := by simp; omega
      rw [e1, e2, e3]; simp; omega
    · have e1 : decide (-c < 0) = true := by simp; omega
      have e2 : decide (n < 0) = true := by simp; omega
      have e3 : decide (c < 0) = false := by simp; omega
      rw [e1, e2, e3]; simp; omega
    · have e1 : decide (-c < 0) = false := by simp; omega
      have e2 : decide (n < 0) = false := by simp; omega
      have e3 : decide (c < 0) = true := by simp; omega
      rw [e1, e2, e3]; simp; omega
    · have e1 : decide (-c < 0) = true := by simp; omega
      have e2 : decide (n < 0) = false := by simp; omega
      have e3 : decide (c < 0) = false := by simp; omega
      rw [e1, e2, e3]; simp; omega

theorem near_self (a c : Int) (hc : c ≠ 0) : near (a * c) c = a := by
  have h : 2 * size ((a * c).tmod c) < size c := by
    rw [Int.mul_tmod_left, size_zero, size_natAbs]; omega
  rw [near, if_pos h, Int.mul_tdiv_cancel a hc]

/-- Not farther from n than half of c; and where just as far, farther from 0. -/
theorem near_spec (n c : Int) (hc : c ≠ 0) :
    (2 * (near n c * c - n) ≤ size c ∧ -size c ≤ 2 * (near n c * c - n)) ∧
    (2 * (near n c * c - n) = size c ∨ 2 * (near n c * c - n) = -size c → (0 ≤ n ↔ n ≤ near n c * c)) := by
  have hd : n.tdiv c * c + n.tmod c = n := by rw [Int.mul_comm]; exact Int.mul_tdiv_add_tmod n c
  have hb := tmod_bd n c hc
  have hs1 : 0 ≤ n → 0 ≤ n.tmod c := fun h => Int.tmod_nonneg c h
  have hs2 : n ≤ 0 → n.tmod c ≤ 0 := fun h => by
    have := Int.tmod_nonneg (a := -n) c (by omega)
    rw [Int.neg_tmod] at this; omega
  have hz1 : size (n.tmod c) = (n.tmod c).natAbs := size_natAbs _
  have hz2 : size c = c.natAbs := size_natAbs _
  unfold near
  by_cases h1 : 2 * size (n.tmod c) < size c
  · rw [if_pos h1]
    generalize n.tdiv c * c = t at *
    generalize n.tmod c = r at *
    omega
  · rw [if_neg h1]
    by_cases a : n < 0 <;> by_cases b : c < 0
    · have e2 : decide (n < 0) = true := by simp; omega
      have e3 : decide (c < 0) = true := by simp; omega
      rw [e2, e3, if_pos rfl, Int.add_mul, Int.one_mul]
      generalize n.tdiv c * c = t at *
      generalize n.tmod c = r at *
      omega
    · have e2 : decide (n < 0) = true := by simp; omega
      have e3 : decide (c < 0) = false := by simp; omega
      rw [e2, e3, if_neg (by simp), Int.sub_mul, Int.one_mul]
      generalize n.tdiv c * c = t at *
      generalize n.tmod c = r at *
      omega
    · have e2 : decide (n < 0) = false := by simp; omega
      have e3 : decide (c < 0) = true := by simp; omega
      rw [e2, e3, if_neg (by simp), Int.sub_mul, Int.one_mul]
      generalize n.tdiv c * c = t at *
      generalize n.tmod c = r at *
      omega
    · have e2 : decide (n < 0) = false := by simp; omega
      have e3 : decide (c < 0) = false := by simp; omega
      rw [e2, e3, if_pos rfl, Int.add_mul, Int.one_mul]
      generalize n.tdiv c * c = t at *
      generalize n.tmod c = r at *
      omega

theorem near_mono (n m c : Int) (hc : 0 < c) (h : n ≤ m) : near n c ≤ near m c := by
  have h1 := (near_spec n c (by omega)).1
  have h2 := (near_spec m c (by omega)).1
  have hz : size c = c := by unfold size; rw [if_neg (by omega)]
  rw [hz] at h1 h2
  by_cases he : n = m
  · subst he; exact Int.le_refl _
  · by_cases hl : near n c ≤ near m c
    · exact hl
    · exfalso
      have h3 : (near m c + 1) * c ≤ near n c * c := Int.mul_le_mul_of_nonneg_right (by omega) (by omega)
      rw [Int.add_mul, Int.one_mul] at h3
      omega

/-- Lengths and signs. -/
theorem len_neg (a : Int) : len (-a) = len a := by
  cases h : len a with
  | true => obtain ⟨h1, h2⟩ := (len_iff a).1 h; exact len_yes (by omega) (by omega)
  | false => have := len_no h; exact len_not (by omega)

theorem mulDiv_comm (a b c : Int) : mulDiv a b c = mulDiv b a c := by
  unfold mulDiv
  rw [Int.mul_comm a b]
  have : is [a, b, c] = is [b, a, c] := by
    simp only [is, List.all_cons]
    cases len a <;> cases len b <;> rfl
  rw [this]

theorem told_neg (q : Int) : told (-q) = (-(told q).1, (told q).2) := by
  unfold told
  rw [len_neg]
  by_cases h : len q = true
  · rw [if_pos h, if_pos h]
  · rw [if_neg h, if_neg h]; rfl

theorem mulDiv_neg (a b c : Int) : mulDiv (-a) b c = (-(mulDiv a b c).1, (mulDiv a b c).2) := by
  unfold mulDiv
  have : is [-a, b, c] = is [a, b, c] := by simp only [is, List.all_cons, len_neg]
  rw [this]
  by_cases h : is [a, b, c] = true ∧ c ≠ 0
  · rw [if_pos h, if_pos h, Int.neg_mul, near_neg _ _ h.2, told_neg]
  · rw [if_neg h, if_neg h]; rfl

theorem mulDiv_neg2 (a b c : Int) : mulDiv (-a) b (-c) = mulDiv a b c := by
  unfold mulDiv
  have : is [-a, b, -c] = is [a, b, c] := by simp only [is, List.all_cons, len_neg]
  rw [this]
  by_cases h : is [a, b, c] = true ∧ c ≠ 0
  · rw [if_pos ⟨h.1, by omega⟩, if_pos h, Int.neg_mul, near_neg _ _ (by omega), near_neg_by _ _ h.2, Int.neg_neg]
  · rw [if_neg h, if_neg]
    intro hh; exact h ⟨hh.1, by omega⟩

theorem mulDiv_self (a c : Int) (ha : len a = true) (hc : len c = true) (h : c ≠ 0) : mulDiv a c c = (a, 0) := by
  unfold mulDiv
  rw [if_pos ⟨by simp [is, ha, hc], h⟩, near_self _ _ h, told, if_pos ha]

end Fx
end Go.Proofs.Ytbcilhdamjgoeaa
