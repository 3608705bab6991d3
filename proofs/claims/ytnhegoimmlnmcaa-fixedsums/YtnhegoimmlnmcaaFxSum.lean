/-
  Plain facts on checked sums (Fx.sum): the other way round, two rows together, so many times. No conditions beyond those stated.
-/
import Derived.Test.YtnhegoimmlnmcaaFxNear
namespace Go.Proofs.Ytnhegoimmlnmcaa
namespace Fx

def total : List Int → Int
  | [] => 0
  | n :: r => n + total r
theorem total_append (a b : List Int) : total (a ++ b) = total a + total b := by
  induction a with
  | nil => simp [total]
  | cons n r ih => simp only [List.cons_append, total, ih]; omega
theorem total_reverse (a : List Int) : total a.reverse = total a := by
  induction a with
  | nil => rfl
  | cons n r ih => rw [List.reverse_cons, total_append, ih]; simp [total]; omega

theorem sumFrom_total (l : List Int) : ∀ (s t : Int), len s = true → sumFrom s l = some t → t = s + total l ∧ len t = true := by
  induction l with
  | nil => intro s t hs h; simp only [sumFrom, Option.some.injEq] at h; subst h; exact ⟨by simp [total], hs⟩
  | cons n r ih =>
    intro s t hs h
    rw [sumFrom] at h
    by_cases hl : len (s + n) = true
    · rw [if_pos hl] at h
      obtain ⟨h1, h2⟩ := ih _ _ hl h
      exact ⟨by simp only [total]; omega, h2⟩
    · rw [if_neg hl] at h; cases h

/-- A sum that is told is the total, and a length; one that is not told is 0. -/
theorem sum_told {l : List Int} (h : (sum l).2 = 0) : (sum l).1 = total l ∧ len (sum l).1 = true ∧ is l = true := by
  unfold sum at *
  by_cases hi : is l = true
  · rw [if_pos hi] at h ⊢
    cases e : sumFrom 0 l with
    | none => rw [e] at h; simp [sumOf] at h
    | some t =>
      obtain ⟨h1, h2⟩ := sumFrom_total l 0 t (by decide) e
      refine ⟨?_, ?_, hi⟩
      · show t = _; omega
      · exact h2
  · rw [if_neg hi] at h; cases h
theorem sum_untold (l : List Int) : (sum l).2 = 0 ∨ (sum l).1 = 0 := by
  unfold sum
  by_cases hi : is l = true
  · rw [if_pos hi]
    cases e : sumFrom 0 l with
    | none => exact .inr rfl
    | some t => exact .inl rfl
  · rw [if_neg hi]; exact .inr rfl

theorem sum_back {l : List Int} (h1 : (sum l).2 = 0) (h2 : (sum l.reverse).2 = 0) : (sum l).1 = (sum l.reverse).1 := by
  rw [(sum_told h1).1, (sum_told h2).1, total_reverse]

theorem sum_pair {a b : Int} (ha : len a = true) (hb : len b = true) : sum [a, b] = told (a + b) := by
  have hi : is [a, b] = true := by simp [is, ha, hb]
  rw [sum, if_pos hi, sumFrom, Int.zero_add, if_pos ha, sumFrom]
  unfold told
  by_cases h : len (a + b) = true
  · rw [if_pos h, if_pos h]; rfl
  · rw [if_neg h, if_neg h]; rfl

theorem sum_joined {l m : List Int} (h1 : (sum l).2 = 0) (h2 : (sum m).2 = 0) (h3 : (sum (l ++ m)).2 = 0) : sum [(sum l).1, (sum m).1] = ((sum (l ++ m)).1, 0) := by
  obtain ⟨e1, l1, _⟩ := sum_told h1
  obtain ⟨e2, l2, _⟩ := sum_told h2
  obtain ⟨e3, l3, _⟩ := sum_told h3
  rw [sum_pair l1 l2]
  have e : (sum l).1 + (sum m).1 = (sum (l ++ m)).1 := by rw [e1, e2, e3, total_append]
  rw [e, told, if_pos l3]

theorem sumFrom_replicate (z : Int) : ∀ (N : Nat) (s : Int), len s = true → (0 ≤ z ∧ 0 ≤ s ∨ z ≤ 0 ∧ s ≤ 0) →
    sumFrom s (List.replicate N z) = if len (s + z * N) = true then some (s + z * N) else none := by
  intro N
  induction N with
  | zero => intro s hs _; simp [sumFrom, hs]
  | succ N ih =>
    intro s hs hsign
    rw [List.replicate_succ, sumFrom]
    have he : s + z * ((N + 1 : Nat) : Int) = s + z + z * N := by
      rw [show ((N + 1 : Nat) : Int) = (N : Int) + 1 from by omega, Int.mul_add, Int.mul_one]; omega
    rw [he]
    by_cases hl : len (s + z) = true
    · rw [if_pos hl]; exact ih _ hl (by omega)
    · rw [if_neg hl]
      have hno : len (s + z + z * N) = false := by
        have h0 := len_no (n := s + z) (by simpa using hl)
        obtain ⟨s1, s2⟩ := (len_iff s).1 hs
        refine len_not ?_
        rcases hsign with ⟨a, b⟩ | ⟨a, b⟩
        · have : 0 ≤ z * N := Int.mul_nonneg a (by omega)
          omega
        · have : 0 ≤ (-z) * N := Int.mul_nonneg (by omega) (by omega)
          rw [Int.neg_mul] at this
          omega
      rw [if_neg (by rw [hno]; simp)]

theorem sum_same (z : Int) (N : Nat) (hN : N ≤ 20) :
    ((N = 0 ∨ (sum (List.replicate N z)).2 = (times z N).2)) ∧ ((sum (List.replicate N z)).2 ≠ 0 ∨ (times z N).2 ≠ 0 ∨ (sum (List.replicate N z)).1 = (times z N).1) := by
  by_cases hz : len z = true
  · have hi : is (List.replicate N z) = true := by
      rw [is, List.all_eq_true]
      intro x hx
      rw [(List.mem_replicate.1 hx).2]; exact hz
    have hn : len (N : Int) = true := len_yes (by omega) (by omega)
    have hs : sum (List.replicate N z) = told (z * N) := by
      rw [sum, if_pos hi, sumFrom_replicate z N 0 (by decide) (by omega), Int.zero_add]
      unfold told
      by_cases h : len (z * N) = true
      · rw [if_pos h, if_pos h]; rfl
      · rw [if_neg h, if_neg h]; rfl
    have ht : times z N = told (z * N) := by
      rw [times, if_pos hz]
      by_cases h0 : z = 0
      · subst h0; rw [if_pos rfl, Int.zero_mul]; rfl
      · rw [if_neg h0, if_pos hn]
    rw [hs, ht]
    exact ⟨.inr rfl, .inr (.inr rfl)⟩
  · have ht : times z N = (0, 1) := by rw [times, if_neg hz]
    rw [ht]
    cases N with
    | zero => exact ⟨.inl rfl, .inr (.inl (by decide))⟩
    | succ N =>
      have hs : sum (List.replicate (N + 1) z) = (0, 1) := by
        rw [sum, if_neg]
        rw [List.replicate_succ, is, List.all_cons]
        simp [hz]
      rw [hs]
      exact ⟨.inr rfl, .inl (by decide)⟩

end Fx
end Go.Proofs.Ytnhegoimmlnmcaa
