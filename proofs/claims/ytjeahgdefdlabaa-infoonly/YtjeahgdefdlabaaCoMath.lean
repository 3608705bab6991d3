/-
  Plain functions on bytes (layer 12, cover), with nothing of the program: glyphs that are covered, got and put, and found; facts on them. No conditions beyond those stated.
-/
import Derived.Test.YtjeahgdefdlabaaHeMath
namespace Co
open Bn He

/-- Each is greater than the one before, and none is over 65534. -/
def asc : Int → List Int → Bool
  | _, [] => true
  | lo, x :: r => decide (lo < x) && decide (x ≤ 65534) && asc x r
def isCov (l : List Int) : Bool := asc (-1) l
theorem asc_cons {lo x : Int} {r : List Int} (h : asc lo (x :: r) = true) : lo < x ∧ x ≤ 65534 ∧ asc x r = true := by
  rw [asc] at h
  simp only [Bool.and_eq_true, decide_eq_true_eq] at h
  exact ⟨h.1.1, h.1.2, h.2⟩
theorem asc_mem : ∀ {l : List Int} {lo : Int}, asc lo l = true → ∀ x ∈ l, lo < x ∧ x ≤ 65534
  | [], _, _, x, hx => by simp at hx
  | y :: r, lo, h, x, hx => by
    obtain ⟨h1, h2, h3⟩ := asc_cons h
    rcases List.mem_cons.1 hx with rfl | hx
    · exact ⟨h1, h2⟩
    · have := asc_mem h3 x hx
      omega
theorem asc_len : ∀ {l : List Int} {lo : Int}, asc lo l = true → -1 ≤ lo → lo ≤ 65534 → (l.length : Int) ≤ 65534 - lo
  | [], lo, _, _, h => by simp; omega
  | x :: r, lo, h, h0, _ => by
    obtain ⟨h1, h2, h3⟩ := asc_cons h
    have := asc_len h3 (by omega) h2
    rw [List.length_cons]; omega
theorem cov_len {l : List Int} (h : isCov l = true) : l.length ≤ 65535 := by
  have := asc_len h (by omega) (by omega)
  omega
theorem cov_mem {l : List Int} (h : isCov l = true) : ∀ x ∈ l, 0 ≤ x ∧ x ≤ 65534 := fun x hx => by
  have := asc_mem h x hx
  omega
/-- By place: as the document says it. -/
theorem asc_at : ∀ {l : List Int} {lo : Int}, asc lo l = true ↔ ∀ i, i < l.length → l.getD i 0 ≤ 65534 ∧ (i = 0 → lo < l.getD i 0) ∧ (0 < i → l.getD (i - 1) 0 < l.getD i 0)
  | [], lo => by simp [asc]
  | x :: r, lo => by
    constructor
    · intro h
      obtain ⟨h1, h2, h3⟩ := asc_cons h
      intro i hi
      cases i with
      | zero => exact ⟨h2, fun _ => h1, by omega⟩
      | succ j =>
        have hj : j < r.length := by simpa using hi
        obtain ⟨q1, q2, q3⟩ := (asc_at.1 h3) j hj
        refine ⟨by simpa using q1, by omega, fun _ => ?_⟩
        cases j with
        | zero => simpa using q2 rfl
        | succ k => simpa using q3 (by omega)
    · intro h
      rw [asc]
      simp only [Bool.and_eq_true, decide_eq_true_eq]
      have h0 := h 0 (by simp)
      refine ⟨⟨by simpa using h0.2.1 rfl, by simpa using h0.1⟩, asc_at.2 fun j hj => ?_⟩
      have q := h (j + 1) (by simpa using hj)
      refine ⟨by simpa using q.1, fun e => ?_, fun e => ?_⟩
      · subst e; simpa using q.2.2 (by omega)
      · obtain ⟨k, rfl⟩ : ∃ k, j = k + 1 := ⟨j - 1, by omega⟩
        simpa using q.2.2 (by omega)
theorem cov_less {l : List Int} (h : isCov l = true) : ∀ (j i : Nat), i < j → j < l.length → l.getD i 0 < l.getD j 0
  | 0, i, h1, _ => by omega
  | j + 1, i, h1, h2 => by
    have q := ((asc_at.1 h) (j + 1) h2).2.2 (by omega)
    rw [Nat.add_sub_cancel] at q
    by_cases e : i = j
    · rw [e]; exact q
    · have := cov_less h j i (by omega) (by omega)
      omega

/-- The glyphs from a to b. -/
def rng (a b : Int) : List Int := (List.range (b - a + 1).toNat).map fun i => a + (i : Nat)
theorem rng_len (a b : Int) : (rng a b).length = (b - a + 1).toNat := by simp [rng]
theorem rng_one (a : Int) : rng a a = [a] := by simp [rng]
theorem rng_cons {a b : Int} (h : a ≤ b) : rng a b = a :: rng (a + 1) b := by
  unfold rng
  rw [show (b - a + 1).toNat = (b - (a + 1) + 1).toNat + 1 by omega, List.range_succ_eq_map, List.map_cons, List.map_map]
  simp only [List.cons.injEq]
  refine ⟨by simp, List.map_congr_left fun i _ => ?_⟩
  simp; omega
theorem rng_nil {a b : Int} (h : b < a) : rng a b = [] := by simp [rng, show (b - a + 1).toNat = 0 by omega]
theorem rng_snoc {a b : Int} (h : a ≤ b + 1) : rng a (b + 1) = rng a b ++ [b + 1] := by
  unfold rng
  rw [show (b + 1 - a + 1).toNat = (b - a + 1).toNat + 1 by omega, List.range_succ, List.map_append]
  simp; omega

def expand : List (Int × Int) → List Int
  | [] => []
  | (a, b) :: q => rng a b ++ expand q
/-- Runs that are as long as can be. -/
def more (x : Int) : List (Int × Int) → List (Int × Int)
  | [] => [(x, x)]
  | (a, b) :: q => if a = x + 1 then (x, b) :: q else (x, x) :: (a, b) :: q
def runs : List Int → List (Int × Int)
  | [] => []
  | x :: r => more x (runs r)
theorem runs_ok : ∀ l : List Int, ∀ p ∈ runs l, p.1 ≤ p.2 ∧ p.1 ∈ l ∧ p.2 ∈ l
  | [], p, h => by simp [runs] at h
  | x :: r, p, h => by
    have ih := runs_ok r
    rw [runs] at h
    cases e : runs r with
    | nil =>
      rw [e, more] at h
      simp at h; subst h; simp
    | cons q s =>
      obtain ⟨a, b⟩ := q
      rw [e] at ih
      rw [e, more] at h
      have ha := ih (a, b) (by simp)
      dsimp only at ha
      by_cases hc : a = x + 1
      · rw [if_pos hc] at h
        rcases List.mem_cons.1 h with rfl | h
        · exact ⟨by dsimp only; omega, by simp, List.mem_cons_of_mem _ ha.2.2⟩
        · have := ih p (List.mem_cons_of_mem _ h)
          exact ⟨this.1, List.mem_cons_of_mem _ this.2.1, List.mem_cons_of_mem _ this.2.2⟩
      · rw [if_neg hc] at h
        rcases List.mem_cons.1 h with rfl | h
        · simp
        · have := ih p h
          exact ⟨this.1, List.mem_cons_of_mem _ this.2.1, List.mem_cons_of_mem _ this.2.2⟩
theorem expand_more (x : Int) (q : List (Int × Int)) (h : ∀ p ∈ q, p.1 ≤ p.2) : expand (more x q) = x :: expand q := by
  cases q with
  | nil => simp [more, expand, rng_one]
  | cons p s =>
    obtain ⟨a, b⟩ := p
    have hab := h (a, b) (by simp)
    dsimp only at hab
    rw [more]
    by_cases hc : a = x + 1
    · rw [if_pos hc, expand, expand, rng_cons (show x ≤ b by omega), hc]; rfl
    · rw [if_neg hc, expand, rng_one]; rfl
theorem expand_runs : ∀ l : List Int, expand (runs l) = l
  | [] => rfl
  | x :: r => by rw [runs, expand_more x _ (fun p hp => (runs_ok r p hp).1), expand_runs r]
theorem more_len (x : Int) (q : List (Int × Int)) : (more x q).length ≤ q.length + 1 := by
  cases q with
  | nil => simp [more]
  | cons p s =>
    obtain ⟨a, b⟩ := p
    rw [more]
    by_cases hc : a = x + 1
    · rw [if_pos hc]; simp
    · rw [if_neg hc]; simp
/-- A run ahead of others is one more at most. -/
theorem runs_rng (t : List Int) : ∀ (n : Nat) (a b : Int), (b - a + 1).toNat = n → 1 ≤ n → (runs (rng a b ++ t)).length ≤ (runs t).length + 1
  | 0, _, _, _, h => by omega
  | 1, a, b, h, _ => by
    obtain rfl : a = b := by omega
    rw [rng_one]
    exact more_len a (runs t)
  | n + 2, a, b, h, _ => by
    have ih := runs_rng t (n + 1) (a + 1) b (by omega) (by omega)
    rw [rng_cons (show a ≤ b by omega), List.cons_append, runs]
    rw [rng_cons (show a + 1 ≤ b by omega), List.cons_append] at ih ⊢
    cases e : runs ((a + 1) :: (rng (a + 1 + 1) b ++ t)) with
    | nil =>
      rw [runs] at e
      generalize runs (rng (a + 1 + 1) b ++ t) = q at e
      cases q with
      | nil => simp [more] at e
      | cons p s =>
        obtain ⟨c, d⟩ := p
        rw [more] at e
        by_cases hc : c = a + 1 + 1
        · rw [if_pos hc] at e; simp at e
        · rw [if_neg hc] at e; simp at e
    | cons p s =>
      obtain ⟨c, d⟩ := p
      have hc : c = a + 1 := by
        rw [runs] at e
        generalize runs (rng (a + 1 + 1) b ++ t) = q at e
        cases q with
        | nil => simp [more] at e; omega
        | cons p' s' =>
          obtain ⟨c', d'⟩ := p'
          rw [more] at e
          by_cases hc : c' = a + 1 + 1
          · rw [if_pos hc] at e; simp at e; omega
          · rw [if_neg hc] at e; simp at e; omega
      rw [e] at ih
      rw [more, if_pos hc]
      simpa using ih
theorem runs_expand : ∀ (q : List (Int × Int)), (∀ p ∈ q, p.1 ≤ p.2) → (runs (expand q)).length ≤ q.length
  | [], _ => by simp [expand, runs]
  | (a, b) :: q, h => by
    have ih := runs_expand q fun p hp => h p (List.mem_cons_of_mem _ hp)
    have hab := h (a, b) (by simp)
    dsimp only at hab
    have := runs_rng (expand q) (b - a + 1).toNat a b rfl (by omega)
    rw [expand, List.length_cons]
    omega
end Co
