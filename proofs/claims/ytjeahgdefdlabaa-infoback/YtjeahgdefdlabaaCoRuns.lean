/-
  Plain functions (layer 12, cover), further: the longest ranges of a list from the left, and what is written. No conditions beyond those stated.
-/
import Derived.Test.YtjeahgdefdlabaaCoFacts
namespace Co
open Bn He

/-- Ranges with how many glyphs are before each. -/
def trs : Nat → List (Int × Int) → List (Int × Int × Int)
  | _, [] => []
  | k, (a, b) :: q => (a, b, (k : Int)) :: trs (k + (b - a + 1).toNat) q
/-- From the left: at place i, where the range at hand began at place f with glyph a. -/
def jn : Nat → Nat → Int → List Int → List (Int × Int × Int)
  | _, _, _, [] => []
  | i, f, a, g :: r => if r.head? = some (g + 1) then jn (i + 1) f a r else (a, g, (f : Int)) :: jn (i + 1) (i + 1) (r.headD 0) r
def trsFrom (f : Nat) (a : Int) : List (Int × Int) → List (Int × Int × Int)
  | [] => []
  | (_, b) :: q => (a, b, (f : Int)) :: trs (f + (b - a + 1).toNat) q
theorem runs_first (h : Int) (r : List Int) : ∃ b q, runs (h :: r) = (h, b) :: q := by
  rw [runs]
  cases runs r with
  | nil => exact ⟨_, _, rfl⟩
  | cons p s =>
    obtain ⟨a, b⟩ := p
    rw [more]
    by_cases c : a = h + 1
    · rw [if_pos c]; exact ⟨_, _, rfl⟩
    · rw [if_neg c]; exact ⟨_, _, rfl⟩
theorem jn_runs : ∀ (r : List Int) (i f : Nat) (a g : Int), a ≤ g → i = f + (g - a).toNat → jn i f a (g :: r) = trsFrom f a (runs (g :: r))
  | [], i, f, a, g, _, _ => rfl
  | h :: r, i, f, a, g, hag, hi => by
    obtain ⟨b, q, e⟩ := runs_first h r
    have e2 : runs (g :: h :: r) = more g ((h, b) :: q) := by rw [runs, e]
    rw [e2, jn, more]
    by_cases c : h = g + 1
    · rw [if_pos (by rw [List.head?_cons, c]), if_pos c, jn_runs r (i + 1) f a h (by omega) (by omega), e]; rfl
    · rw [if_neg (by rw [List.head?_cons]; intro k; exact c (Option.some.inj k)), if_neg c, List.headD_cons, jn_runs r (i + 1) (i + 1) h h (by omega) (by omega), e]
      show _ = (a, g, (f : Int)) :: trs (f + (g - a + 1).toNat) ((h, b) :: q)
      rw [trs, trsFrom, show f + (g - a + 1).toNat = i + 1 by omega]
/-- All ranges of a list, from the left. -/
def tr (l : List Int) : List (Int × Int × Int) := trs 0 (runs l)
theorem jn_all (l : List Int) : jn 0 0 (l.getD 0 0) l = tr l := by
  cases l with
  | nil => rfl
  | cons g r =>
    show jn 0 0 g (g :: r) = _
    rw [jn_runs r 0 0 g g (by omega) (by omega)]
    obtain ⟨b, q, e⟩ := runs_first g r
    unfold tr
    rw [e]; rfl
theorem trs_len : ∀ (q : List (Int × Int)) (k : Nat), (trs k q).length = q.length
  | [], _ => rfl
  | (a, b) :: q, k => by rw [trs, List.length_cons, trs_len q, List.length_cons]
theorem tr_len (l : List Int) : (tr l).length = (runs l).length := trs_len _ _
theorem head_drop (l : List Int) (k : Nat) : (l.drop k).headD 0 = l.getD k 0 := by
  by_cases h : k < l.length
  · rw [drop_cons h]; rfl
  · simp [List.drop_of_length_le (show l.length ≤ k by omega), List.getD, List.getElem?_eq_none (show l.length ≤ k by omega)]
theorem head_some (l : List Int) (k : Nat) (g : Int) : (l.drop k).head? = some g ↔ k < l.length ∧ l.getD k 0 = g := by
  by_cases h : k < l.length
  · rw [drop_cons h, List.head?_cons]
    exact ⟨fun e => ⟨h, Option.some.inj e⟩, fun e => by rw [e.2]⟩
  · simp [List.drop_of_length_le (show l.length ≤ k by omega), h]
/-- One place further, in the range at hand. -/
theorem jn_same {l : List Int} {k f : Nat} {a : Int} (hk : k < l.length) (h : k + 1 < l.length ∧ l.getD (k + 1) 0 = l.getD k 0 + 1) : jn k f a (l.drop k) = jn (k + 1) f a (l.drop (k + 1)) := by
  rw [drop_cons hk, jn, if_pos ((head_some _ _ _).2 h)]
/-- One place further, a range ends. -/
theorem jn_next {l : List Int} {k f : Nat} {a : Int} (hk : k < l.length) (h : ¬ (k + 1 < l.length ∧ l.getD (k + 1) 0 = l.getD k 0 + 1)) : jn k f a (l.drop k) = (a, l.getD k 0, (f : Int)) :: jn (k + 1) (k + 1) (l.getD (k + 1) 0) (l.drop (k + 1)) := by
  rw [drop_cons hk, jn, if_neg (fun e => h ((head_some _ _ _).1 e)), head_drop]

/-! What is written. -/
def nums (q : List (Int × Int × Int)) : List Int := q.flatMap fun x => [x.1, x.2.1, x.2.2]
theorem nums_append (a b : List (Int × Int × Int)) : nums (a ++ b) = nums a ++ nums b := List.flatMap_append
theorem nums_len : ∀ q : List (Int × Int × Int), (nums q).length = 3 * q.length
  | [] => rfl
  | x :: q => by
    have := nums_len q
    unfold nums at *
    rw [List.flatMap_cons, List.length_append, this, List.length_cons]; simp; omega
theorem flat_append : ∀ a b : List Int, flat (a ++ b) = flat a ++ flat b
  | [], _ => rfl
  | x :: a, b => by rw [List.cons_append, flat, flat, flat_append a b, List.append_assoc]
theorem recs_flat : ∀ (q : List (Int × Int)) (k : Nat), recs k q = flat (nums (trs k q))
  | [], _ => rfl
  | (a, b) :: q, k => by
    rw [recs, trs, recs_flat q]
    show _ = flat ([a, b, (k : Int)] ++ nums (trs (k + (b - a + 1).toNat) q))
    rw [flat_append]
    simp [flat]
theorem join_sz : ∀ xs : List Int, join (sz xs.length) xs = flat xs
  | [] => rfl
  | x :: xs => by rw [List.length_cons, sz_succ, join, join_sz xs, flat]; rfl
theorem fit_sz : ∀ xs : List Int, (∀ x ∈ xs, 0 ≤ x ∧ x ≤ 65535) → allFit (sz xs.length) xs = true
  | [], _ => rfl
  | x :: xs, h => by
    have hx := h x (by simp)
    rw [List.length_cons, sz_succ, allFit, fit_sz xs (fun y hy => h y (List.mem_cons_of_mem _ hy)), fits2 (x := x) (by omega) (by omega)]; rfl
theorem put_sz {xs : List Int} (h : ∀ x ∈ xs, 0 ≤ x ∧ x ≤ 65535) : Bn.put (sz xs.length) xs = (flat xs, 0) := by
  unfold Bn.put
  rw [sz_sizes, sz_len, if_neg (by simp), fit_sz xs h, if_neg (by simp), join_sz]
theorem trs_mem : ∀ (q : List (Int × Int)) (k : Nat) (m : Nat), (∀ p ∈ q, (0 ≤ p.1 ∧ p.1 ≤ 65534) ∧ (0 ≤ p.2 ∧ p.2 ≤ 65534) ∧ p.1 ≤ p.2) → k + (expand q).length ≤ m → ∀ x ∈ trs k q, (0 ≤ x.1 ∧ x.1 ≤ 65534) ∧ (0 ≤ x.2.1 ∧ x.2.1 ≤ 65534) ∧ 0 ≤ x.2.2 ∧ x.2.2 ≤ (m : Int)
  | [], _, _, _, _, x, h => by simp [trs] at h
  | (a, b) :: q, k, m, hq, hm, x, hx => by
    have h0 := hq (a, b) (by simp)
    dsimp only at h0
    rw [expand, List.length_append, rng_len] at hm
    rw [trs] at hx
    rcases List.mem_cons.1 hx with rfl | hx
    · exact ⟨h0.1, h0.2.1, by dsimp only; omega, by dsimp only; omega⟩
    · exact trs_mem q _ m (fun p hp => hq p (List.mem_cons_of_mem _ hp)) (by omega) x hx
/-- The numbers of a list's ranges. -/
theorem tr_fit {l : List Int} (h : isCov l = true) : ∀ x ∈ nums (tr l), 0 ≤ x ∧ x ≤ 65535 := by
  have hm := cov_mem h
  have hl := cov_len h
  have ht := trs_mem (runs l) 0 65535 (fun p hp => by
    obtain ⟨h1, h2, h3⟩ := runs_ok l p hp
    exact ⟨hm _ h2, hm _ h3, h1⟩) (by rw [expand_runs]; omega)
  intro x hx
  unfold nums at hx
  obtain ⟨y, hy, hxy⟩ := List.mem_flatMap.1 hx
  have := ht y hy
  simp only [List.mem_cons, List.not_mem_nil, or_false] at hxy
  rcases hxy with rfl | rfl | rfl <;> omega
/-- What written makes of the two ways. -/
theorem put_two {l : List Int} (h : isCov l = true) : Bn.put (sz ([2, ((runs l).length : Int)] ++ nums (tr l)).length) ([2, ((runs l).length : Int)] ++ nums (tr l)) = (two l, 0) := by
  have hl := cov_len h
  have hr := runs_len l
  rw [put_sz]
  · rw [flat_append]
    unfold two tr
    rw [recs_flat]
    simp [flat]
  · intro x hx
    rcases List.mem_append.1 hx with hx | hx
    · simp only [List.mem_cons, List.not_mem_nil, or_false] at hx
      rcases hx with rfl | rfl <;> omega
    · exact tr_fit h x hx
theorem put_one {l : List Int} (h : isCov l = true) : Bn.put (sz ([1, (l.length : Int)] ++ l).length) ([1, (l.length : Int)] ++ l) = (one l, 0) := by
  have hl := cov_len h
  have hm := cov_mem h
  rw [put_sz]
  · rw [flat_append]
    unfold one
    simp [flat]
  · intro x hx
    rcases List.mem_append.1 hx with hx | hx
    · simp only [List.mem_cons, List.not_mem_nil, or_false] at hx
      rcases hx with rfl | rfl <;> omega
    · have := hm x hx; omega
end Co
