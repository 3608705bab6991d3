/-
  Plain facts on tables that have a byte in common, with nothing of the program: a row that ascends tells it by its neighbours. No conditions beyond those stated.
-/
import Derived.Test.YtchhjfocanjniaaGreatSfFacts3
namespace Sf
/-- Two tables have a byte in common. -/
def hits (a b : Tab × Nat) : Prop := a.2 < b.2 + b.1.2.length ∧ b.2 < a.2 + a.1.2.length
instance (a b : Tab × Nat) : Decidable (hits a b) := by unfold hits; infer_instance
def full (r : Tab × Nat) : Bool := !decide (r.1.2 = [])
def laps (l : List (Tab × Nat)) : Bool := decide (¬ (l.filter full).Pairwise fun a b => ¬ hits a b)
theorem hits_symm {a b : Tab × Nat} (h : ¬ hits a b) : ¬ hits b a := fun k => h ⟨k.2, k.1⟩
/-- A neighbour begins ahead of one's end. -/
def Near (l : List (Tab × Nat)) (i : Nat) : Prop := ∃ x y, l[i]? = some x ∧ l[i + 1]? = some y ∧ y.2 < x.2 + x.1.2.length
theorem laps_perm {l l' : List (Tab × Nat)} (hp : l'.Perm (l.filter full)) : laps l = true ↔ ¬ l'.Pairwise fun a b => ¬ hits a b := by
  unfold laps
  rw [decide_eq_true_eq, List.Perm.pairwise_iff (fun h => hits_symm h) hp]
theorem laps_near {l l' : List (Tab × Nat)} (hp : l'.Perm (l.filter full)) (hs : ∀ (i j : Nat) (x y : Tab × Nat), i < j → l'[i]? = some x → l'[j]? = some y → x.2 ≤ y.2) {i : Nat} (h : Near l' i) : laps l = true := by
  rw [laps_perm hp]
  intro hw
  obtain ⟨x, y, hx, hy, hlt⟩ := h
  have hxy := hs i (i + 1) x y (by omega) hx hy
  have hm : y ∈ l.filter full := hp.mem_iff.1 (List.mem_of_getElem? hy)
  have hf := (List.mem_filter.1 hm).2
  have hpos : 0 < y.1.2.length := by
    unfold full at hf
    simp at hf
    exact List.length_pos_iff.2 hf
  obtain ⟨hi, rfl⟩ := List.getElem?_eq_some_iff.1 hx
  obtain ⟨hj, rfl⟩ := List.getElem?_eq_some_iff.1 hy
  exact List.pairwise_iff_getElem.1 hw i (i + 1) hi hj (by omega) ⟨by omega, hlt⟩
theorem laps_apart {l l' : List (Tab × Nat)} (hp : l'.Perm (l.filter full)) (hs : ∀ (i j : Nat) (x y : Tab × Nat), i < j → l'[i]? = some x → l'[j]? = some y → x.2 ≤ y.2) (h : ∀ i, ¬ Near l' i) : laps l = false := by
  rw [Bool.eq_false_iff]
  intro hc
  refine (laps_perm hp).1 hc (List.pairwise_iff_getElem.2 ?_)
  intro i j hi hj hij hh
  have hi1 : i + 1 < l'.length := by omega
  have h1 := h i
  have h2 : l'[i].2 + l'[i].1.2.length ≤ l'[i + 1].2 := by
    rcases Nat.lt_or_ge l'[i + 1].2 (l'[i].2 + l'[i].1.2.length) with hlt | hge
    · exact absurd ⟨_, _, List.getElem?_eq_getElem hi, List.getElem?_eq_getElem hi1, hlt⟩ h1
    · exact hge
  have h3 : l'[i + 1].2 ≤ l'[j].2 := by
    by_cases e : i + 1 = j
    · subst e; exact Nat.le_refl _
    · exact hs (i + 1) j _ _ (by omega) (List.getElem?_eq_getElem hi1) (List.getElem?_eq_getElem hj)
  have := hh.2
  omega
theorem tab_len {s : List UInt8} {i : Nat} (h : recAt s i + recLen s i ≤ s.length) : (tab s i).2.length = recLen s i := by
  unfold tab; simp; omega
theorem laps_clash {s : List UInt8} {n : Nat} (h : ∀ i, i < n → recAt s i + recLen s i ≤ s.length) : laps ((List.range n).map fun i => (tab s i, recAt s i)) = anyClash s n := by
  have key : ((((List.range n).map fun i => (tab s i, recAt s i)).filter full).Pairwise fun a b => ¬ hits a b) ↔ ∀ i j, i < j → j < n → clash s j i = false := by
    rw [List.pairwise_filter, List.pairwise_map, List.pairwise_iff_getElem]
    constructor
    · intro hw i j hij hj
      have hi : i < n := by omega
      have := hw i j (by simpa using hi) (by simpa using hj) hij
      simp only [List.getElem_range] at this
      have hli := tab_len (h i hi)
      have hlj := tab_len (h j hj)
      unfold full at this
      unfold clash
      rw [Bool.eq_false_iff]
      intro hc
      simp only [Bool.and_eq_true, decide_eq_true_eq] at hc
      refine this ?_ ?_ ⟨by simp only; omega, by simp only; omega⟩
      · simp; intro e; rw [e] at hli; simp at hli; omega
      · simp; intro e; rw [e] at hlj; simp at hlj; omega
    · intro hw i j hi hj hij
      have hj' : j < n := by simpa using hj
      have hi' : i < n := by simpa using hi
      simp only [List.getElem_range]
      intro h1 h2 hh
      have hli := tab_len (h i hi')
      have hlj := tab_len (h j hj')
      have hc := hw i j hij hj'
      unfold full at h1 h2
      simp at h1 h2
      have p1 := List.length_pos_iff.2 h1
      have p2 := List.length_pos_iff.2 h2
      obtain ⟨a1, a2⟩ := hh
      simp only at a1 a2
      unfold clash at hc
      rw [Bool.eq_false_iff] at hc
      apply hc
      simp only [Bool.and_eq_true, decide_eq_true_eq]
      omega
  unfold laps
  unfold anyClash
  rw [Bool.eq_iff_iff, decide_eq_true_eq, List.any_eq_true, not_congr key]
  constructor
  · intro hn
    refine Classical.byContradiction fun hno => hn fun i j hij hj => ?_
    rw [Bool.eq_false_iff]
    intro hc
    exact hno ⟨j, List.mem_range.2 hj, List.any_eq_true.2 ⟨i, List.mem_range.2 hij, hc⟩⟩
  · rintro ⟨j, hj, hany⟩ hall
    obtain ⟨i, hi, hc⟩ := List.any_eq_true.1 hany
    rw [hall i j (List.mem_range.1 hi) (List.mem_range.1 hj)] at hc
    cases hc
end Sf
