/-
  Contract of segment.Get. No conditions beyond those stated.
-/
import Derived.Test.YtfnpindohoflaaaSgRight
namespace Sg
open Bn He Ch
def nTt (ns : List Int) (i : Nat) : Int := ns.getD (7 + i) 0
def nFr (ns : List Int) (n i : Nat) : Int := ns.getD (8 + n + i) 0
def nDe (ns : List Int) (n i : Nat) : Int := ns.getD (8 + 2 * n + i) 0
def nTl (ns : List Int) (n j : Nat) : Int := ns.getD (8 + 3 * n + j) 0
theorem nums_at (s : List UInt8) {j : Nat} (h : j < (nums s).length) : (nums s).getD j 0 = word (s.take (word s 2).toNat) (2 * j) := by
  rw [nums_len] at h
  unfold nums
  exact range_getD (fun i => word (s.take (word s 2).toNat) (2 * i)) _ j h
theorem nums_bound (s : List UInt8) (j : Nat) : 0 ≤ (nums s).getD j 0 ∧ (nums s).getD j 0 ≤ 65535 := by
  by_cases h : j < (nums s).length
  · rw [nums_at s h]; exact word_bound _ _
  · simp only [List.getD]
    rw [List.getElem?_eq_none (by omega)]
    simp
theorem near_nearL {fr tt delta : Int} (h0 : 0 ≤ fr) (h1 : fr ≤ 65535) (h3 : 0 ≤ delta) (h4 : delta ≤ 65535) : near fr tt delta = nearL fr tt ((fr + delta) % 65536) := by
  have hp : plane (fr + delta) = (fr + delta) % 65536 := by
    unfold plane
    by_cases h : 65536 ≤ fr + delta
    · rw [if_pos h]; omega
    · rw [if_neg h]; omega
  unfold near nearL
  rw [hp]
  by_cases h : (fr + delta) % 65536 + tt - fr ≤ 65535
  · rw [if_pos h, if_pos (by omega)]
  · rw [if_neg h, if_neg (by omega)]
    have e : fr + 65535 - (fr + delta) % 65536 = fr + 65536 - (fr + delta) % 65536 - 1 := by omega
    rw [e]
    congr 3
    omega
/-- What holds of a right subtable's numbers. -/
theorem table_facts {s : List UInt8} {m : Nat} (h : rerr s = 0) (hm : (nums s).length = 8 + 3 * many s + m) :
    many s ≤ m ∧ 1 ≤ many s ∧ m ≤ 40000 ∧
    (∀ i, i < many s → nTt (nums s) i = sTo (s.take (word s 2).toNat) i ∧ nFr (nums s) (many s) i = sFr (s.take (word s 2).toNat) (many s) i ∧ nDe (nums s) (many s) i = sDe (s.take (word s 2).toNat) (many s) i) ∧
    (∀ j, j < m → nTl (nums s) (many s) j = word (s.take (word s 2).toNat) (16 + 6 * many s + 2 * j)) ∧
    ((s.take (word s 2).toNat).length / 2 = 8 + 3 * many s + m) := by
  obtain ⟨_, _, h1, h2, h3, h4⟩ := get_rok h
  have hl := nums_len s
  refine ⟨by omega, h1, by omega, fun i hi => ⟨?_, ?_, ?_⟩, fun j hj => ?_, ?_⟩
  · unfold nTt sTo; rw [nums_at s (by omega)]; congr 1; omega
  · unfold nFr sFr; rw [nums_at s (by omega)]; congr 1; omega
  · unfold nDe sDe; rw [nums_at s (by omega)]; congr 1; omega
  · unfold nTl; rw [nums_at s (by omega)]; congr 1; omega
  · rw [List.length_take]; omega
theorem seg_segF {s : List UInt8} {m i : Nat} (h : rerr s = 0) (hm : (nums s).length = 8 + 3 * many s + m) (hi : i < many s) (hle : nFr (nums s) (many s) i ≤ nTt (nums s) i) (hev : nTl (nums s) (many s) i % 2 ≠ 1) :
    seg (s.take (word s 2).toNat) (many s) i = segF (nTt (nums s)) (nFr (nums s) (many s)) (nDe (nums s) (many s)) (nTl (nums s) (many s)) m i := by
  obtain ⟨f1, f2, f3, f4, f5, f6⟩ := table_facts h hm
  obtain ⟨e1, e2, e3⟩ := f4 i hi
  have e5 := f5 i (by omega)
  have bn := fun j => nums_bound s j
  have bTl : ∀ j, 0 ≤ nTl (nums s) (many s) j ∧ nTl (nums s) (many s) j ≤ 65535 := fun j => bn _
  have bFr : 0 ≤ nFr (nums s) (many s) i ∧ nFr (nums s) (many s) i ≤ 65535 := bn _
  have bDe : 0 ≤ nDe (nums s) (many s) i ∧ nDe (nums s) (many s) i ≤ 65535 := bn _
  have bTt : 0 ≤ nTt (nums s) i ∧ nTt (nums s) i ≤ 65535 := bn _
  have bi := bTl i
  have e4 : sOf (s.take (word s 2).toNat) (many s) i = nTl (nums s) (many s) i := by rw [e5]; rfl
  unfold seg segF
  rw [← e1, ← e2, ← e3, e4]
  by_cases hz : nTl (nums s) (many s) i = 0
  · rw [if_pos hz, if_pos hz, near_nearL bFr.1 bFr.2 bDe.1 bDe.2]
  · rw [if_neg hz, if_neg hz]
    unfold far
    rw [show word (s.take (word s 2).toNat) (16 + 6 * many s + 2 * i) = nTl (nums s) (many s) i from e5.symm]
    have hiff : (((s.take (word s 2).toNat).length : Int) < ((16 + 6 * many s + 2 * i : Nat) : Int) + nTl (nums s) (many s) i + 2 * (nTt (nums s) i - nFr (nums s) (many s) i) + 2) ↔ (m : Int) < i + nTl (nums s) (many s) i / 2 + (nTt (nums s) i - nFr (nums s) (many s) i + 1) := by omega
    by_cases hlt : (m : Int) < i + nTl (nums s) (many s) i / 2 + (nTt (nums s) i - nFr (nums s) (many s) i + 1)
    · rw [if_pos hlt, if_pos (hiff.2 hlt)]
    · rw [if_neg hlt, if_neg (fun hh => hlt (hiff.1 hh))]
      congr 1
      have hsl := spansL_eq (fun c => gl1 (word (s.take (word s 2).toNat) (16 + 6 * many s + 2 * i + (nTl (nums s) (many s) i).toNat + 2 * (c - nFr (nums s) (many s) i).toNat)) (nDe (nums s) (many s) i))
        ((List.range (nTt (nums s) i - nFr (nums s) (many s) i + 1).toNat).map fun j => gl1 (nTl (nums s) (many s) (i + (nTl (nums s) (many s) i / 2).toNat + j)) (nDe (nums s) (many s) i)) (nFr (nums s) (many s) i) (fun j hj => by
          rw [List.length_map, List.length_range] at hj
          rw [range_getD _ _ _ hj, f5 _ (by omega)]
          congr 2
          omega)
      rw [hsl, List.length_map, List.length_range]
theorem bad_badF {s : List UInt8} {m i : Nat} (h : rerr s = 0) (hm : (nums s).length = 8 + 3 * many s + m) (hi : i < many s) : bad (s.take (word s 2).toNat) (many s) i = badF (nTt (nums s)) (nFr (nums s) (many s)) (nTl (nums s) (many s)) i := by
  obtain ⟨f1, f2, f3, f4, f5, f6⟩ := table_facts h hm
  obtain ⟨e1, e2, e3⟩ := f4 i hi
  have e5 := f5 i (by omega)
  unfold bad badF last lastF
  have hla : (if i = 0 then -1 else sTo (s.take (word s 2).toNat) (i - 1)) = if i = 0 then -1 else nTt (nums s) (i - 1) := by
    by_cases h0 : i = 0
    · rw [if_pos h0, if_pos h0]
    · rw [if_neg h0, if_neg h0, (f4 (i - 1) (by omega)).1]
  rw [hla, ← e1, ← e2, e5]
  rfl
theorem right_body {s : List UInt8} {m : Nat} (h : rerr s = 0) (hm : (nums s).length = 8 + 3 * many s + m) :
    rightF (nTt (nums s)) (nFr (nums s) (many s)) (nTl (nums s) (many s)) (many s) = decide (¬ ((List.range (many s)).any (fun i => bad (s.take (word s 2).toNat) (many s) i) = true ∨ last (s.take (word s 2).toNat) (many s) ≠ 65535)) := by
  obtain ⟨f1, f2, f3, f4, f5, f6⟩ := table_facts h hm
  have e1 : okTo (nTt (nums s)) (nFr (nums s) (many s)) (nTl (nums s) (many s)) (many s) = !((List.range (many s)).any fun i => bad (s.take (word s 2).toNat) (many s) i) := by
    unfold okTo
    rw [List.not_any_eq_all_not]
    rw [Bool.eq_iff_iff, List.all_eq_true, List.all_eq_true]
    constructor
    · intro hh i hi
      have := hh i hi
      rw [← bad_badF h hm (List.mem_range.1 hi)] at this
      exact this
    · intro hh i hi
      have := hh i hi
      rw [← bad_badF h hm (List.mem_range.1 hi)]
      exact this
  have e2 : lastF (nTt (nums s)) (many s) = last (s.take (word s 2).toNat) (many s) := by
    unfold lastF last
    rw [if_neg (by omega), if_neg (by omega), (f4 (many s - 1) (by omega)).1]
  unfold rightF
  rw [e1, e2]
  generalize (List.range (many s)).any _ = A
  cases A <;> simp
/-- The spans of the first k segments. -/
def upTo (f : Nat → List Span × Int) (k : Nat) : List Span := (List.range k).flatMap fun i => (f i).1
theorem upTo_step (f : Nat → List Span × Int) (k : Nat) : upTo f (k + 1) = upTo f k ++ (f k).1 := by
  unfold upTo
  rw [List.range_succ, List.flatMap_append]
  simp
/-- What Get tells, segment by segment. -/
theorem get_table {s : List UInt8} {m : Nat} (h : rerr s = 0) (hm : (nums s).length = 8 + 3 * many s + m) (f : Nat → List Span × Int) (hf : f = segF (nTt (nums s)) (nFr (nums s) (many s)) (nDe (nums s) (many s)) (nTl (nums s) (many s)) m) :
    (rightF (nTt (nums s)) (nFr (nums s) (many s)) (nTl (nums s) (many s)) (many s) = false → get s = ([], 5)) ∧
    (rightF (nTt (nums s)) (nFr (nums s) (many s)) (nTl (nums s) (many s)) (many s) = true →
      (∀ i, i < many s → nFr (nums s) (many s) i ≤ nTt (nums s) i ∧ lastF (nTt (nums s)) i < nFr (nums s) (many s) i) ∧
      (∀ k, k < many s → (∀ i, i < k → (f i).2 = 0) → (f k).2 ≠ 0 → get s = ([], (f k).2)) ∧
      ((∀ i, i < many s → (f i).2 = 0) → get s = (upTo f (many s), 0))) := by
  have hg := (get_rok h).1
  rw [right_body h hm]
  constructor
  · intro hr
    rw [decide_eq_false_iff_not, Decidable.not_not] at hr
    rw [hg]
    unfold body
    rw [if_pos hr]
  · intro hr
    rw [decide_eq_true_eq] at hr
    have hb : ∀ i, i < many s → badF (nTt (nums s)) (nFr (nums s) (many s)) (nTl (nums s) (many s)) i = false := by
      intro i hi
      rw [← bad_badF h hm hi]
      cases e : bad (s.take (word s 2).toNat) (many s) i with
      | false => rfl
      | true => exact absurd (.inl (List.any_eq_true.2 ⟨i, List.mem_range.2 hi, e⟩)) hr
    have hb2 : ∀ i, i < many s → nFr (nums s) (many s) i ≤ nTt (nums s) i ∧ nTl (nums s) (many s) i % 2 ≠ 1 ∧ lastF (nTt (nums s)) i < nFr (nums s) (many s) i := by
      intro i hi
      have := hb i hi
      unfold badF at this
      simp only [Bool.or_eq_false_iff, decide_eq_false_iff_not] at this
      exact ⟨by omega, this.2, by omega⟩
    have hseg : ∀ i, i < many s → seg (s.take (word s 2).toNat) (many s) i = f i := fun i hi => by rw [hf]; exact seg_segF h hm hi (hb2 i hi).1 (hb2 i hi).2.1
    refine ⟨fun i hi => ⟨(hb2 i hi).1, (hb2 i hi).2.2⟩, fun k hk h0 hne => ?_, fun h0 => ?_⟩
    · have hs := Sf.scan_first (fun i => (seg (s.take (word s 2).toNat) (many s) i).2) (many s) 0 k (Nat.zero_le _) (by omega) (fun i _ hi => by
        show (seg _ _ i).2 = 0
        rw [hseg i (by omega)]; exact h0 i hi) (by show (seg _ _ k).2 ≠ 0; rw [hseg k hk]; exact hne)
      have hs2 : Sf.scan (fun i => (seg (s.take (word s 2).toNat) (many s) i).2) 0 (many s) = (f k).2 := by rw [hs, hseg k hk]
      rw [hg]
      unfold body
      rw [if_neg hr, hs2, if_pos hne]
    · have hs := Sf.scan_zero (fun i => (seg (s.take (word s 2).toNat) (many s) i).2) (many s) 0 (fun i _ hi => by
        show (seg _ _ i).2 = 0
        rw [hseg i (by omega)]; exact h0 i (by omega))
      rw [hg]
      unfold body
      rw [if_neg hr, hs, if_neg (by simp)]
      congr 1
      unfold upTo
      rw [List.flatMap_def, List.flatMap_def]
      congr 1
      apply List.map_congr_left
      intro i hi
      rw [hseg i (List.mem_range.1 hi)]
end Sg
