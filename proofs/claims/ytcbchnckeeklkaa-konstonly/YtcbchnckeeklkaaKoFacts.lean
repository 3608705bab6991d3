/-
  Plain facts on the fields of the constants (layer 13, konst), with nothing of the program: the sizes of all fields, what bin reads and writes by them. No conditions beyond those stated.
-/
import Derived.Test.YtcbchnckeeklkaaKoNames
import Derived.Test.YtcbchnckeeklkaaBnPut
namespace Ko
open Bn He

/-- The sizes of a constant's fields. -/
def szK (k : Nat) : List Int := if k = 2 ∨ k = 3 then [2] else if 4 ≤ k ∧ k ≤ 54 then [-2, 2] else [-2]
/-- Those of the first k constants. -/
def szTo : Nat → List Int
  | 0 => []
  | k + 1 => szTo k ++ szK k
theorem sz_sizes : allSizes (szTo 56) = true := by kernel_rfl
theorem sz_many : many (szTo 56) = 214 := by kernel_rfl
theorem sz_len : (szTo 56).length = 107 := by kernel_rfl
theorem sz_places : ((List.range 57).all fun k => decide (many (szTo k) = place k ∧ (szTo k).length ≤ 107)) = true := by kernel_rfl
theorem sz_at {k : Nat} (h : k ≤ 56) : many (szTo k) = place k ∧ (szTo k).length ≤ 107 := by
  have := List.all_eq_true.1 sz_places k (List.mem_range.2 (by omega))
  simpa using this
theorem szK_cases (k : Nat) : (szK k = [size k] ∧ wide k = 2) ∨ (szK k = [size k, 2] ∧ wide k = 4) := by
  unfold szK size wide
  by_cases h1 : k = 2 ∨ k = 3
  · rw [if_pos h1, if_pos h1, if_neg (by omega)]; exact .inl ⟨rfl, rfl⟩
  · rw [if_neg h1, if_neg h1]
    by_cases h2 : 4 ≤ k ∧ k ≤ 54
    · rw [if_pos h2, if_pos h2]; exact .inr ⟨rfl, rfl⟩
    · rw [if_neg h2, if_neg h2]; exact .inl ⟨rfl, rfl⟩
theorem szK_len (k : Nat) : (szK k).length = 1 ∨ (szK k).length = 2 := by
  rcases szK_cases k with ⟨h, _⟩ | ⟨h, _⟩ <;> rw [h]
  · exact .inl rfl
  · exact .inr rfl
theorem szTo_split (k : Nat) : ∀ n, k < n → ∃ r, szTo n = szTo k ++ (szK k ++ r)
  | 0, h => absurd h (Nat.not_lt_zero _)
  | n + 1, h => by
    by_cases e : k = n
    · exact ⟨[], by rw [e, szTo, List.append_nil]⟩
    · obtain ⟨r, hr⟩ := szTo_split k n (by omega)
      exact ⟨r ++ szK n, by rw [szTo, hr]; simp only [List.append_assoc]⟩
/-- All fields, by bin. -/
def flds (t : List UInt8) : List Int := fields t (szTo 56)
theorem flds_len (t : List UInt8) : (flds t).length = 107 := by unfold flds; rw [fields_len, sz_len]
/-- How many fields come before a constant's. -/
def idx (k : Nat) : Nat := (szTo k).length
theorem idx_step (k : Nat) : idx (k + 1) = idx k + (szK k).length := by unfold idx; rw [szTo, List.length_append]
theorem idx_lt {k : Nat} (h : k < 56) : idx k + (szK k).length ≤ 107 := by rw [← idx_step]; exact (sz_at (by omega)).2
/-- A constant's number is the first of its fields. -/
theorem flds_at (t : List UInt8) {k : Nat} (h : k < 56) : ((flds t).drop (idx k)).getD 0 0 = fld t (place k) (size k) := by
  obtain ⟨r, hr⟩ := szTo_split k 56 h
  have hp := (sz_at (show k ≤ 56 by omega)).1
  have e : (flds t).drop (idx k) = fields (t.drop (place k)) (szK k ++ r) := by
    unfold flds idx
    rw [hr, fields_append, hp]
    exact List.drop_left' (fields_len _ _)
  rw [e]
  rcases szK_cases k with ⟨h1, _⟩ | ⟨h1, _⟩ <;> rw [h1] <;> rfl
/-- The first k constants that are read. -/
theorem row_take (t : List UInt8) {k : Nat} (h : k < 56) : (row t).getD k 0 = ((flds t).drop (idx k)).getD 0 0 := by
  rw [flds_at t h]
  simp [row, List.getD, h]
theorem row_len (t : List UInt8) : (row t).length = 56 := by simp [row]
/-- bin reads it. -/
theorem bin_get (s : List UInt8) (pos : Int) : Bn.get s pos (szTo 56) = if (get s pos).2 = 0 then (flds (s.drop pos.toNat), 0) else ([], (get s pos).2) := by
  unfold Bn.get get
  rw [sz_sizes, sz_many]
  by_cases c1 : pos < 0
  · rw [if_pos (.inr c1), if_pos c1, if_neg (by decide)]
  · rw [if_neg (by rintro (h | h); cases h; exact c1 h), if_neg c1]
    by_cases c2 : (s.length : Int) < pos ∨ (s.length : Int) - pos < 214
    · rw [if_pos (by rcases c2 with h | h; exact .inl h; exact .inr h), if_pos c2, if_neg (by decide)]
    · rw [if_neg (by rintro (h | h); exact c2 (.inl h); exact c2 (.inr h)), if_neg c2, if_pos rfl]; rfl
theorem get_cases (s : List UInt8) (pos : Int) : ((get s pos).2 = 0 ∧ get s pos = (row (s.drop pos.toNat), 0)) ∨ ((get s pos).2 ≠ 0 ∧ get s pos = ([], (get s pos).2)) := by
  by_cases h : (get s pos).2 = 0
  · refine .inl ⟨h, ?_⟩
    rw [← (get_ok h).2.2]
    exact Prod.ext rfl h
  · exact .inr ⟨h, Prod.ext (get_none h) rfl⟩

/-- The numbers to write: a constant's own, and noughts for what is ignored. -/
def own (l : List Int) (k : Nat) : List Int := [l.getD k 0] ++ List.replicate ((szK k).length - 1) 0
def flTo (l : List Int) : Nat → List Int
  | 0 => []
  | k + 1 => flTo l k ++ own l k
theorem own_len (l : List Int) (k : Nat) : (own l k).length = (szK k).length := by
  unfold own
  rw [List.length_append, List.length_replicate, List.length_singleton]
  rcases szK_len k with h | h <;> rw [h]
theorem flTo_len (l : List Int) : ∀ k, (flTo l k).length = idx k
  | 0 => rfl
  | k + 1 => by rw [flTo, List.length_append, flTo_len l k, own_len, idx_step]
theorem own_written (l : List Int) (k : Nat) : join (szK k) (own l k) = piece l k := by
  unfold own piece
  rcases szK_cases k with ⟨h, hw⟩ | ⟨h, hw⟩
  · rw [h, hw]
    show bytes (l.getD k 0) (size k).natAbs ++ [] = _
    rw [size_abs]; rfl
  · rw [h, hw]
    show bytes (l.getD k 0) (size k).natAbs ++ (bytes 0 2 ++ []) = _
    rw [size_abs, show bytes 0 2 = [0, 0] by decide]; rfl
theorem own_fits {l : List Int} {k : Nat} (h : fits (l.getD k 0) (size k) = true) : allFit (szK k) (own l k) = true := by
  unfold own
  rcases szK_cases k with ⟨e, _⟩ | ⟨e, _⟩
  · rw [e]
    show (fits (l.getD k 0) (size k) && true) = true
    rw [h]; rfl
  · rw [e]
    show (fits (l.getD k 0) (size k) && (fits 0 2 && true)) = true
    rw [h, show fits 0 2 = true by decide]; rfl
theorem join_app : ∀ (a b c d : List Int), a.length = b.length → join (a ++ c) (b ++ d) = join a b ++ join c d
  | [], [], _, _, _ => rfl
  | x :: a, y :: b, c, d, h => by
    rw [List.cons_append, List.cons_append, join, join, join_app a b c d (by simpa using h), List.append_assoc]
theorem fit_app : ∀ (a b c d : List Int), a.length = b.length → allFit (a ++ c) (b ++ d) = (allFit a b && allFit c d)
  | [], [], _, _, _ => by simp [allFit]
  | x :: a, y :: b, c, d, h => by
    rw [List.cons_append, List.cons_append, allFit, allFit, fit_app a b c d (by simpa using h), Bool.and_assoc]
theorem all_written (l : List Int) : ∀ k, join (szTo k) (flTo l k) = outTo l k
  | 0 => rfl
  | k + 1 => by rw [szTo, flTo, outTo, join_app _ _ _ _ (by rw [flTo_len]; rfl), all_written l k, own_written]
theorem all_fit {l : List Int} (h : isK l = true) : ∀ k, k ≤ 56 → allFit (szTo k) (flTo l k) = true
  | 0, _ => rfl
  | k + 1, hk => by rw [szTo, flTo, fit_app _ _ _ _ (by rw [flTo_len]; rfl), all_fit h k (by omega), own_fits (isK_at h (by omega))]; rfl
/-- bin writes it. -/
theorem bin_put {l : List Int} (h : isK l = true) : Bn.put (szTo 56) (flTo l 56) = put l := by
  unfold Bn.put put
  rw [sz_sizes, flTo_len, all_fit h 56 (Nat.le_refl _), all_written, if_neg (by rintro (h | h); cases h; exact h rfl), if_neg (by decide), if_neg (by rw [h]; decide)]

/-- Are the first k constants right? -/
theorem isK_no {l : List Int} {k : Nat} (hk : k < 56) (h : fits (l.getD k 0) (size k) = false) : isK l = false := by
  cases e : isK l with
  | false => rfl
  | true => rw [isK_at e hk] at h; cases h
theorem isK_yes {l : List Int} (hl : l.length = 56) (h : ∀ k, k < 56 → fits (l.getD k 0) (size k) = true) : isK l = true := by
  unfold isK
  rw [decide_eq_true hl, Bool.true_and, List.all_eq_true]
  intro k hk
  exact h k (List.mem_range.1 hk)
theorem isK_short {l : List Int} (hl : l.length ≠ 56) : isK l = false := by
  unfold isK
  rw [decide_eq_false hl]; rfl
end Ko
