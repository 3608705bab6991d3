/-
  Plain facts on names (layer 13, konst), with nothing of the program: the constants' names, in their order, and a text of words with a blank behind each. No conditions beyond those stated.
-/
import Derived.Test.YtcbchnckeeklkaaKoMath
namespace Ko

/-- The names, in their order. -/
def names : List (List UInt8) := [
  [83, 99, 114, 105, 112, 116, 80, 101, 114, 99, 101, 110, 116, 83, 99, 97, 108, 101, 68, 111, 119, 110],
  [83, 99, 114, 105, 112, 116, 83, 99, 114, 105, 112, 116, 80, 101, 114, 99, 101, 110, 116, 83, 99, 97, 108, 101, 68, 111, 119, 110],
  [68, 101, 108, 105, 109, 105, 116, 101, 100, 83, 117, 98, 70, 111, 114, 109, 117, 108, 97, 77, 105, 110, 72, 101, 105, 103, 104, 116],
  [68, 105, 115, 112, 108, 97, 121, 79, 112, 101, 114, 97, 116, 111, 114, 77, 105, 110, 72, 101, 105, 103, 104, 116],
  [77, 97, 116, 104, 76, 101, 97, 100, 105, 110, 103],
  [65, 120, 105, 115, 72, 101, 105, 103, 104, 116],
  [65, 99, 99, 101, 110, 116, 66, 97, 115, 101, 72, 101, 105, 103, 104, 116],
  [70, 108, 97, 116, 116, 101, 110, 101, 100, 65, 99, 99, 101, 110, 116, 66, 97, 115, 101, 72, 101, 105, 103, 104, 116],
  [83, 117, 98, 115, 99, 114, 105, 112, 116, 83, 104, 105, 102, 116, 68, 111, 119, 110],
  [83, 117, 98, 115, 99, 114, 105, 112, 116, 84, 111, 112, 77, 97, 120],
  [83, 117, 98, 115, 99, 114, 105, 112, 116, 66, 97, 115, 101, 108, 105, 110, 101, 68, 114, 111, 112, 77, 105, 110],
  [83, 117, 112, 101, 114, 115, 99, 114, 105, 112, 116, 83, 104, 105, 102, 116, 85, 112],
  [83, 117, 112, 101, 114, 115, 99, 114, 105, 112, 116, 83, 104, 105, 102, 116, 85, 112, 67, 114, 97, 109, 112, 101, 100],
  [83, 117, 112, 101, 114, 115, 99, 114, 105, 112, 116, 66, 111, 116, 116, 111, 109, 77, 105, 110],
  [83, 117, 112, 101, 114, 115, 99, 114, 105, 112, 116, 66, 97, 115, 101, 108, 105, 110, 101, 68, 114, 111, 112, 77, 97, 120],
  [83, 117, 98, 83, 117, 112, 101, 114, 115, 99, 114, 105, 112, 116, 71, 97, 112, 77, 105, 110],
  [83, 117, 112, 101, 114, 115, 99, 114, 105, 112, 116, 66, 111, 116, 116, 111, 109, 77, 97, 120, 87, 105, 116, 104, 83, 117, 98, 115, 99, 114, 105, 112, 116],
  [83, 112, 97, 99, 101, 65, 102, 116, 101, 114, 83, 99, 114, 105, 112, 116],
  [85, 112, 112, 101, 114, 76, 105, 109, 105, 116, 71, 97, 112, 77, 105, 110],
  [85, 112, 112, 101, 114, 76, 105, 109, 105, 116, 66, 97, 115, 101, 108, 105, 110, 101, 82, 105, 115, 101, 77, 105, 110],
  [76, 111, 119, 101, 114, 76, 105, 109, 105, 116, 71, 97, 112, 77, 105, 110],
  [76, 111, 119, 101, 114, 76, 105, 109, 105, 116, 66, 97, 115, 101, 108, 105, 110, 101, 68, 114, 111, 112, 77, 105, 110],
  [83, 116, 97, 99, 107, 84, 111, 112, 83, 104, 105, 102, 116, 85, 112],
  [83, 116, 97, 99, 107, 84, 111, 112, 68, 105, 115, 112, 108, 97, 121, 83, 116, 121, 108, 101, 83, 104, 105, 102, 116, 85, 112],
  [83, 116, 97, 99, 107, 66, 111, 116, 116, 111, 109, 83, 104, 105, 102, 116, 68, 111, 119, 110],
  [83, 116, 97, 99, 107, 66, 111, 116, 116, 111, 109, 68, 105, 115, 112, 108, 97, 121, 83, 116, 121, 108, 101, 83, 104, 105, 102, 116, 68, 111, 119, 110],
  [83, 116, 97, 99, 107, 71, 97, 112, 77, 105, 110],
  [83, 116, 97, 99, 107, 68, 105, 115, 112, 108, 97, 121, 83, 116, 121, 108, 101, 71, 97, 112, 77, 105, 110],
  [83, 116, 114, 101, 116, 99, 104, 83, 116, 97, 99, 107, 84, 111, 112, 83, 104, 105, 102, 116, 85, 112],
  [83, 116, 114, 101, 116, 99, 104, 83, 116, 97, 99, 107, 66, 111, 116, 116, 111, 109, 83, 104, 105, 102, 116, 68, 111, 119, 110],
  [83, 116, 114, 101, 116, 99, 104, 83, 116, 97, 99, 107, 71, 97, 112, 65, 98, 111, 118, 101, 77, 105, 110],
  [83, 116, 114, 101, 116, 99, 104, 83, 116, 97, 99, 107, 71, 97, 112, 66, 101, 108, 111, 119, 77, 105, 110],
  [70, 114, 97, 99, 116, 105, 111, 110, 78, 117, 109, 101, 114, 97, 116, 111, 114, 83, 104, 105, 102, 116, 85, 112],
  [70, 114, 97, 99, 116, 105, 111, 110, 78, 117, 109, 101, 114, 97, 116, 111, 114, 68, 105, 115, 112, 108, 97, 121, 83, 116, 121, 108, 101, 83, 104, 105, 102, 116, 85, 112],
  [70, 114, 97, 99, 116, 105, 111, 110, 68, 101, 110, 111, 109, 105, 110, 97, 116, 111, 114, 83, 104, 105, 102, 116, 68, 111, 119, 110],
  [70, 114, 97, 99, 116, 105, 111, 110, 68, 101, 110, 111, 109, 105, 110, 97, 116, 111, 114, 68, 105, 115, 112, 108, 97, 121, 83, 116, 121, 108, 101, 83, 104, 105, 102, 116, 68, 111, 119, 110],
  [70, 114, 97, 99, 116, 105, 111, 110, 78, 117, 109, 101, 114, 97, 116, 111, 114, 71, 97, 112, 77, 105, 110],
  [70, 114, 97, 99, 116, 105, 111, 110, 78, 117, 109, 68, 105, 115, 112, 108, 97, 121, 83, 116, 121, 108, 101, 71, 97, 112, 77, 105, 110],
  [70, 114, 97, 99, 116, 105, 111, 110, 82, 117, 108, 101, 84, 104, 105, 99, 107, 110, 101, 115, 115],
  [70, 114, 97, 99, 116, 105, 111, 110, 68, 101, 110, 111, 109, 105, 110, 97, 116, 111, 114, 71, 97, 112, 77, 105, 110],
  [70, 114, 97, 99, 116, 105, 111, 110, 68, 101, 110, 111, 109, 68, 105, 115, 112, 108, 97, 121, 83, 116, 121, 108, 101, 71, 97, 112, 77, 105, 110],
  [83, 107, 101, 119, 101, 100, 70, 114, 97, 99, 116, 105, 111, 110, 72, 111, 114, 105, 122, 111, 110, 116, 97, 108, 71, 97, 112],
  [83, 107, 101, 119, 101, 100, 70, 114, 97, 99, 116, 105, 111, 110, 86, 101, 114, 116, 105, 99, 97, 108, 71, 97, 112],
  [79, 118, 101, 114, 98, 97, 114, 86, 101, 114, 116, 105, 99, 97, 108, 71, 97, 112],
  [79, 118, 101, 114, 98, 97, 114, 82, 117, 108, 101, 84, 104, 105, 99, 107, 110, 101, 115, 115],
  [79, 118, 101, 114, 98, 97, 114, 69, 120, 116, 114, 97, 65, 115, 99, 101, 110, 100, 101, 114],
  [85, 110, 100, 101, 114, 98, 97, 114, 86, 101, 114, 116, 105, 99, 97, 108, 71, 97, 112],
  [85, 110, 100, 101, 114, 98, 97, 114, 82, 117, 108, 101, 84, 104, 105, 99, 107, 110, 101, 115, 115],
  [85, 110, 100, 101, 114, 98, 97, 114, 69, 120, 116, 114, 97, 68, 101, 115, 99, 101, 110, 100, 101, 114],
  [82, 97, 100, 105, 99, 97, 108, 86, 101, 114, 116, 105, 99, 97, 108, 71, 97, 112],
  [82, 97, 100, 105, 99, 97, 108, 68, 105, 115, 112, 108, 97, 121, 83, 116, 121, 108, 101, 86, 101, 114, 116, 105, 99, 97, 108, 71, 97, 112],
  [82, 97, 100, 105, 99, 97, 108, 82, 117, 108, 101, 84, 104, 105, 99, 107, 110, 101, 115, 115],
  [82, 97, 100, 105, 99, 97, 108, 69, 120, 116, 114, 97, 65, 115, 99, 101, 110, 100, 101, 114],
  [82, 97, 100, 105, 99, 97, 108, 75, 101, 114, 110, 66, 101, 102, 111, 114, 101, 68, 101, 103, 114, 101, 101],
  [82, 97, 100, 105, 99, 97, 108, 75, 101, 114, 110, 65, 102, 116, 101, 114, 68, 101, 103, 114, 101, 101],
  [82, 97, 100, 105, 99, 97, 108, 68, 101, 103, 114, 101, 101, 66, 111, 116, 116, 111, 109, 82, 97, 105, 115, 101, 80, 101, 114, 99, 101, 110, 116]]
theorem names_len : names.length = 56 := by kernel_rfl
theorem names_blank : (names.all fun x => x.all fun c => c != 32) = true := by kernel_rfl
theorem names_own : ((List.range 56).all fun k => names.idxOf (names.getD k []) == k) = true := by kernel_rfl
theorem names_short : (names.all fun x => decide (1 ≤ x.length ∧ x.length ≤ 40)) = true := by kernel_rfl
/-- A text of words, a blank behind each. -/
def text (l : List (List UInt8)) : List UInt8 := l.flatMap fun x => x ++ [32]
/-- The word at a place: what is left of the text, what has been read of the word at hand, how many words are to come before. -/
def scan : List UInt8 → List UInt8 → Nat → List UInt8 × Int
  | [], _, _ => ([], 1)
  | c :: r, cur, k => if c ≠ 32 then scan r (cur ++ [c]) k else if k = 0 then (cur, 0) else scan r [] (k - 1)
theorem scan_word : ∀ (x r cur : List UInt8) (k : Nat), (x.all fun c => c != 32) = true → scan (x ++ [32] ++ r) cur k = if k = 0 then (cur ++ x, 0) else scan r [] (k - 1)
  | [], r, cur, k, _ => by simp [scan]
  | c :: x, r, cur, k, h => by
    simp only [List.all_cons, Bool.and_eq_true, bne_iff_ne] at h
    have ih := scan_word x r (cur ++ [c]) k h.2
    rw [List.cons_append, List.cons_append, scan, if_pos h.1, ih]
    simp
theorem scan_text : ∀ (l : List (List UInt8)) (k : Nat), (l.all fun x => x.all fun c => c != 32) = true → scan (text l) [] k = if k < l.length then (l.getD k [], 0) else ([], 1)
  | [], k, _ => by simp [text, scan]
  | x :: l, k, h => by
    simp only [List.all_cons, Bool.and_eq_true] at h
    have ih := scan_text l (k - 1) h.2
    have e : text (x :: l) = x ++ [32] ++ text l := by simp [text]
    rw [e, scan_word x _ _ _ h.1]
    cases k with
    | zero => simp
    | succ j =>
      rw [if_neg (by omega), ih]
      simp
/-- Name. -/
def name (k : Int) : List UInt8 × Int := if k < 0 ∨ 55 < k then ([], 1) else (names.getD k.toNat [], 0)
/-- Find. -/
def find (x : List UInt8) : Int × Int := if x ∈ names then ((names.idxOf x : Nat), 0) else (0, 9)
theorem name_scan {k : Nat} (h : k < 56) : scan (text names) [] k = (names.getD k [], 0) := by
  rw [scan_text _ _ names_blank, names_len, if_pos h]
theorem name_mem {k : Nat} (h : k < 56) : names.getD k [] ∈ names := by
  rw [List.getD, List.getElem?_eq_getElem (by rw [names_len]; exact h)]
  exact List.getElem_mem _
theorem name_own {k : Nat} (h : k < 56) : names.idxOf (names.getD k []) = k := by
  have := List.all_eq_true.1 names_own k (List.mem_range.2 h)
  simpa using this
/-- A place's name has that place. -/
theorem find_name {k : Nat} (h : k < 56) : find (names.getD k []) = ((k : Int), 0) := by
  unfold find
  rw [if_pos (name_mem h), name_own h]
/-- A name's place has that name. -/
theorem name_find {x : List UInt8} (h : (find x).2 = 0) : 0 ≤ (find x).1 ∧ (find x).1 ≤ 55 ∧ name (find x).1 = (x, 0) := by
  unfold find at *
  by_cases c : x ∈ names
  · rw [if_pos c]
    have hl := List.idxOf_lt_length_of_mem c
    rw [names_len] at hl
    refine ⟨by dsimp only; omega, by dsimp only; omega, ?_⟩
    unfold name
    dsimp only
    rw [if_neg (by omega), Int.toNat_natCast]
    have := List.getElem_idxOf (x := x) (xs := names) (by rw [names_len]; exact hl)
    rw [List.getD, List.getElem?_eq_getElem (by rw [names_len]; exact hl), Option.getD_some, this]
  · rw [if_neg c] at h; cases h
theorem find_none {x : List UInt8} (h : (find x).2 ≠ 0) : find x = (0, 9) ∧ x ∉ names := by
  unfold find at *
  by_cases c : x ∈ names
  · rw [if_pos c] at h; exact absurd rfl h
  · exact ⟨by rw [if_neg c], c⟩
/-- Found at the first place that has it, if none before has. -/
theorem find_first {x : List UInt8} {k : Nat} (h : k < 56) (hx : names.getD k [] = x) : find x = ((k : Int), 0) := by rw [← hx]; exact find_name h
theorem find_never {x : List UInt8} (h : ∀ k, k < 56 → names.getD k [] ≠ x) : find x = (0, 9) := by
  unfold find
  rw [if_neg]
  intro hm
  obtain ⟨i, hi, e⟩ := List.mem_iff_getElem.1 hm
  rw [names_len] at hi
  exact h i hi (by rw [List.getD, List.getElem?_eq_getElem (by rw [names_len]; exact hi), Option.getD_some, e])
theorem name_no {k : Int} (h : k < 0 ∨ 55 < k) : name k = ([], 1) := by unfold name; rw [if_pos h]
theorem name_yes {k : Nat} (h : k < 56) : name k = (names.getD k [], 0) := by unfold name; rw [if_neg (by omega), Int.toNat_natCast]
end Ko
