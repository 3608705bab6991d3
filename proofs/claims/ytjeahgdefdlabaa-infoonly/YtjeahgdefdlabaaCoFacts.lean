/-
  Plain functions (layer 12, cover), further: numbers of two bytes in a row, ranges as three numbers each, what the walks of Get and Put want at each round. No conditions beyond those stated.
-/
import Derived.Test.YtjeahgdefdlabaaCoPut
namespace Co
open Bn He

theorem drop_cons {l : List Int} {k : Nat} (h : k < l.length) : l.drop k = l.getD k 0 :: l.drop (k + 1) := by
  rw [List.drop_eq_getElem_cons h]
  simp [List.getD, List.getElem?_eq_getElem h]
/-- Glyphs from a place on, behind a number. -/
theorem asc_step {l : List Int} {k : Nat} (h : k < l.length) (b : Int) : asc b (l.drop k) = (decide (b < l.getD k 0) && decide (l.getD k 0 ≤ 65534) && asc (l.getD k 0) (l.drop (k + 1))) := by
  rw [drop_cons h, asc]

/-! Sizes of two bytes each. -/
def sz (n : Nat) : List Int := List.replicate n 2
theorem sz_len (n : Nat) : (sz n).length = n := by simp [sz]
theorem sz_succ (n : Nat) : sz (n + 1) = 2 :: sz n := List.replicate_succ
theorem sz_many : ∀ n, many (sz n) = 2 * n
  | 0 => rfl
  | n + 1 => by rw [sz_succ, many_cons, sz_many n]; simp; omega
theorem sz_sizes : ∀ n, allSizes (sz n) = true
  | 0 => rfl
  | n + 1 => by
    have h := sz_sizes n
    unfold allSizes at *
    rw [sz_succ, List.all_cons, h]; rfl
/-- So many numbers of two bytes. -/
def words (s : List UInt8) (n : Nat) : List Int := (List.range n).map fun i => word s (2 * i)
theorem words_len (s : List UInt8) (n : Nat) : (words s n).length = n := by simp [words]
theorem words_at (s : List UInt8) {n i : Nat} (h : i < n) : (words s n).getD i 0 = word s (2 * i) := by simp [words, List.getD, h]
theorem word_drop (s : List UInt8) (a p : Nat) : word (s.drop a) p = word s (a + p) := by unfold word fld; rw [List.drop_drop]
theorem sz_fields : ∀ (n : Nat) (s : List UInt8), fields s (sz n) = words s n
  | 0, _ => rfl
  | n + 1, s => by
    rw [sz_succ, fields, sz_fields n]
    unfold words
    rw [List.range_succ_eq_map, List.map_cons, List.map_map]
    congr 1
    refine List.map_congr_left fun i _ => ?_
    rw [show (2 : Int).natAbs = 2 from rfl, word_drop]
    simp only [Function.comp, Nat.succ_eq_add_one]
    rw [show 2 + 2 * i = 2 * (i + 1) by omega]
theorem get_sz (s : List UInt8) (pos n : Nat) : Bn.get s pos (sz n) = if s.length < pos + 2 * n then ([], 4) else (words (s.drop pos) n, 0) := by
  unfold Bn.get
  rw [sz_sizes, sz_many, if_neg (by simp)]
  by_cases c : s.length < pos + 2 * n
  · rw [if_pos (by omega), if_pos c]
  · rw [if_neg (by omega), if_neg c, Int.toNat_natCast, sz_fields]
theorem get_neg (s : List UInt8) {pos : Int} (h : pos < 0) (n : Nat) : Bn.get s pos (sz n) = ([], 1) := by unfold Bn.get; rw [if_pos (.inr h)]
theorem word_bd (s : List UInt8) (p : Nat) : 0 ≤ word s p ∧ word s p ≤ 65535 := by
  unfold word fld Bn.one
  rw [if_neg (by omega)]
  have h := be_lt ((s.drop p).take (2 : Int).natAbs)
  have hl : ((s.drop p).take (2 : Int).natAbs).length ≤ 2 := by rw [List.length_take]; exact Nat.min_le_left _ _
  have := Nat.lt_of_lt_of_le h (Nat.pow_le_pow_right (by decide : 0 < 256) hl)
  omega

/-! What read answers: the format, the fields of all glyphs or ranges, an error. -/
def count (t : List UInt8) : Nat := if word t 0 = 2 then 3 * (word t 2).toNat else (word t 2).toNat
def rdC (s : List UInt8) (pos : Int) : Int × List Int × Int :=
  if pos < 0 then (0, [], 1)
  else if (s.length : Int) < pos ∨ (s.length : Int) - pos < 4 then (0, [], 4)
  else if word (s.drop pos.toNat) 0 ≠ 1 ∧ word (s.drop pos.toNat) 0 ≠ 2 then (0, [], 5)
  else if (s.drop pos.toNat).length < 4 + 2 * count (s.drop pos.toNat) then (0, [], 4)
  else (word (s.drop pos.toNat) 0, words ((s.drop pos.toNat).drop 4) (count (s.drop pos.toNat)), 0)
/-- Three numbers each. -/
def tri (fs : List Int) (n : Nat) : List (Int × Int × Int) := (List.range n).map fun i => (fs.getD (3 * i) 0, fs.getD (3 * i + 1) 0, fs.getD (3 * i + 2) 0)
theorem tri_len (fs : List Int) (n : Nat) : (tri fs n).length = n := by simp [tri]
theorem tri_succ (fs : List Int) (k : Nat) : tri fs (k + 1) = tri fs k ++ [(fs.getD (3 * k) 0, fs.getD (3 * k + 1) 0, fs.getD (3 * k + 2) 0)] := by simp [tri, List.range_succ]
theorem tri_words (t : List UInt8) (n : Nat) : tri (words (t.drop 4) (3 * n)) n = rd t n := by
  refine List.map_congr_left fun i hi => ?_
  have hi' := List.mem_range.1 hi
  rw [words_at _ (by omega), words_at _ (by omega), words_at _ (by omega), word_drop, word_drop, word_drop]
  rw [show 4 + 2 * (3 * i) = 4 + 6 * i by omega, show 4 + 2 * (3 * i + 1) = 4 + 6 * i + 2 by omega, show 4 + 2 * (3 * i + 2) = 4 + 6 * i + 4 by omega]
theorem ones_words (t : List UInt8) (n : Nat) : words (t.drop 4) n = ones t n := by
  refine List.map_congr_left fun i _ => ?_
  rw [word_drop]
/-- The glyphs of ranges, and whether they are right. -/
def lst (q : List (Int × Int × Int)) : List Int × Bool := match join2 q [] with | none => ([], false) | some o => (o, true)
/-- Get, by read and the ranges. -/
theorem get_by (s : List UInt8) (pos : Int) : get s pos = match rdC s pos with
    | (f, l, e) => if e ≠ 0 then ([], e) else if f = 2 then (if (lst (tri l (l.length / 3))).2 = false then ([], 5) else told (lst (tri l (l.length / 3))).1) else told l := by
  unfold get rdC
  by_cases c1 : pos < 0
  · rw [if_pos c1, if_pos c1]; rfl
  · rw [if_neg c1, if_neg c1]
    by_cases c2 : (s.length : Int) < pos ∨ (s.length : Int) - pos < 4
    · rw [if_pos c2, if_pos c2]; rfl
    · rw [if_neg c2, if_neg c2]
      unfold got
      generalize s.drop pos.toNat = t
      by_cases c3 : word t 0 ≠ 1 ∧ word t 0 ≠ 2
      · rw [if_pos c3, if_pos c3]; rfl
      · rw [if_neg c3, if_neg c3]
        by_cases c5 : word t 0 = 2
        · have hw : wid t = 6 := by unfold wid; rw [if_pos c5]
          have hc : count t = 3 * (word t 2).toNat := by unfold count; rw [if_pos c5]
          rw [hw, hc]
          by_cases c4 : t.length < 4 + 6 * (word t 2).toNat
          · rw [if_pos c4, if_pos (by omega)]; rfl
          · rw [if_neg c4, if_neg (show ¬ t.length < 4 + 2 * (3 * (word t 2).toNat) by omega), if_neg (by omega)]
            dsimp only
            rw [if_neg (by decide), if_pos c5, words_len, Nat.mul_div_cancel_left _ (by omega), tri_words]
            unfold lst
            cases join2 (rd t (word t 2).toNat) [] with
            | none => rfl
            | some o => rfl
        · have hw : wid t = 2 := by unfold wid; rw [if_neg c5]
          have hc : count t = (word t 2).toNat := by unfold count; rw [if_neg c5]
          rw [hw, hc]
          by_cases c4 : t.length < 4 + 2 * (word t 2).toNat
          · rw [if_pos c4, if_pos c4]; rfl
          · rw [if_neg c4, if_neg c4, if_pos (by omega)]
            dsimp only
            rw [if_neg (by decide), if_neg c5, ones_words]

/-! Ranges one by one: what is joined so far. -/
theorem join2_append : ∀ (a b : List (Int × Int × Int)) (out : List Int), join2 (a ++ b) out = match join2 a out with | none => none | some o => join2 b o
  | [], b, out => rfl
  | (x, y, f) :: a, b, out => by
    rw [List.cons_append, join2, join2]
    by_cases c : y < x ∨ f ≠ (out.length : Int)
    · rw [if_pos c, if_pos c]
    · rw [if_neg c, if_neg c, join2_append a b]
theorem join2_one (x y f : Int) (out : List Int) : join2 [(x, y, f)] out = if y < x ∨ f ≠ (out.length : Int) then none else some (out ++ rng x y) := by
  rw [join2]
  by_cases c : y < x ∨ f ≠ (out.length : Int)
  · rw [if_pos c, if_pos c]
  · rw [if_neg c, if_neg c, join2]
/-- A wrong range ends it. -/
theorem lst_bad {q r : List (Int × Int × Int)} {o : List Int} {x y f : Int} (h : join2 q [] = some o) (hb : y < x ∨ f ≠ (o.length : Int)) : lst (q ++ [(x, y, f)] ++ r) = ([], false) := by
  unfold lst
  rw [join2_append, join2_append, h]
  dsimp only
  rw [join2_one, if_pos hb]
theorem lst_ok {q : List (Int × Int × Int)} {o : List Int} (h : join2 q [] = some o) : lst q = (o, true) := by unfold lst; rw [h]
theorem join_more {q : List (Int × Int × Int)} {o : List Int} {x y f : Int} (h : join2 q [] = some o) (hb : ¬ (y < x ∨ f ≠ (o.length : Int))) : join2 (q ++ [(x, y, f)]) [] = some (o ++ rng x y) := by
  rw [join2_append, h]
  dsimp only
  rw [join2_one, if_neg hb]

/-! Ranges whose three numbers are those of two bytes. -/
abbrev R3 := {x : Int × Int × Int // (0 ≤ x.1 ∧ x.1 ≤ 65535) ∧ (0 ≤ x.2.1 ∧ x.2.1 ≤ 65535) ∧ 0 ≤ x.2.2 ∧ x.2.2 ≤ 65535}
def Small (fs : List Int) : Prop := ∀ i, 0 ≤ fs.getD i 0 ∧ fs.getD i 0 ≤ 65535
theorem words_small (s : List UInt8) (n : Nat) : Small (words s n) := fun i => by
  by_cases h : i < n
  · rw [words_at s h]; exact word_bd s _
  · have : (words s n).getD i 0 = 0 := by simp [List.getD, List.getElem?_eq_none (show (words s n).length ≤ i by rw [words_len]; omega)]
    omega
def el (fs : List Int) (h : Small fs) (k : Nat) : R3 := ⟨(fs.getD (3 * k) 0, fs.getD (3 * k + 1) 0, fs.getD (3 * k + 2) 0), h _, h _, h _⟩
def els (fs : List Int) (h : Small fs) (n : Nat) : List R3 := (List.range n).map (el fs h)
theorem els_len (fs : List Int) (h : Small fs) (n : Nat) : (els fs h n).length = n := by simp [els]
theorem els_succ (fs : List Int) (h : Small fs) (k : Nat) : els fs h (k + 1) = els fs h k ++ [el fs h k] := by simp [els, List.range_succ]
def raw (q : List R3) : List (Int × Int × Int) := q.map Subtype.val
theorem raw_append (a b : List R3) : raw (a ++ b) = raw a ++ raw b := List.map_append
theorem els_tri (fs : List Int) (h : Small fs) (n : Nat) : raw (els fs h n) = tri fs n := by
  unfold raw els tri
  rw [List.map_map]; rfl
theorem tri_split (fs : List Int) {k n : Nat} (h : k ≤ n) : ∃ r, tri fs n = tri fs k ++ r := by
  obtain ⟨m, rfl⟩ := Nat.exists_eq_add_of_le h
  refine ⟨(tri fs (k + m)).drop k, ?_⟩
  have e : tri fs k = (tri fs (k + m)).take k := by
    unfold tri
    rw [← List.map_take, List.take_range, Nat.min_eq_left (by omega)]
  rw [e, List.take_append_drop]
/-- The glyphs of ranges that are right. -/
def out (q : List R3) : List Int := (join2 (raw q) []).getD []
def fine (q : List R3) : Prop := join2 (raw q) [] = some (out q)
theorem fine_nil : fine [] ∧ out [] = [] := ⟨rfl, rfl⟩
/-- So many numbers from one on. -/
def upto (a : Int) (j : Nat) : List Int := (List.range j).map fun i => a + (i : Nat)
theorem upto_len (a : Int) (j : Nat) : (upto a j).length = j := by simp [upto]
theorem upto_succ (a : Int) (j : Nat) : upto a (j + 1) = upto a j ++ [a + (j : Int)] := by simp [upto, List.range_succ]
theorem rng_upto (a b : Int) : rng a b = upto a (b - a + 1).toNat := rfl
theorem fine_more {q : List R3} {x : R3} (h : fine q) (hb : ¬ (x.1.2.1 < x.1.1 ∨ x.1.2.2 ≠ ((out q).length : Int))) : fine (q ++ [x]) ∧ out (q ++ [x]) = out q ++ upto x.1.1 (x.1.2.1 - x.1.1 + 1).toNat := by
  have e : join2 (raw (q ++ [x])) [] = some (out q ++ rng x.1.1 x.1.2.1) := by
    rw [raw_append]
    exact join_more h hb
  have e2 : out (q ++ [x]) = out q ++ upto x.1.1 (x.1.2.1 - x.1.1 + 1).toNat := by unfold out at *; rw [e]; rfl
  exact ⟨by unfold fine; rw [e, e2]; rfl, e2⟩
theorem fine_bad {q : List R3} {x : R3} (h : fine q) (hb : x.1.2.1 < x.1.1 ∨ x.1.2.2 ≠ ((out q).length : Int)) (r : List (Int × Int × Int)) : lst (raw (q ++ [x]) ++ r) = ([], false) := by
  rw [raw_append]
  exact lst_bad h hb
theorem fine_done {q : List R3} (h : fine q) : lst (raw q) = (out q, true) := lst_ok h
end Co
