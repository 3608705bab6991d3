/-
  Plain functions on bytes (layer 4, sfnt), with nothing of the program: a font file's tables, got and put; facts on them. No conditions.
-/
import Derived.Test.YtfnpindohoflaaaBnChanged
namespace Sf
open Bn

/-- A table: its tag and its bytes. -/
abbrev Tab := List UInt8 × List UInt8
def headTag : List UInt8 := [104, 101, 97, 100]
def isTag (t : List UInt8) : Bool := decide (t.length = 4) && t.all fun c => decide (32 ≤ c.toNat) && decide (c.toNat ≤ 126)
def isVer (n : Int) : Bool := decide (n = 65536) || decide (n = 1330926671)
def less (a b : List UInt8) : Bool := decide (a < b)
/-- The bytes 8 to 11 count as noughts. -/
def noughts (d : List UInt8) : List UInt8 := d.take 8 ++ [0, 0, 0, 0] ++ d.drop 12
def tsum (x : Tab) : Nat := if x.1 = headTag ∧ 12 ≤ x.2.length then Bn.sum (noughts x.2) else Bn.sum x.2
theorem tsum_lt (x : Tab) : tsum x < 4294967296 := by
  unfold tsum
  by_cases h : x.1 = headTag ∧ 12 ≤ x.2.length
  · rw [if_pos h]; exact sum_lt _
  · rw [if_neg h]; exact sum_lt _

/-- The number of so many bytes at a place. -/
def num (s : List UInt8) (pos n : Nat) : Nat := be ((s.drop pos).take n)
def recTag (s : List UInt8) (i : Nat) : List UInt8 := (s.drop (12 + 16 * i)).take 4
def recSum (s : List UInt8) (i : Nat) : Nat := num s (16 + 16 * i) 4
def recAt (s : List UInt8) (i : Nat) : Nat := num s (20 + 16 * i) 4
def recLen (s : List UInt8) (i : Nat) : Nat := num s (24 + 16 * i) 4
def tab (s : List UInt8) (i : Nat) : Tab := (recTag s i, (s.drop (recAt s i)).take (recLen s i))
def badForm (s : List UInt8) (n i : Nat) : Bool := !isTag (recTag s i) || (decide (0 < i) && !less (recTag s (i - 1)) (recTag s i)) || decide (recAt s i % 4 ≠ 0) || decide (recAt s i < 12 + 16 * n)
/-- The error of a record. -/
def wrong (s : List UInt8) (n i : Nat) : Int :=
  if badForm s n i = true then 5 else if s.length < recAt s i + recLen s i then 4 else if tsum (tab s i) ≠ recSum s i then 5 else 0
/-- The first number that is not 0, from k on. -/
def scan (f : Nat → Int) : Nat → Nat → Int
  | _, 0 => 0
  | k, m + 1 => if f k ≠ 0 then f k else scan f (k + 1) m
theorem scan_zero (f : Nat → Int) : ∀ (m k : Nat), (∀ j, k ≤ j → j < k + m → f j = 0) → scan f k m = 0
  | 0, _, _ => rfl
  | m + 1, k, h => by
    rw [scan, if_neg (by rw [h k (Nat.le_refl _) (by omega)]; simp)]
    exact scan_zero f m (k + 1) fun j h1 h2 => h j (by omega) (by omega)
theorem scan_first (f : Nat → Int) : ∀ (m k j : Nat), k ≤ j → j < k + m → (∀ i, k ≤ i → i < j → f i = 0) → f j ≠ 0 → scan f k m = f j
  | 0, k, j, h1, h2, _, _ => by omega
  | m + 1, k, j, h1, h2, h, hj => by
    rw [scan]
    by_cases e : k = j
    · subst e; rw [if_pos hj]
    · rw [if_neg (by rw [h k (Nat.le_refl _) (by omega)]; simp)]
      exact scan_first f m (k + 1) j (by omega) (by omega) (fun i a b => h i (by omega) b) hj
theorem scan_all (f : Nat → Int) : ∀ (m k : Nat), scan f k m = 0 → ∀ j, k ≤ j → j < k + m → f j = 0
  | 0, _, _, j, h1, h2 => by omega
  | m + 1, k, h, j, h1, h2 => by
    rw [scan] at h
    by_cases e : f k = 0
    · rw [if_neg (by rw [e]; simp)] at h
      by_cases ej : k = j
      · rw [← ej]; exact e
      · exact scan_all f m (k + 1) h j (by omega) (by omega)
    · rw [if_pos e] at h; exact absurd h e
def clash (s : List UInt8) (i k : Nat) : Bool := decide (0 < recLen s i) && decide (0 < recLen s k) && decide (recAt s i < recAt s k + recLen s k) && decide (recAt s k < recAt s i + recLen s i)
def anyClash (s : List UInt8) (n : Nat) : Bool := (List.range n).any fun i => (List.range i).any fun k => clash s i k
theorem anyClash_false {s : List UInt8} {n : Nat} (h : ∀ i k, k < i → i < n → clash s i k = false) : anyClash s n = false := by
  unfold anyClash
  rw [List.any_eq_false]
  intro i hi
  simp only [Bool.not_eq_true]
  rw [List.any_eq_false]
  intro k hk
  rw [h i k (List.mem_range.1 hk) (List.mem_range.1 hi)]
  simp
/-- A file's tables. -/
def get (s : List UInt8) : Int × List Tab × Int :=
  if 16777216 < s.length then (0, [], 7)
  else if s.length < 12 then (0, [], 4)
  else if isVer (num s 0 4) = false then (0, [], 5)
  else if 64 < num s 4 2 then (0, [], 7)
  else if s.length < 12 + 16 * num s 4 2 then (0, [], 4)
  else if scan (wrong s (num s 4 2)) 0 (num s 4 2) ≠ 0 then (0, [], scan (wrong s (num s 4 2)) 0 (num s 4 2))
  else if anyClash s (num s 4 2) = true then (0, [], 5)
  else ((num s 0 4 : Nat), (List.range (num s 4 2)).map (tab s), 0)

/-- May tables stand in a file so? -/
def tagAt (l : List Tab) (i : Nat) : List UInt8 := (l.getD i ([], [])).1
def datAt (l : List Tab) (i : Nat) : List UInt8 := (l.getD i ([], [])).2
def okAt (l : List Tab) (i : Nat) : Bool := isTag (tagAt l i) && (decide (i = 0) || less (tagAt l (i - 1)) (tagAt l i))
def right (l : List Tab) : Bool := ((List.range l.length).all fun i => okAt l i) && decide (l.length ≤ 64)
/-- Bytes of the first k tables, padded. -/
def wide (l : List Tab) (k : Nat) : Nat := ((l.take k).map fun x => (up x.2 4).length).sum
def total (l : List Tab) : Nat := 12 + 16 * l.length + wide l l.length
/-- The greatest power of two that is at most n, by doubling; and how often. -/
def double (n : Nat) : Nat → Nat → Nat → Nat × Nat
  | 0, p, h => (p, h)
  | f + 1, p, h => if 2 * p ≤ n then double n f (2 * p) (h + 1) else (p, h)
def pow2 (n : Nat) : Nat × Nat := if n = 0 then (0, 0) else double n n 1 0
def header (v : Int) (n : Nat) : List UInt8 := bytes v 4 ++ bytes n 2 ++ bytes (16 * (pow2 n).1 : Nat) 2 ++ bytes ((pow2 n).2 : Nat) 2 ++ bytes ((16 * n : Nat) - (16 * (pow2 n).1 : Nat) : Int) 2
def record (x : Tab) (pos : Nat) : List UInt8 := x.1 ++ bytes (tsum x : Nat) 4 ++ bytes pos 4 ++ bytes x.2.length 4
def recs : Nat → List Tab → List UInt8
  | _, [] => []
  | pos, x :: r => record x pos ++ recs (pos + (up x.2 4).length) r
def bodies : List Tab → List UInt8
  | [] => []
  | x :: r => up x.2 4 ++ bodies r
def file (v : Int) (l : List Tab) : List UInt8 := header v l.length ++ recs (12 + 16 * l.length) l ++ bodies l
def put (v : Int) (l : List Tab) : List UInt8 × Int :=
  if isVer v = false ∨ right l = false then ([], 1)
  else if 16777216 < total l then ([], 7)
  else (file v l, 0)
def find (l : List Tab) (t : List UInt8) : List UInt8 × Bool := match l.find? fun x => decide (x.1 = t) with | some x => (x.2, true) | none => ([], false)

/-! Where things stand in a file. -/
theorem header_len (v : Int) (n : Nat) : (header v n).length = 12 := by simp [header, bytes_len]
theorem record_len (x : Tab) (pos : Nat) (h : x.1.length = 4) : (record x pos).length = 16 := by simp [record, bytes_len, h]
theorem recs_len : ∀ (l : List Tab) (pos : Nat), (∀ x ∈ l, x.1.length = 4) → (recs pos l).length = 16 * l.length
  | [], _, _ => rfl
  | x :: r, pos, h => by
    rw [recs, List.length_append, record_len x pos (h x (by simp)), recs_len r _ fun y hy => h y (by simp [hy]), List.length_cons]; omega
theorem recs_append : ∀ (a b : List Tab) (pos : Nat), recs pos (a ++ b) = recs pos a ++ recs (pos + (a.map fun x => (up x.2 4).length).sum) b
  | [], b, pos => by simp [recs]
  | x :: r, b, pos => by
    rw [List.cons_append, recs, recs, recs_append r b, List.append_assoc, List.map_cons, List.sum_cons, Nat.add_assoc]
theorem bodies_append : ∀ (a b : List Tab), bodies (a ++ b) = bodies a ++ bodies b
  | [], b => rfl
  | x :: r, b => by rw [List.cons_append, bodies, bodies, bodies_append r b, List.append_assoc]
theorem bodies_len : ∀ (l : List Tab), (bodies l).length = (l.map fun x => (up x.2 4).length).sum
  | [] => rfl
  | x :: r => by rw [bodies, List.length_append, bodies_len r, List.map_cons, List.sum_cons]
theorem wide_all (l : List Tab) : wide l l.length = (l.map fun x => (up x.2 4).length).sum := by unfold wide; rw [List.take_length]
theorem file_len (v : Int) (l : List Tab) (h : ∀ x ∈ l, x.1.length = 4) : (file v l).length = total l := by
  unfold file total
  rw [List.length_append, List.length_append, header_len, recs_len l _ h, bodies_len, wide_all]

theorem num_bytes (a b : List UInt8) (v n : Nat) (h : v < 256 ^ n) : be (((a ++ bytes v n ++ b).drop a.length).take n) = v := by
  rw [List.append_assoc, List.drop_left]
  have e : (bytes (v : Int) n ++ b).take n = bytes (v : Int) n := by
    have := List.take_left (l₁ := bytes (v : Int) n) (l₂ := b)
    rwa [bytes_len] at this
  rw [e]
  unfold bytes
  rw [if_neg (by omega), Int.toNat_natCast]
  exact be_tail n v h
theorem num_at {s : List UInt8} (a b : List UInt8) (v n pos : Nat) (hs : s = a ++ bytes v n ++ b) (hp : a.length = pos) (h : v < 256 ^ n) : num s pos n = v := by
  subst hp
  rw [hs]
  exact num_bytes a b v n h

/-- A file, taken apart at its table number i. -/
theorem file_split (v : Int) (l : List Tab) (i : Nat) (hi : i < l.length) : ∃ front mid : List UInt8, ∃ R B : List UInt8,
    file v l = header v l.length ++ recs (12 + 16 * l.length) (l.take i) ++ record (l.getD i ([], [])) (12 + 16 * l.length + wide l i) ++ R ++ bodies (l.take i) ++ up (datAt l i) 4 ++ B ∧
    front = header v l.length ++ recs (12 + 16 * l.length) (l.take i) ∧ mid = R ++ bodies (l.take i) ∧ ((∀ x ∈ l, x.1.length = 4) → front.length = 12 + 16 * i ∧ R.length = 16 * (l.length - i - 1) ∧ (bodies (l.take i)).length = wide l i) := by
  have hl : l = l.take i ++ l.getD i ([], []) :: l.drop (i + 1) := by
    rw [show l.getD i ([], []) = l[i] by simp [List.getD, List.getElem?_eq_getElem hi], ← List.drop_eq_getElem_cons hi, List.take_append_drop]
  refine ⟨_, _, recs (12 + 16 * l.length + wide l i + (up (datAt l i) 4).length) (l.drop (i + 1)), bodies (l.drop (i + 1)), ?_, rfl, rfl, ?_⟩
  · unfold file
    generalize hn : l.length = n
    have e1 : recs (12 + 16 * n) l = recs (12 + 16 * n) (l.take i) ++ (record (l.getD i ([], [])) (12 + 16 * n + wide l i) ++ recs (12 + 16 * n + wide l i + (up (datAt l i) 4).length) (l.drop (i + 1))) := by
      conv => lhs; rw [hl]
      rw [recs_append, recs]
      rfl
    have e2 : bodies l = bodies (l.take i) ++ (up (datAt l i) 4 ++ bodies (l.drop (i + 1))) := by
      conv => lhs; rw [hl]
      rw [bodies_append, bodies]
      rfl
    rw [e1, e2]
    simp only [List.append_assoc]
  · intro h
    refine ⟨?_, ?_, ?_⟩
    · rw [List.length_append, header_len, recs_len _ _ fun x hx => h x (List.mem_of_mem_take hx), List.length_take]; omega
    · rw [recs_len _ _ fun x hx => h x (List.mem_of_mem_drop hx), List.length_drop]; omega
    · rw [bodies_len]; rfl
end Sf
