/-
  Plain functions on bytes (layer 13, konst), with nothing of the program: constants, got and put; facts on them. No conditions beyond those stated.
-/
import Derived.Test.YtcbchnckeeklkaaHeMath
namespace Ko
open Bn He

def size (k : Nat) : Int := if k = 2 ∨ k = 3 then 2 else -2
def wide (k : Nat) : Nat := if 4 ≤ k ∧ k ≤ 54 then 4 else 2
/-- Where a constant stands. -/
def place (k : Nat) : Nat := if k ≤ 4 then 2 * k else if k ≤ 55 then 4 * k - 8 else 214
theorem place_step {k : Nat} (h : k < 56) : place (k + 1) = place k + wide k := by
  unfold place wide
  by_cases h1 : k ≤ 3
  · rw [if_pos (by omega), if_pos (by omega), if_neg (by omega)]; omega
  · by_cases h2 : k = 4
    · subst h2; rfl
    · by_cases h3 : k = 55
      · subst h3; rfl
      · rw [if_neg (by omega), if_pos (by omega), if_neg (by omega), if_pos (by omega), if_pos (by omega)]; omega
theorem place_end {k : Nat} (h : k < 56) : place k + 2 ≤ 214 := by
  unfold place
  by_cases h1 : k ≤ 4
  · rw [if_pos h1]; omega
  · rw [if_neg h1, if_pos (by omega)]; omega
theorem size_is (k : Nat) : isSize (size k) = true := by
  unfold size
  by_cases h : k = 2 ∨ k = 3
  · rw [if_pos h]; decide
  · rw [if_neg h]; decide
theorem size_abs (k : Nat) : (size k).natAbs = 2 := by
  unfold size
  by_cases h : k = 2 ∨ k = 3
  · rw [if_pos h]; rfl
  · rw [if_neg h]; rfl
def isK (l : List Int) : Bool := decide (l.length = 56) && (List.range 56).all fun k => fits (l.getD k 0) (size k)
theorem isK_len {l : List Int} (h : isK l = true) : l.length = 56 := by
  unfold isK at h
  simp only [Bool.and_eq_true, decide_eq_true_eq] at h
  exact h.1
theorem isK_at {l : List Int} (h : isK l = true) {k : Nat} (hk : k < 56) : fits (l.getD k 0) (size k) = true := by
  unfold isK at h
  simp only [Bool.and_eq_true, List.all_eq_true] at h
  exact h.2 k (List.mem_range.2 hk)
def row (t : List UInt8) : List Int := (List.range 56).map fun k => fld t (place k) (size k)
def get (s : List UInt8) (pos : Int) : List Int × Int :=
  if pos < 0 then ([], 1)
  else if (s.length : Int) < pos ∨ (s.length : Int) - pos < 214 then ([], 4)
  else (row (s.drop pos.toNat), 0)
def piece (l : List Int) (k : Nat) : List UInt8 := bytes (l.getD k 0) 2 ++ List.replicate (wide k - 2) 0
def outTo (l : List Int) : Nat → List UInt8
  | 0 => []
  | k + 1 => outTo l k ++ piece l k
def put (l : List Int) : List UInt8 × Int := if isK l = false then ([], 1) else (outTo l 56, 0)
theorem wide_ge (k : Nat) : 2 ≤ wide k := by
  unfold wide
  by_cases h : 4 ≤ k ∧ k ≤ 54
  · rw [if_pos h]; omega
  · rw [if_neg h]; omega
theorem piece_len (l : List Int) (k : Nat) : (piece l k).length = wide k := by
  have := wide_ge k
  unfold piece
  rw [List.length_append, bytes_len, List.length_replicate]; omega
theorem outTo_len (l : List Int) : ∀ k, k ≤ 56 → (outTo l k).length = place k
  | 0, _ => rfl
  | k + 1, h => by rw [outTo, List.length_append, outTo_len l k (by omega), piece_len, place_step (by omega)]
theorem outTo_split (l : List Int) (k : Nat) : ∀ n, k ≤ n → ∃ r, outTo l n = outTo l k ++ r
  | 0, h => ⟨[], by obtain rfl : k = 0 := by omega
                    simp⟩
  | n + 1, h => by
    by_cases e : k = n + 1
    · exact ⟨[], by rw [e]; simp⟩
    · obtain ⟨r, hr⟩ := outTo_split l k n (by omega)
      exact ⟨r ++ piece l n, by rw [outTo, hr, List.append_assoc]⟩
theorem row_put {l : List Int} (h : isK l = true) (back : List UInt8) : row (outTo l 56 ++ back) = l := by
  have hl := isK_len h
  apply List.ext_getElem
  · simp [row, hl]
  · intro k h1 h2
    have hk : k < 56 := by omega
    obtain ⟨r, hr⟩ := outTo_split l (k + 1) 56 (by omega)
    simp only [row, List.getElem_map, List.getElem_range]
    rw [show l[k] = l.getD k 0 by simp [List.getD, List.getElem?_eq_getElem h2]]
    refine fld_at (outTo l k) (List.replicate (wide k - 2) 0 ++ r ++ back) _ _ _ ?_ (outTo_len l k (by omega)) (size_is k) (isK_at h hk)
    rw [hr, outTo, size_abs]
    unfold piece
    simp only [List.append_assoc]
theorem put_ok {l : List Int} (h : (put l).2 = 0) : isK l = true ∧ (put l).1 = outTo l 56 := by
  unfold put at *
  cases e : isK l with
  | false => rw [if_pos e] at h; cases h
  | true => exact ⟨rfl, rfl⟩
theorem put_no {l : List Int} (h : (put l).2 ≠ 0) : isK l = false ∧ (put l).1 = [] := by
  unfold put at *
  cases e : isK l with
  | false => exact ⟨rfl, rfl⟩
  | true => rw [if_neg (by rw [e]; simp)] at h; exact absurd rfl h
/-- What is put is got, wherever it stands; a byte less is not enough. -/
theorem get_put {l : List Int} (h : (put l).2 = 0) (front back : List UInt8) : get (front ++ (put l).1 ++ back) front.length = (l, 0) ∧ (put l).1.length = 214 ∧ (get (front ++ (put l).1.take 213) front.length).2 = 4 := by
  obtain ⟨hk, e⟩ := put_ok h
  have hlen : (put l).1.length = 214 := by rw [e]; exact outTo_len l 56 (Nat.le_refl _)
  refine ⟨?_, hlen, ?_⟩
  · unfold get
    rw [if_neg (by omega), if_neg (by simp only [List.length_append, hlen]; omega), Int.toNat_natCast, List.append_assoc, List.drop_left, e, row_put hk]
  · unfold get
    rw [if_neg (by omega), if_pos (by simp only [List.length_append, List.length_take, hlen]; omega)]
theorem row_is {t : List UInt8} (h : 214 ≤ t.length) : isK (row t) = true := by
  unfold isK
  simp only [Bool.and_eq_true, decide_eq_true_eq, List.all_eq_true]
  refine ⟨by simp [row], fun k hk => ?_⟩
  have hk' := List.mem_range.1 hk
  have hp := place_end hk'
  have : (row t).getD k 0 = fld t (place k) (size k) := by simp [row, List.getD, hk']
  rw [this]
  unfold fld
  exact one_fits _ _ (size_is k) (by rw [List.length_take, List.length_drop, size_abs]; omega)
theorem get_ok {s : List UInt8} {pos : Int} (h : (get s pos).2 = 0) : 0 ≤ pos ∧ pos + 214 ≤ s.length ∧ (get s pos).1 = row (s.drop pos.toNat) := by
  unfold get at *
  by_cases c1 : pos < 0
  · rw [if_pos c1] at h; cases h
  · rw [if_neg c1] at h ⊢
    by_cases c2 : (s.length : Int) < pos ∨ (s.length : Int) - pos < 214
    · rw [if_pos c2] at h; cases h
    · rw [if_neg c2]; exact ⟨by omega, by omega, rfl⟩
theorem get_none {s : List UInt8} {pos : Int} (h : (get s pos).2 ≠ 0) : (get s pos).1 = [] := by
  unfold get at *
  by_cases c1 : pos < 0
  · rw [if_pos c1]
  · rw [if_neg c1] at h ⊢
    by_cases c2 : (s.length : Int) < pos ∨ (s.length : Int) - pos < 214
    · rw [if_pos c2]
    · rw [if_neg c2] at h; exact absurd rfl h
/-- What is got is right; put and got it is the same. -/
theorem get_again {s : List UInt8} {pos : Int} (h : (get s pos).2 = 0) : isK (get s pos).1 = true ∧ (put (get s pos).1).2 = 0 ∧ get (put (get s pos).1).1 0 = ((get s pos).1, 0) := by
  obtain ⟨h0, h1, e⟩ := get_ok h
  have hk : isK (get s pos).1 = true := by rw [e]; exact row_is (by rw [List.length_drop]; omega)
  have hp : (put (get s pos).1).2 = 0 := by unfold put; rw [if_neg (by rw [hk]; simp)]
  have := (get_put hp [] []).1
  rw [List.nil_append, List.append_nil] at this
  exact ⟨hk, hp, this⟩
/-- The first five, and the last one, by layer 3's. -/
theorem get_bin {s : List UInt8} {pos : Int} (h : (get s pos).2 = 0) : Bn.get s pos [-2, -2, 2, 2, -2] = ((get s pos).1.take 5, 0) ∧ Bn.get s (pos + 212) [-2] = ([(get s pos).1.getD 55 0], 0) := by
  obtain ⟨h0, h1, e⟩ := get_ok h
  obtain ⟨p, rfl⟩ := Int.eq_ofNat_of_zero_le h0
  rw [Int.toNat_natCast] at e
  rw [e]
  constructor
  · unfold Bn.get
    rw [if_neg (by rw [show allSizes [-2, -2, 2, 2, -2] = true by decide]; simp), if_neg (by rw [show many [-2, -2, 2, 2, -2] = 10 by decide]; omega), Int.toNat_natCast]
    simp only [row, fields, fld, List.drop_drop]
    rfl
  · unfold Bn.get
    rw [if_neg (by rw [show allSizes [-2] = true by decide]; simp; omega), if_neg (by rw [show many [-2] = 2 by decide]; omega), show ((p : Int) + 212).toNat = p + 212 by omega]
    simp only [row, fields, fld]
    simp [place, size, List.getD]
end Ko
