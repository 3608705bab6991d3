/-
  Plain facts (layer 6, hmtx), with nothing of the program: metrics as rows of sizes and values; the least number of metrics, found from the last one. No conditions beyond those stated.
-/
import Derived.Test.YtppihpjcdieeoaaGreatDoorPlain
namespace Bn
theorem join_append : ∀ (a b c d : List Int), a.length = c.length → join (a ++ b) (c ++ d) = join a c ++ join b d
  | [], b, [], d, _ => rfl
  | n :: r, b, v :: s, d, h => by rw [List.cons_append, List.cons_append, join, join, join_append r b s d (by simpa using h), List.append_assoc]
  | [], _, _ :: _, _, h => by simp at h
  | _ :: _, _, [], _, h => by simp at h
theorem allFit_append : ∀ (a b c d : List Int), a.length = c.length → allFit (a ++ b) (c ++ d) = (allFit a c && allFit b d)
  | [], b, [], d, _ => by simp [allFit]
  | n :: r, b, v :: s, d, h => by rw [List.cons_append, List.cons_append, allFit, allFit, allFit_append r b s d (by simpa using h), Bool.and_assoc]
  | [], _, _ :: _, _, h => by simp at h
  | _ :: _, _, [], _, h => by simp at h
theorem allSizes_append (a b : List Int) : allSizes (a ++ b) = (allSizes a && allSizes b) := by simp [allSizes]
end Bn
namespace Hm
open Bn He

/-- Two sizes for each full metric. -/
def szF : Nat → List Int
  | 0 => []
  | k + 1 => 2 :: -2 :: szF k
def szS (k : Nat) : List Int := List.replicate k (-2)
def fv : List Metric → List Int
  | [] => []
  | x :: r => x.1 :: x.2 :: fv r
def sv (l : List Metric) : List Int := l.map Prod.snd
def side (adv : Int) (l : List Int) : List Metric := l.map fun z => (adv, z)
def sz (g m : Nat) : List Int := szF m ++ szS (g - m)

theorem szF_snoc : ∀ k, szF (k + 1) = szF k ++ [2, -2]
  | 0 => rfl
  | k + 1 => by
    show 2 :: -2 :: szF (k + 1) = (2 :: -2 :: szF k) ++ [2, -2]
    rw [szF_snoc k]; rfl
theorem szF_len : ∀ k, (szF k).length = 2 * k
  | 0 => rfl
  | k + 1 => by rw [szF, List.length_cons, List.length_cons, szF_len k]; omega
theorem szS_len (k : Nat) : (szS k).length = k := by simp [szS]
theorem szS_snoc (k : Nat) : szS (k + 1) = szS k ++ [-2] := by simp [szS, List.replicate_succ']
theorem szF_many : ∀ k, many (szF k) = 4 * k
  | 0 => rfl
  | k + 1 => by rw [szF, many_cons, many_cons, szF_many k]; simp; omega
theorem szS_many : ∀ k, many (szS k) = 2 * k
  | 0 => rfl
  | k + 1 => by rw [szS_snoc, many_append, szS_many k]; simp [many]; omega
theorem szF_sizes : ∀ k, allSizes (szF k) = true
  | 0 => rfl
  | k + 1 => by
    have := szF_sizes k
    unfold allSizes at *
    rw [szF, List.all_cons, List.all_cons, this]; decide
theorem szS_sizes (k : Nat) : allSizes (szS k) = true := by
  unfold allSizes szS
  rw [List.all_eq_true]
  intro x hx
  rw [(List.mem_replicate.1 hx).2]; decide
theorem sz_sizes (g m : Nat) : allSizes (sz g m) = true := by unfold sz; rw [allSizes_append, szF_sizes, szS_sizes]; rfl
theorem sz_len {g m : Nat} (h : m ≤ g) : (sz g m).length = g + m := by unfold sz; rw [List.length_append, szF_len, szS_len]; omega
theorem sz_many {g m : Nat} (_h : m ≤ g) : many (sz g m) = 4 * m + 2 * (g - m) := by unfold sz; rw [many_append, szF_many, szS_many]
theorem fv_append : ∀ a b : List Metric, fv (a ++ b) = fv a ++ fv b
  | [], b => rfl
  | x :: r, b => by rw [List.cons_append, fv, fv, fv_append r b]; rfl
theorem fv_snoc (l : List Metric) (x : Metric) : fv (l ++ [x]) = fv l ++ [x.1, x.2] := fv_append l [x]
theorem fv_len : ∀ l : List Metric, (fv l).length = 2 * l.length
  | [] => rfl
  | x :: r => by rw [fv, List.length_cons, List.length_cons, fv_len r, List.length_cons]; omega
theorem fv_at : ∀ (l : List Metric) (i : Nat), i < l.length → (fv l).getD (2 * i) 0 = (at0 l i).1 ∧ (fv l).getD (2 * i + 1) 0 = (at0 l i).2
  | [], i, h => by simp at h
  | x :: r, 0, _ => ⟨rfl, rfl⟩
  | x :: r, i + 1, h => by
    have := fv_at r i (by simpa using h)
    rw [show 2 * (i + 1) = 2 * i + 1 + 1 by omega]
    exact this
theorem sv_len (l : List Metric) : (sv l).length = l.length := by simp [sv]
theorem side_len (a : Int) (l : List Int) : (side a l).length = l.length := by simp [side]

/-- The full metrics of a table. -/
def fullOf (s : List UInt8) (m : Nat) : List Metric := (List.range m).map fun i => (fld s (4 * i) 2, fld s (4 * i + 2) (-2))
def sideOf (s : List UInt8) (m k : Nat) : List Int := (List.range k).map fun i => fld s (4 * m + 2 * i) (-2)
theorem fullOf_len (s : List UInt8) (m : Nat) : (fullOf s m).length = m := by simp [fullOf]
theorem sideOf_len (s : List UInt8) (m k : Nat) : (sideOf s m k).length = k := by simp [sideOf]
theorem fields_full (s : List UInt8) : ∀ m, fields s (szF m) = fv (fullOf s m)
  | 0 => rfl
  | m + 1 => by
    rw [szF_snoc, fields_append, fields_full s m, szF_many]
    unfold fullOf
    rw [List.range_succ, List.map_append, fv_append]
    congr 1
    simp only [fields, List.map_cons, List.map_nil, fv, fld, List.drop_drop]
    rfl
theorem fields_side (s : List UInt8) (m : Nat) : ∀ k, fields (s.drop (4 * m)) (szS k) = sideOf s m k
  | 0 => rfl
  | k + 1 => by
    rw [szS_snoc, fields_append, fields_side s m k, szS_many]
    unfold sideOf
    rw [List.range_succ, List.map_append]
    congr 1
    simp only [fields, List.map_cons, List.map_nil, fld, List.drop_drop]
theorem fields_sz (s : List UInt8) (g m : Nat) : fields s (sz g m) = fv (fullOf s m) ++ sideOf s m (g - m) := by
  unfold sz
  rw [fields_append, fields_full, szF_many, fields_side]
theorem full_last (s : List UInt8) {m : Nat} (h : 1 ≤ m) : (at0 (fullOf s m) (m - 1)).1 = fld s (4 * (m - 1)) 2 := by
  unfold at0 fullOf
  simp [List.getD, show m - 1 < m by omega]
theorem rows_two (s : List UInt8) {g m : Nat} (h1 : 1 ≤ m) (h2 : m ≤ g) : (List.range g).map (cell s m) = fullOf s m ++ side (at0 (fullOf s m) (m - 1)).1 (sideOf s m (g - m)) := by
  rw [full_last s h1]
  obtain ⟨k, rfl⟩ : ∃ k, g = m + k := ⟨g - m, by omega⟩
  rw [show m + k - m = k by omega, List.range_add, List.map_append]
  congr 1
  · unfold fullOf
    refine List.map_congr_left fun i hi => ?_
    have := List.mem_range.1 hi
    unfold cell
    rw [if_pos this]
  · unfold side sideOf
    rw [List.map_map, List.map_map]
    refine List.map_congr_left fun i _ => ?_
    show cell s m (m + i) = _
    unfold cell
    rw [if_neg (by omega), show m + i - m = i by omega]
    rfl
/-- Get, by layer 3's. -/
theorem get_by (s : List UInt8) {g m : Nat} (hg : g ≤ 65535) (h1 : 1 ≤ m) (h2 : m ≤ g) :
    (s.length < 4 * m + 2 * (g - m) → Bn.get s 0 (sz g m) = ([], 4) ∧ get s g m = ([], 4)) ∧
    (4 * m + 2 * (g - m) ≤ s.length → Bn.get s 0 (sz g m) = (fv (fullOf s m) ++ sideOf s m (g - m), 0) ∧ get s g m = (fullOf s m ++ side (at0 (fullOf s m) (m - 1)).1 (sideOf s m (g - m)), 0)) := by
  have e1 : Bn.get s 0 (sz g m) = if (s.length : Int) < 0 ∨ (s.length : Int) - 0 < (4 * m + 2 * (g - m) : Nat) then ([], 4) else (fields (s.drop (0 : Int).toNat) (sz g m), 0) := by
    unfold Bn.get
    rw [sz_sizes, sz_many h2, if_neg (by simp)]
  have e2 : get s g m = if (s.length : Int) < 4 * (m : Int) + 2 * ((g : Int) - m) then ([], 4) else ((List.range (g : Int).toNat).map (cell s (m : Int).toNat), 0) := by
    unfold get
    rw [if_neg (by omega)]
  rw [e1, e2]
  constructor
  · intro h
    rw [if_pos (by omega), if_pos (by omega)]; exact ⟨rfl, rfl⟩
  · intro h
    rw [if_neg (by omega), if_neg (by omega)]
    refine ⟨?_, ?_⟩
    · rw [show (0 : Int).toNat = 0 from rfl, List.drop_zero, fields_sz]
    · rw [Int.toNat_natCast, Int.toNat_natCast, rows_two s h1 h2]
theorem get_arg (s : List UInt8) {g m : Int} (h : g < 1 ∨ 65535 < g ∨ m < 1 ∨ g < m) : get s g m = ([], 1) := by unfold get; rw [if_pos h]

theorem join_full : ∀ t : List Metric, join (szF t.length) (fv t) = full t
  | [] => rfl
  | x :: r => by
    rw [List.length_cons, szF, fv, join, join, join_full r, full]
    simp only [List.append_assoc]; rfl
theorem fit_full : ∀ t : List Metric, allFit (szF t.length) (fv t) = t.all fit
  | [] => rfl
  | x :: r => by rw [List.length_cons, szF, fv, allFit, allFit, fit_full r, List.all_cons, fit, Bool.and_assoc]
theorem join_side : ∀ t : List Metric, join (szS t.length) (sv t) = sides t
  | [] => rfl
  | x :: r => by
    have := join_side r
    unfold szS sv at *
    rw [List.length_cons, List.replicate_succ, List.map_cons, join, this, sides]; rfl
theorem fit_side : ∀ t : List Metric, allFit (szS t.length) (sv t) = t.all fun x => fits x.2 (-2)
  | [] => rfl
  | x :: r => by
    have := fit_side r
    unfold szS sv at *
    rw [List.length_cons, List.replicate_succ, List.map_cons, allFit, this, List.all_cons]
theorem at_mem {l : List Metric} {i : Nat} (h : i < l.length) : at0 l i ∈ l := by
  simp [at0, List.getD, List.getElem?_eq_getElem h]
theorem fit_two {l : List Metric} {n : Nat} (hn1 : 1 ≤ n) (hn : n ≤ l.length) (hsame : ∀ i, n ≤ i + 1 → i < l.length → (at0 l i).1 = (at0 l (n - 1)).1) :
    ((l.take n).all fit && (l.drop n).all fun x => fits x.2 (-2)) = l.all fit := by
  rw [Bool.eq_iff_iff]
  simp only [Bool.and_eq_true, List.all_eq_true]
  constructor
  · rintro ⟨h1, h2⟩ x hx
    obtain ⟨i, hi, rfl⟩ := List.mem_iff_getElem.1 hx
    rcases Nat.lt_or_ge i n with h | h
    · exact h1 _ (List.mem_take_iff_getElem.2 ⟨i, by omega, rfl⟩)
    · rw [fit_iff]
      have e1 : at0 l i = l[i] := by simp [at0, List.getD, List.getElem?_eq_getElem hi]
      have hl : at0 l (n - 1) ∈ l.take n := by
        refine List.mem_take_iff_getElem.2 ⟨n - 1, by omega, ?_⟩
        simp [at0, List.getD, List.getElem?_eq_getElem (show n - 1 < l.length by omega)]
      refine ⟨?_, h2 _ (List.mem_drop_iff_getElem.2 ⟨i - n, by omega, by congr 1; omega⟩)⟩
      rw [← e1, hsame i (by omega) hi]
      exact ((fit_iff _).1 (h1 _ hl)).1
  · intro h
    exact ⟨fun x hx => h x (List.mem_of_mem_take hx), fun x hx => ((fit_iff _).1 (h x (List.mem_of_mem_drop hx))).2⟩
/-- Put, by layer 3's. -/
theorem put_by {l : List Metric} (h1 : 1 ≤ l.length) (h2 : l.length ≤ 65535) : Bn.put (sz l.length (least l)) (fv (l.take (least l)) ++ sv (l.drop (least l))) = ((put l).1, (put l).2.2) ∧ ((put l).2.2 = 0 → (put l).2.1 = least l) := by
  have hn1 : 1 ≤ least l := down_pos l _ h1
  have hn : least l ≤ l.length := down_le l _
  have hsame : ∀ i, least l ≤ i + 1 → i < l.length → (at0 l i).1 = (at0 l (least l - 1)).1 := fun i a b => down_same l _ i a b
  have hf := fit_two hn1 hn hsame
  have hp : put l = if l.all fit = false then ([], 0, 2) else (out l (least l), least l, 0) := by
    unfold put
    rw [if_neg (by omega)]
  rw [hp]
  unfold out
  clear hp hsame
  generalize least l = n at *
  have ht : (l.take n).length = n := by rw [List.length_take]; omega
  have hd : (l.drop n).length = l.length - n := List.length_drop
  have hfit : allFit (sz l.length n) (fv (l.take n) ++ sv (l.drop n)) = l.all fit := by
    unfold sz
    rw [allFit_append _ _ _ _ (by rw [szF_len, fv_len, ht])]
    have a := fit_full (l.take n)
    have b := fit_side (l.drop n)
    rw [ht] at a; rw [hd] at b
    rw [a, b, hf]
  have hjoin : join (sz l.length n) (fv (l.take n) ++ sv (l.drop n)) = full (l.take n) ++ sides (l.drop n) := by
    unfold sz
    rw [join_append _ _ _ _ (by rw [szF_len, fv_len, ht])]
    have a := join_full (l.take n)
    have b := join_side (l.drop n)
    rw [ht] at a; rw [hd] at b
    rw [a, b]
  unfold Bn.put
  rw [if_neg (by rw [sz_sizes, sz_len hn, List.length_append, fv_len, sv_len, ht, hd]; simp; omega), hfit, hjoin]
  cases l.all fit with
  | true => exact ⟨rfl, fun _ => rfl⟩
  | false => exact ⟨rfl, fun h => by cases h⟩
theorem put_arg {l : List Metric} (h : l.length < 1 ∨ 65535 < l.length) : put l = ([], 0, 1) := by unfold put; rw [if_pos h]
theorem put_num {l : List Metric} (h : (put l).2.2 ≠ 0) : (put l).2.1 = 0 := (put_refused h).2

/-- Going from the last one: the first that is otherwise wide. -/
theorem least_stop {l : List Metric} {k : Nat} (hk : k + 1 < l.length) (hs : ∀ i, k < i → i < l.length → (at0 l i).1 = (at0 l (l.length - 1)).1) (hne : (at0 l k).1 ≠ (at0 l (l.length - 1)).1) : least l = k + 2 := by
  have h1 : least l ≤ k + 2 := least_le l (k + 2) (by omega) (fun i a b => by rw [hs i (by omega) b, show k + 2 - 1 = k + 1 by omega, hs (k + 1) (by omega) (by omega)]) (by omega)
  rcases Nat.lt_or_ge (least l) (k + 2) with h | h
  · exfalso
    have a := down_same l l.length k (show down l l.length ≤ k + 1 by unfold least at h; omega) (by omega)
    have b := down_same l l.length (l.length - 1) (show down l l.length ≤ _ by unfold least at h; omega) (by omega)
    exact hne (a.trans b.symm)
  · omega
theorem least_all {l : List Metric} (h1 : 1 ≤ l.length) (hs : ∀ i, i < l.length → (at0 l i).1 = (at0 l (l.length - 1)).1) : least l = 1 := by
  have a : least l ≤ 1 := least_le l 1 (by omega) (fun i _ b => by rw [hs i b, hs (1 - 1) (by omega)]) h1
  have b : 1 ≤ least l := down_pos l _ h1
  omega
theorem least_bounds {l : List Metric} (h1 : 1 ≤ l.length) : 1 ≤ least l ∧ least l ≤ l.length := ⟨down_pos l _ h1, down_le l _⟩
end Hm
