/-
  Plain functions on bytes (layer 14, info), further: what the walks of Is, Get, Put and Find want at each round. No conditions beyond those stated.
-/
import Derived.Test.YtjeahgdefdlabaaInMath
import Derived.Test.YtjeahgdefdlabaaCoFacts
namespace Ino
open Bn He

def zp : Pair := (0, 0)
theorem getD_some {l : List Pair} {i : Nat} (h : i < l.length) : l[i]? = some (l.getD i zp) := by simp [List.getD, h]
theorem getD_mem {l : List Pair} {i : Nat} (h : i < l.length) : l.getD i zp ∈ l := List.mem_of_getElem? (getD_some h)
theorem take_snocP {l : List Pair} {k : Nat} (h : k < l.length) : l.take (k + 1) = l.take k ++ [l.getD k zp] := by
  rw [List.take_add_one, getD_some h]; rfl
theorem glyphs_len (l : List Pair) : (glyphs l).length = l.length := by simp [glyphs]
theorem glyphs_at {l : List Pair} {i : Nat} (h : i < l.length) : (glyphs l).getD i 0 = (l.getD i zp).1 := by simp [glyphs, List.getD, h]
theorem glyphs_snoc {l : List Pair} {k : Nat} (h : k < l.length) : glyphs (l.take (k + 1)) = glyphs (l.take k) ++ [(l.getD k zp).1] := by
  rw [take_snocP h]; simp [glyphs]

/-! Is. -/
theorem is_bad {l : List Pair} {k : Nat} (h : k < l.length) (hf : fits (l.getD k zp).2 (-2) = false) : isP l = false := by
  rw [Bool.eq_false_iff]
  intro hc
  have := ((isP_iff l).1 hc).1 _ (getD_mem h)
  rw [hf] at this; cases this
theorem is_all {l : List Pair} (h : ∀ i, i < l.length → fits (l.getD i zp).2 (-2) = true) : isP l = Co.isCov (glyphs l) := by
  have : (l.all fun x => fits x.2 (-2)) = true := by
    rw [List.all_eq_true]
    intro x hx
    obtain ⟨i, hi, rfl⟩ := List.mem_iff_getElem.1 hx
    have := h i hi
    simpa [List.getD, List.getElem?_eq_getElem hi] using this
  unfold isP
  rw [this, Bool.true_and]
theorem is_len {l : List Pair} (h : isP l = true) : l.length ≤ 65535 := by
  rw [← glyphs_len]; exact Co.cov_len ((isP_iff l).1 h).2
theorem is_fits {l : List Pair} (h : isP l = true) {k : Nat} (hk : k < l.length) : fits (l.getD k zp).2 (-2) = true := ((isP_iff l).1 h).1 _ (getD_mem hk)
theorem fits_in {v : Int} : fits v (-2) = (decide (-32768 ≤ v) && decide (v ≤ 32767)) := by
  unfold fits
  rw [if_pos (by omega), show ((256 ^ (-2 : Int).natAbs / 2 : Nat) : Int) = 32768 from rfl]
  congr 1
  rw [decide_eq_decide]; omega
theorem is_less {l : List Pair} (h : isP l = true) : ∀ i j, j < i → i < l.length → (l.getD j zp).1 < (l.getD i zp).1 := by
  intro i j hji hi
  have := Co.cov_less ((isP_iff l).1 h).2 i j hji (by rw [glyphs_len]; exact hi)
  rwa [glyphs_at hi, glyphs_at (by omega)] at this

/-! Find. -/
theorem find_bad {l : List Pair} (h : isP l = false) (g : Int) : find l g = (0, false) := by unfold find; rw [h]; rfl
theorem find_idx {l : List Pair} (h : isP l = true) {i : Nat} (hi : i < l.length) {g : Int} (hg : (l.getD i zp).1 = g) : find l g = ((l.getD i zp).2, true) := by
  rw [← hg]; exact find_at h (getD_some hi)
theorem find_out {l : List Pair} {g : Int} (h : ∀ i, i < l.length → (l.getD i zp).1 ≠ g) : find l g = (0, false) := by
  unfold find
  cases hp : isP l with
  | false => rfl
  | true =>
    have : (l.find? fun x => decide (x.1 = g)) = none := by
      rw [List.find?_eq_none]
      intro x hx
      obtain ⟨i, hi, rfl⟩ := List.mem_iff_getElem.1 hx
      have := h i hi
      simpa [List.getD, List.getElem?_eq_getElem hi] using this
    rw [this]; rfl
/-- What a search by halves finds. -/
theorem find_near {l : List Pair} (h : isP l = true) {g : Int} {k : Nat} (hk : k ≤ l.length) (h1 : k = 0 ∨ (l.getD (k - 1) zp).1 < g) (h2 : k = l.length ∨ g ≤ (l.getD k zp).1) :
    (k = l.length → find l g = (0, false)) ∧ (k < l.length → (l.getD k zp).1 ≠ g → find l g = (0, false)) ∧ (k < l.length → (l.getD k zp).1 = g → find l g = ((l.getD k zp).2, true)) := by
  have low : ∀ i, i < k → (l.getD i zp).1 < g := fun i hi => by
    have h3 := h1.resolve_left (by omega)
    rcases Nat.lt_or_ge i (k - 1) with c | c
    · have := is_less h (k - 1) i c (by omega); omega
    · obtain rfl : i = k - 1 := by omega
      exact h3
  refine ⟨fun e => find_out fun i hi => ?_, fun hlt hne => find_out fun i hi => ?_, fun hlt he => find_idx h hlt he⟩
  · have := low i (by omega); omega
  · rcases Nat.lt_trichotomy i k with c | c | c
    · have := low i c; omega
    · subst c; exact hne
    · have h3 := h2.resolve_left (by omega)
      have := is_less h i k c hi; omega

/-! Get. -/
theorem bin_two (s : List UInt8) (pos : Nat) : Bn.get s pos [2, 2] = if s.length < pos + 4 then ([], 4) else ([fld (s.drop pos) 0 2, fld (s.drop pos) 2 2], 0) := by
  have := Co.get_sz s pos 2
  rw [show Co.sz 2 = [2, 2] from rfl] at this
  rw [this]; rfl
theorem bin_neg (s : List UInt8) {pos : Int} (h : pos < 0) (z : List Int) : Bn.get s pos z = ([], 1) := by unfold Bn.get; rw [if_pos (.inr h)]
/-- A value, of those that were cut out. -/
theorem bin_val (t : List UInt8) {n i : Nat} (h : i < n) (hl : 4 + 4 * n ≤ t.length) : Bn.get ((t.drop 4).take (4 * n)) ((4 * i : Nat) : Int) [-2] = ([fld t (4 + 4 * i) (-2)], 0) := by
  have hm : many [-2] = 2 := rfl
  unfold Bn.get
  rw [if_neg (by rintro (c | c); exact absurd c (by decide); omega), hm, if_neg (by rw [List.length_take, List.length_drop]; omega), Int.toNat_natCast]
  show ([one ((((t.drop 4).take (4 * n)).drop (4 * i)).take 2) (-2)], (0 : Int)) = _
  unfold fld
  rw [List.drop_take, List.drop_drop, List.take_take, show (-2 : Int).natAbs = 2 from rfl, Nat.min_eq_left (by omega)]
/-- A value, where it stands. -/
theorem bin_at (s : List UInt8) {pos i : Nat} (h : pos + 4 + 4 * i + 2 ≤ s.length) : Bn.get s ((pos + 4 + 4 * i : Nat) : Int) [-2] = ([fld (s.drop pos) (4 + 4 * i) (-2)], 0) := by
  have hm : many [-2] = 2 := rfl
  unfold Bn.get
  rw [if_neg (by rintro (c | c); exact absurd c (by decide); omega), hm, if_neg (by omega), Int.toNat_natCast]
  show ([one ((s.drop (pos + 4 + 4 * i)).take 2) (-2)], (0 : Int)) = _
  unfold fld
  rw [List.drop_drop, show pos + (4 + 4 * i) = pos + 4 + 4 * i by omega]; rfl
/-- The pairs that are laid so far, noughts behind them. -/
def laid (t : List UInt8) (g : List Int) (k : Nat) : List Pair := (zip t g).take k ++ List.replicate (g.length - k) zp
theorem laid_len (t : List UInt8) (g : List Int) {k : Nat} (hk : k ≤ g.length) : (laid t g k).length = g.length := by
  unfold laid
  rw [List.length_append, List.length_take, List.length_replicate, zip_len]; omega
theorem laid_start (t : List UInt8) (g : List Int) : laid t g 0 = List.replicate g.length zp := rfl
theorem laid_all (t : List UInt8) (g : List Int) : laid t g g.length = zip t g := by
  unfold laid
  rw [List.take_of_length_le (by rw [zip_len]; omega), Nat.sub_self]; simp
theorem zip_at (t : List UInt8) {g : List Int} {k : Nat} (hk : k < g.length) : (zip t g).getD k zp = (g.getD k 0, fld t (4 + 4 * k) (-2)) := by
  simp [zip, List.getD, hk]
theorem laid_step (t : List UInt8) {g : List Int} {k : Nat} (hk : k < g.length) : (laid t g k).set k (g.getD k 0, fld t (4 + 4 * k) (-2)) = laid t g (k + 1) := by
  unfold laid
  have e : g.length - k = (g.length - (k + 1)) + 1 := by omega
  have hl : ((zip t g).take k).length = k := by rw [List.length_take, zip_len]; omega
  rw [e, List.replicate_succ, take_snocP (show k < (zip t g).length by rw [zip_len]; exact hk), List.append_assoc, List.set_append, hl, if_neg (by omega), Nat.sub_self, zip_at t hk]
  rfl
theorem zip_step (t : List UInt8) {g : List Int} {k : Nat} (hk : k < g.length) : (zip t g).take (k + 1) = (zip t g).take k ++ [(g.getD k 0, fld t (4 + 4 * k) (-2))] := by
  rw [take_snocP (by rw [zip_len]; exact hk), zip_at t hk]

/-! Put. -/
def ss (n : Nat) : List Int := [2, 2] ++ (List.replicate n [-2, 2]).flatten
def vs (n : Nat) (l : List Pair) : List Int := [((4 + 4 * n : Nat) : Int), (n : Int)] ++ l.flatMap fun x => [x.2, 0]
theorem ss_succ (n : Nat) : ss (n + 1) = ss n ++ [-2, 2] := by
  unfold ss
  rw [List.replicate_succ', List.flatten_append, List.append_assoc]; rfl
theorem ss_len (n : Nat) : (ss n).length = 2 + 2 * n := by
  induction n with
  | zero => rfl
  | succ n ih => rw [ss_succ, List.length_append, ih]; simp; omega
theorem vs_snoc (n : Nat) {l : List Pair} {k : Nat} (h : k < l.length) : vs n (l.take (k + 1)) = vs n (l.take k) ++ [(l.getD k zp).2, 0] := by
  unfold vs
  rw [take_snocP h, List.flatMap_append, List.append_assoc]; simp
theorem vs_len (n : Nat) (l : List Pair) : (vs n l).length = 2 + 2 * l.length := by
  unfold vs
  rw [List.length_append, List.length_flatMap]
  simp
  induction l with
  | nil => rfl
  | cons x r ih => simp at ih ⊢; omega
theorem rest_join : ∀ l : List Pair, join ((List.replicate l.length [-2, 2]).flatten) (l.flatMap fun x => [x.2, 0]) = vals l
  | [] => rfl
  | x :: r => by
    have ih := rest_join r
    rw [List.length_cons, List.replicate_succ, List.flatten_cons, List.flatMap_cons]
    show join (-2 :: 2 :: (List.replicate r.length [-2, 2]).flatten) (x.2 :: 0 :: r.flatMap fun x => [x.2, 0]) = _
    rw [join, join, ih, vals, List.append_assoc]; rfl
theorem rest_fit : ∀ l : List Pair, (∀ x ∈ l, fits x.2 (-2) = true) → allFit ((List.replicate l.length [-2, 2]).flatten) (l.flatMap fun x => [x.2, 0]) = true
  | [], _ => rfl
  | x :: r, h => by
    have ih := rest_fit r fun y hy => h y (List.mem_cons_of_mem _ hy)
    rw [List.length_cons, List.replicate_succ, List.flatten_cons, List.flatMap_cons]
    show allFit (-2 :: 2 :: (List.replicate r.length [-2, 2]).flatten) (x.2 :: 0 :: r.flatMap fun x => [x.2, 0]) = _
    rw [allFit, allFit, ih, h x (by simp)]; rfl
theorem ss_sizes (n : Nat) : allSizes (ss n) = true := by
  induction n with
  | zero => rfl
  | succ n ih => unfold allSizes at *; rw [ss_succ, List.all_append, ih]; rfl
theorem bin_put {l : List Pair} (h : isP l = true) (hn : l.length ≤ 16382) : Bn.put (ss l.length) (vs l.length l) = (bytes (4 + 4 * l.length : Nat) 2 ++ bytes l.length 2 ++ vals l, 0) := by
  have hf : allFit (ss l.length) (vs l.length l) = true := by
    show allFit (2 :: 2 :: (List.replicate l.length [-2, 2]).flatten) (((4 + 4 * l.length : Nat) : Int) :: (l.length : Int) :: l.flatMap fun x => [x.2, 0]) = true
    rw [allFit, allFit, rest_fit l ((isP_iff l).1 h).1, fits2 (by omega) (by omega), fits2 (by omega) (by omega)]; rfl
  unfold Bn.put
  rw [if_neg (by rw [ss_sizes, ss_len, vs_len]; simp), if_neg (by rw [hf]; simp)]
  rw [Prod.mk.injEq]
  refine ⟨?_, rfl⟩
  show join (2 :: 2 :: (List.replicate l.length [-2, 2]).flatten) (((4 + 4 * l.length : Nat) : Int) :: (l.length : Int) :: l.flatMap fun x => [x.2, 0]) = _
  rw [join, join, rest_join, List.append_assoc, show (2 : Int).natAbs = 2 from rfl]
theorem put_bad {l : List Pair} (h : isP l = false) : put l = ([], 1) := by unfold put; rw [if_pos h]
theorem put_long {l : List Pair} (h : isP l = true) (hn : 16382 < l.length) : put l = ([], 7) := by unfold put; rw [if_neg (by rw [h]; simp), if_pos hn]
theorem put_yes {l : List Pair} (h : isP l = true) (hn : l.length ≤ 16382) : put l = (out l, 0) := by unfold put; rw [if_neg (by rw [h]; simp), if_neg (by omega)]
theorem vals_append : ∀ (a b : List Pair), vals (a ++ b) = vals a ++ vals b
  | [], _ => rfl
  | x :: r, b => by rw [List.cons_append, vals, vals, vals_append r b]; simp only [List.append_assoc]
/-- The bytes so far. -/
def outTo (l : List Pair) (k : Nat) : List UInt8 := bytes (4 + 4 * l.length : Nat) 2 ++ bytes l.length 2 ++ vals (l.take k)
theorem outTo_step {l : List Pair} {k : Nat} (h : k < l.length) : outTo l (k + 1) = outTo l k ++ bytes (l.getD k zp).2 2 ++ [0, 0] := by
  unfold outTo
  rw [take_snocP h, vals_append]
  simp only [vals, List.append_nil, List.append_assoc]
theorem outTo_len {l : List Pair} {k : Nat} (h : k ≤ l.length) : (outTo l k).length = 4 + 4 * k := by
  unfold outTo
  rw [List.length_append, List.length_append, bytes_len, bytes_len, vals_len, List.length_take]; omega
theorem outTo_all (l : List Pair) : outTo l l.length ++ (Co.put (glyphs l)).1 = out l := by
  unfold outTo out
  rw [List.take_length]
theorem put_lim (l : List Pair) : (Co.put (glyphs l)).1.length ≤ 400000 := by
  cases hc : Co.isCov (glyphs l) with
  | false => unfold Co.put; rw [if_pos hc]; simp
  | true =>
    have := Co.cov_len hc
    have h1 := (Co.put_cov hc).2.1
    omega
end Ino
