/-
  Facts that the walks rest on: InFacts, CuFacts. No conditions beyond those stated.
-/
import Derived.Test.YtcnmfgdeanbhoaaPart02
import Derived.Test.YtcnmfgdeanbhoaaPart04
import Derived.Test.YtcnmfgdeanbhoaaPart03
/-
  Plain functions on bytes (layer 14, info), further: what the walks of Is, Get, Put and Find want at each round. No conditions beyond those stated.
-/
namespace Ino
open Bn He

def zp : Pair := (0, 0)
theorem getD_some {l : List Pair} {i : Nat} (h : i < l.length) : l[i]? = some (l.getD i zp) := by simp [List.getD, h]
theorem getD_mem {l : List Pair} {i : Nat} (h : i < l.length) : l.getD i zp ∈ l := List.mem_of_getElem? (getD_some h)
theorem take_snocP {l : List Pair} {k : Nat} (h : k < l.length) : l.take (k + 1) = l.take k ++ [l.getD k zp] := by
  rw [List.take_add_one, getD_some h]; rfl
theorem glyphs_len (l : List Pair) : (glyphs l).length = l.length := by simp [glyphs]
theorem glyphs_at {l : List Pair} {i : Nat} (h : i < l.length) : (glyphs l).getD i 0 = (l.getD i zp).1 := by simp [glyphs, List.getD, h]
theorem glyphs_snoc {l : List Pair} {k : Nat} (h : k < l.length) : glyphs (l.take (k + 1)) = glyphs (l.take k) ++ [(l.getD k zp).1] := by
  rw [take_snocP h]; simp [glyphs]

/-! Is. -/
theorem is_bad {l : List Pair} {k : Nat} (h : k < l.length) (hf : fits (l.getD k zp).2 (-2) = false) : isP l = false := by
  rw [Bool.eq_false_iff]
  intro hc
  have := ((isP_iff l).1 hc).1 _ (getD_mem h)
  rw [hf] at this; cases this
theorem is_all {l : List Pair} (h : ∀ i, i < l.length → fits (l.getD i zp).2 (-2) = true) : isP l = Co.isCov (glyphs l) := by
  have : (l.all fun x => fits x.2 (-2)) = true := by
    rw [List.all_eq_true]
    intro x hx
    obtain ⟨i, hi, rfl⟩ := List.mem_iff_getElem.1 hx
    have := h i hi
    simpa [List.getD, List.getElem?_eq_getElem hi] using this
  unfold isP
  rw [this, Bool.true_and]
theorem is_len {l : List Pair} (h : isP l = true) : l.length ≤ 65535 := by
  rw [← glyphs_len]; exact Co.cov_len ((isP_iff l).1 h).2
theorem is_fits {l : List Pair} (h : isP l = true) {k : Nat} (hk : k < l.length) : fits (l.getD k zp).2 (-2) = true := ((isP_iff l).1 h).1 _ (getD_mem hk)
theorem fits_in {v : Int} : fits v (-2) = (decide (-32768 ≤ v) && decide (v ≤ 32767)) := by
  unfold fits
  rw [if_pos (by omega), show ((256 ^ (-2 : Int).natAbs / 2 : Nat) : Int) = 32768 from rfl]
  congr 1
  rw [decide_eq_decide]; omega
theorem is_less {l : List Pair} (h : isP l = true) : ∀ i j, j < i → i < l.length → (l.getD j zp).1 < (l.getD i zp).1 := by
  intro i j hji hi
  have := Co.cov_less ((isP_iff l).1 h).2 i j hji (by rw [glyphs_len]; exact hi)
  rwa [glyphs_at hi, glyphs_at (by omega)] at this

/-! Find. -/
theorem find_bad {l : List Pair} (h : isP l = false) (g : Int) : find l g = (0, false) := by unfold find; rw [h]; rfl
theorem find_idx {l : List Pair} (h : isP l = true) {i : Nat} (hi : i < l.length) {g : Int} (hg : (l.getD i zp).1 = g) : find l g = ((l.getD i zp).2, true) := by
  rw [← hg]; exact find_at h (getD_some hi)
theorem find_out {l : List Pair} {g : Int} (h : ∀ i, i < l.length → (l.getD i zp).1 ≠ g) : find l g = (0, false) := by
  unfold find
  cases hp : isP l with
  | false => rfl
  | true =>
    have : (l.find? fun x => decide (x.1 = g)) = none := by
      rw [List.find?_eq_none]
      intro x hx
      obtain ⟨i, hi, rfl⟩ := List.mem_iff_getElem.1 hx
      have := h i hi
      simpa [List.getD, List.getElem?_eq_getElem hi] using this
    rw [this]; rfl
/-- What a search by halves finds. -/
theorem find_near {l : List Pair} (h : isP l = true) {g : Int} {k : Nat} (hk : k ≤ l.length) (h1 : k = 0 ∨ (l.getD (k - 1) zp).1 < g) (h2 : k = l.length ∨ g ≤ (l.getD k zp).1) :
    (k = l.length → find l g = (0, false)) ∧ (k < l.length → (l.getD k zp).1 ≠ g → find l g = (0, false)) ∧ (k < l.length → (l.getD k zp).1 = g → find l g = ((l.getD k zp).2, true)) := by
  have low : ∀ i, i < k → (l.getD i zp).1 < g := fun i hi => by
    have h3 := h1.resolve_left (by omega)
    rcases Nat.lt_or_ge i (k - 1) with c | c
    · have := is_less h (k - 1) i c (by omega); omega
    · obtain rfl : i = k - 1 := by omega
      exact h3
  refine ⟨fun e => find_out fun i hi => ?_, fun hlt hne => find_out fun i hi => ?_, fun hlt he => find_idx h hlt he⟩
  · have := low i (by omega); omega
  · rcases Nat.lt_trichotomy i k with c | c | c
    · have := low i c; omega
    · subst c; exact hne
    · have h3 := h2.resolve_left (by omega)
      have := is_less h i k c hi; omega

/-! Get. -/
theorem bin_two (s : List UInt8) (pos : Nat) : Bn.get s pos [2, 2] = if s.length < pos + 4 then ([], 4) else ([fld (s.drop pos) 0 2, fld (s.drop pos) 2 2], 0) := by
  have := Co.get_sz s pos 2
  rw [show Co.sz 2 = [2, 2] from rfl] at this
  rw [this]; rfl
theorem bin_neg (s : List UInt8) {pos : Int} (h : pos < 0) (z : List Int) : Bn.get s pos z = ([], 1) := by unfold Bn.get; rw [if_pos (.inr h)]
/-- A value, of those that were cut out. -/
theorem bin_val (t : List UInt8) {n i : Nat} (h : i < n) (hl : 4 + 4 * n ≤ t.length) : Bn.get ((t.drop 4).take (4 * n)) ((4 * i : Nat) : Int) [-2] = ([fld t (4 + 4 * i) (-2)], 0) := by
  have hm : many [-2] = 2 := rfl
  unfold Bn.get
  rw [if_neg (by rintro (c | c); exact absurd c (by decide); omega), hm, if_neg (by rw [List.length_take, List.length_drop]; omega), Int.toNat_natCast]
  show ([one ((((t.drop 4).take (4 * n)).drop (4 * i)).take 2) (-2)], (0 : Int)) = _
  unfold fld
  rw [List.drop_take, List.drop_drop, List.take_take, show (-2 : Int).natAbs = 2 from rfl, Nat.min_eq_left (by omega)]
/-- A value, where it stands. -/
theorem bin_at (s : List UInt8) {pos i : Nat} (h : pos + 4 + 4 * i + 2 ≤ s.length) : Bn.get s ((pos + 4 + 4 * i : Nat) : Int) [-2] = ([fld (s.drop pos) (4 + 4 * i) (-2)], 0) := by
  have hm : many [-2] = 2 := rfl
  unfold Bn.get
  rw [if_neg (by rintro (c | c); exact absurd c (by decide); omega), hm, if_neg (by omega), Int.toNat_natCast]
  show ([one ((s.drop (pos + 4 + 4 * i)).take 2) (-2)], (0 : Int)) = _
  unfold fld
  rw [List.drop_drop, show pos + (4 + 4 * i) = pos + 4 + 4 * i by omega]; rfl
/-- The pairs that are laid so far, noughts behind them. -/
def laid (t : List UInt8) (g : List Int) (k : Nat) : List Pair := (zip t g).take k ++ List.replicate (g.length - k) zp
theorem laid_len (t : List UInt8) (g : List Int) {k : Nat} (hk : k ≤ g.length) : (laid t g k).length = g.length := by
  unfold laid
  rw [List.length_append, List.length_take, List.length_replicate, zip_len]; omega
theorem laid_start (t : List UInt8) (g : List Int) : laid t g 0 = List.replicate g.length zp := rfl
theorem laid_all (t : List UInt8) (g : List Int) : laid t g g.length = zip t g := by
  unfold laid
  rw [List.take_of_length_le (by rw [zip_len]; omega), Nat.sub_self]; simp
theorem zip_at (t : List UInt8) {g : List Int} {k : Nat} (hk : k < g.length) : (zip t g).getD k zp = (g.getD k 0, fld t (4 + 4 * k) (-2)) := by
  simp [zip, List.getD, hk]
theorem laid_step (t : List UInt8) {g : List Int} {k : Nat} (hk : k < g.length) : (laid t g k).set k (g.getD k 0, fld t (4 + 4 * k) (-2)) = laid t g (k + 1) := by
  unfold laid
  have e : g.length - k = (g.length - (k + 1)) + 1 := by omega
  have hl : ((zip t g).take k).length = k := by rw [List.length_take, zip_len]; omega
  rw [e, List.replicate_succ, take_snocP (show k < (zip t g).length by rw [zip_len]; exact hk), List.append_assoc, List.set_append, hl, if_neg (by omega), Nat.sub_self, zip_at t hk]
  rfl
theorem zip_step (t : List UInt8) {g : List Int} {k : Nat} (hk : k < g.length) : (zip t g).take (k + 1) = (zip t g).take k ++ [(g.getD k 0, fld t (4 + 4 * k) (-2))] := by
  rw [take_snocP (by rw [zip_len]; exact hk), zip_at t hk]

/-! Put. -/
def ss (n : Nat) : List Int := [2, 2] ++ (List.replicate n [-2, 2]).flatten
def vs (n : Nat) (l : List Pair) : List Int := [((4 + 4 * n : Nat) : Int), (n : Int)] ++ l.flatMap fun x => [x.2, 0]
theorem ss_succ (n : Nat) : ss (n + 1) = ss n ++ [-2, 2] := by
  unfold ss
  rw [List.replicate_succ', List.flatten_append, List.append_assoc]; rfl
theorem ss_len (n : Nat) : (ss n).length = 2 + 2 * n := by
  induction n with
  | zero => rfl
  | succ n ih => rw [ss_succ, List.length_append, ih]; simp; omega
theorem vs_snoc (n : Nat) {l : List Pair} {k : Nat} (h : k < l.length) : vs n (l.take (k + 1)) = vs n (l.take k) ++ [(l.getD k zp).2, 0] := by
  unfold vs
  rw [take_snocP h, List.flatMap_append, List.append_assoc]; simp
theorem vs_len (n : Nat) (l : List Pair) : (vs n l).length = 2 + 2 * l.length := by
  unfold vs
  rw [List.length_append, List.length_flatMap]
  simp
  induction l with
  | nil => rfl
  | cons x r ih => simp at ih ⊢; omega
theorem rest_join : ∀ l : List Pair, join ((List.replicate l.length [-2, 2]).flatten) (l.flatMap fun x => [x.2, 0]) = vals l
  | [] => rfl
  | x :: r => by
    have ih := rest_join r
    rw [List.length_cons, List.replicate_succ, List.flatten_cons, List.flatMap_cons]
    show join (-2 :: 2 :: (List.replicate r.length [-2, 2]).flatten) (x.2 :: 0 :: r.flatMap fun x => [x.2, 0]) = _
    rw [join, join, ih, vals, List.append_assoc]; rfl
theorem rest_fit : ∀ l : List Pair, (∀ x ∈ l, fits x.2 (-2) = true) → allFit ((List.replicate l.length [-2, 2]).flatten) (l.flatMap fun x => [x.2, 0]) = true
  | [], _ => rfl
  | x :: r, h => by
    have ih := rest_fit r fun y hy => h y (List.mem_cons_of_mem _ hy)
    rw [List.length_cons, List.replicate_succ, List.flatten_cons, List.flatMap_cons]
    show allFit (-2 :: 2 :: (List.replicate r.length [-2, 2]).flatten) (x.2 :: 0 :: r.flatMap fun x => [x.2, 0]) = _
    rw [allFit, allFit, ih, h x (by simp)]; rfl
theorem ss_sizes (n : Nat) : allSizes (ss n) = true := by
  induction n with
  | zero => rfl
  | succ n ih => unfold allSizes at *; rw [ss_succ, List.all_append, ih]; rfl
theorem bin_put {l : List Pair} (h : isP l = true) (hn : l.length ≤ 16382) : Bn.put (ss l.length) (vs l.length l) = (bytes (4 + 4 * l.length : Nat) 2 ++ bytes l.length 2 ++ vals l, 0) := by
  have hf : allFit (ss l.length) (vs l.length l) = true := by
    show allFit (2 :: 2 :: (List.replicate l.length [-2, 2]).flatten) (((4 + 4 * l.length : Nat) : Int) :: (l.length : Int) :: l.flatMap fun x => [x.2, 0]) = true
    rw [allFit, allFit, rest_fit l ((isP_iff l).1 h).1, fits2 (by omega) (by omega), fits2 (by omega) (by omega)]; rfl
  unfold Bn.put
  rw [if_neg (by rw [ss_sizes, ss_len, vs_len]; simp), if_neg (by rw [hf]; simp)]
  rw [Prod.mk.injEq]
  refine ⟨?_, rfl⟩
  show join (2 :: 2 :: (List.replicate l.length [-2, 2]).flatten) (((4 + 4 * l.length : Nat) : Int) :: (l.length : Int) :: l.flatMap fun x => [x.2, 0]) = _
  rw [join, join, rest_join, List.append_assoc, show (2 : Int).natAbs = 2 from rfl]
theorem put_bad {l : List Pair} (h : isP l = false) : put l = ([], 1) := by unfold put; rw [if_pos h]
theorem put_long {l : List Pair} (h : isP l = true) (hn : 16382 < l.length) : put l = ([], 7) := by unfold put; rw [if_neg (by rw [h]; simp), if_pos hn]
theorem put_yes {l : List Pair} (h : isP l = true) (hn : l.length ≤ 16382) : put l = (out l, 0) := by unfold put; rw [if_neg (by rw [h]; simp), if_neg (by omega)]
theorem vals_append : ∀ (a b : List Pair), vals (a ++ b) = vals a ++ vals b
  | [], _ => rfl
  | x :: r, b => by rw [List.cons_append, vals, vals, vals_append r b]; simp only [List.append_assoc]
/-- The bytes so far. -/
def outTo (l : List Pair) (k : Nat) : List UInt8 := bytes (4 + 4 * l.length : Nat) 2 ++ bytes l.length 2 ++ vals (l.take k)
theorem outTo_step {l : List Pair} {k : Nat} (h : k < l.length) : outTo l (k + 1) = outTo l k ++ bytes (l.getD k zp).2 2 ++ [0, 0] := by
  unfold outTo
  rw [take_snocP h, vals_append]
  simp only [vals, List.append_nil, List.append_assoc]
theorem outTo_len {l : List Pair} {k : Nat} (h : k ≤ l.length) : (outTo l k).length = 4 + 4 * k := by
  unfold outTo
  rw [List.length_append, List.length_append, bytes_len, bytes_len, vals_len, List.length_take]; omega
theorem outTo_all (l : List Pair) : outTo l l.length ++ (Co.put (glyphs l)).1 = out l := by
  unfold outTo out
  rw [List.take_length]
theorem put_lim (l : List Pair) : (Co.put (glyphs l)).1.length ≤ 400000 := by
  cases hc : Co.isCov (glyphs l) with
  | false => unfold Co.put; rw [if_pos hc]; simp
  | true =>
    have := Co.cov_len hc
    have h1 := (Co.put_cov hc).2.1
    omega
end Ino
/-
  Plain functions on bytes (layer 15, cutin), further: what the walks of Get and Put want at each round. No conditions beyond those stated.
-/
namespace Cu
open Bn He

/-! Numbers with two bytes behind each. -/
def rdN (s : List UInt8) (n : Nat) : List Int := (List.range n).map fun i => fld s (4 * i) (-2)
theorem rdN_len (s : List UInt8) (n : Nat) : (rdN s n).length = n := by simp [rdN]
theorem rdN_succ (s : List UInt8) (k : Nat) : rdN s (k + 1) = rdN s k ++ [fld s (4 * k) (-2)] := by simp [rdN, List.range_succ]
theorem bin_num (s : List UInt8) {n i : Nat} (h : i < n) (hl : s.length = 4 * n) : Bn.get s ((4 * i : Nat) : Int) [-2] = ([fld s (4 * i) (-2)], 0) := by
  have hm : many [-2] = 2 := rfl
  unfold Bn.get
  rw [if_neg (by rintro (c | c); exact absurd c (by decide); omega), hm, if_neg (by omega), Int.toNat_natCast]
  rfl
theorem fld_take (s : List UInt8) {m p : Nat} (h : p + 2 ≤ m) : fld (s.take m) p (-2) = fld s p (-2) := by
  unfold fld
  rw [List.drop_take, List.take_take, show (-2 : Int).natAbs = 2 from rfl, Nat.min_eq_left (by omega)]
theorem fld_drop (s : List UInt8) (a p : Nat) (z : Int) : fld (s.drop a) p z = fld s (a + p) z := by unfold fld; rw [List.drop_drop]
/-- The bytes of a stair's numbers, cut out. -/
def cutN (t : List UInt8) (n : Nat) : List UInt8 := (t.drop 2).take (4 * (2 * n + 1))
theorem cutN_len {t : List UInt8} {n : Nat} (h : 6 + 8 * n ≤ t.length) : (cutN t n).length = 4 * (2 * n + 1) := by
  unfold cutN
  rw [List.length_take, List.length_drop]; omega
theorem rdS_cut (t : List UInt8) (n : Nat) : rdS t n = (rdN ((cutN t n).take (4 * n)) n, rdN ((cutN t n).drop (4 * n)) (n + 1)) := by
  unfold rdS rdN cutN
  refine Prod.ext ?_ ?_
  · refine List.map_congr_left fun i hi => ?_
    have := List.mem_range.1 hi
    rw [fld_take _ (by omega), fld_take _ (by omega), fld_drop]
  · refine List.map_congr_left fun i hi => ?_
    have := List.mem_range.1 hi
    rw [fld_drop, fld_take _ (by omega), fld_drop, show 2 + (4 * n + 4 * i) = 2 + 4 * (n + i) by omega]
theorem bin_one (s : List UInt8) (pos : Nat) : Bn.get s pos [2] = if s.length < pos + 2 then ([], 4) else ([fld (s.drop pos) 0 2], 0) := by
  have := Co.get_sz s pos 1
  rw [show Co.sz 1 = [2] from rfl] at this
  rw [this]; rfl
theorem bin_piece (s : List UInt8) {q n : Nat} (h : q + 2 + 4 * (2 * n + 1) ≤ s.length) : Bn.piece s ((q : Int) + 2) (4 * (2 * (n : Int) + 1)) = (cutN (s.drop q) n, 0) := by
  unfold Bn.piece
  rw [if_neg (by omega), if_neg (by omega), show ((q : Int) + 2).toNat = q + 2 by omega, show (4 * (2 * (n : Int) + 1)).toNat = 4 * (2 * n + 1) by omega]
  unfold cutN
  rw [List.drop_drop]
theorem bin_piece_no (s : List UInt8) {q n : Nat} (h : s.length < q + 2 + 4 * (2 * n + 1)) : Bn.piece s ((q : Int) + 2) (4 * (2 * (n : Int) + 1)) = ([], 4) := by
  unfold Bn.piece
  rw [if_neg (by omega), if_pos (by omega)]

/-! A glyph's corners, one after another. -/
theorem gall_app (t : List UInt8) : ∀ (a b : List Int), (gall t a).2 = 0 → gall t (a ++ b) = if (gall t b).2 ≠ 0 then ([], (gall t b).2) else ((gall t a).1 ++ (gall t b).1, 0)
  | [], b, _ => by
    rw [List.nil_append]
    by_cases c : (gall t b).2 ≠ 0
    · rw [if_pos c]
      cases b with
      | nil => exact absurd rfl c
      | cons o r =>
        rw [gall] at c ⊢
        by_cases c1 : (gone t o).2 ≠ 0
        · rw [if_pos c1]
        · rw [if_neg c1] at c ⊢
          by_cases c2 : (gall t r).2 ≠ 0
          · rw [if_pos c2]
          · rw [if_neg c2] at c; exact absurd rfl c
    · rw [if_neg c]
      exact Prod.ext rfl (by simpa using c)
  | o :: r, b, h => by
    rw [gall] at h
    by_cases c1 : (gone t o).2 ≠ 0
    · rw [if_pos c1] at h; exact absurd h c1
    · rw [if_neg c1] at h
      by_cases c2 : (gall t r).2 ≠ 0
      · rw [if_pos c2] at h; exact absurd h c2
      · have ih := gall_app t r b (by simpa using c2)
        rw [List.cons_append, gall, if_neg c1, ih, gall, if_neg c1, if_neg c2]
        by_cases c3 : (gall t b).2 ≠ 0
        · simp [c3]
        · simp only [ne_eq, Decidable.not_not] at c3
          simp [c3]
theorem gall_err (t : List UInt8) : ∀ (a b : List Int), (gall t a).2 ≠ 0 → gall t (a ++ b) = ([], (gall t a).2)
  | [], _, h => absurd rfl h
  | o :: r, b, h => by
    rw [List.cons_append, gall]
    rw [gall] at h ⊢
    by_cases c1 : (gone t o).2 ≠ 0
    · rw [if_pos c1, if_pos c1]
    · rw [if_neg c1] at h ⊢
      by_cases c2 : (gall t r).2 ≠ 0
      · rw [if_pos c2] at h ⊢
        rw [gall_err t r b c2]
        simp [c1, c2]
      · rw [if_neg c2] at h; exact absurd rfl h
theorem gall_one (t : List UInt8) (o : Int) : gall t [o] = if (gone t o).2 ≠ 0 then ([], (gone t o).2) else ([(gone t o).1], 0) := by
  rw [gall]
  by_cases c1 : (gone t o).2 ≠ 0
  · rw [if_pos c1, if_pos c1]
  · rw [if_neg c1, if_neg c1]; simp [gall]
theorem gone_zero (t : List UInt8) : gone t 0 = (zS, 0) := by unfold gone; rw [if_pos rfl]; rfl
theorem gst_bad {t : List UInt8} (h : (gst t).2 ≠ 0) : (gst t).1 = zS := by
  unfold gst at *
  by_cases c1 : t.length < 2
  · rw [if_pos c1]; rfl
  · rw [if_neg c1] at h ⊢
    by_cases c2 : t.length < 6 + 8 * (fld t 0 2).toNat
    · rw [if_pos c2]; rfl
    · rw [if_neg c2] at h ⊢
      by_cases c3 : 64 < (fld t 0 2).toNat
      · rw [if_pos c3]; rfl
      · rw [if_neg c3] at h ⊢
        by_cases c4 : isS (rdS t (fld t 0 2).toNat) = true
        · rw [if_pos c4] at h; exact absurd rfl h
        · rw [if_neg c4]; rfl
/-- The stairs that are laid so far, empty ones behind them. -/
def laidS (t : List UInt8) (os : List Int) (k : Nat) : List Stair := (gall t (os.take k)).1 ++ List.replicate (os.length - k) zS
theorem laidS_len {t : List UInt8} {os : List Int} {k : Nat} (hk : k ≤ os.length) (h : (gall t (os.take k)).2 = 0) : (laidS t os k).length = os.length := by
  unfold laidS
  rw [List.length_append, (gall_is h).1, List.length_take, List.length_replicate]; omega
theorem laidS_start (t : List UInt8) (os : List Int) : laidS t os 0 = List.replicate os.length zS ∧ (gall t (os.take 0)).2 = 0 := ⟨rfl, rfl⟩
theorem laidS_all (t : List UInt8) (os : List Int) : laidS t os os.length = (gall t os).1 := by
  unfold laidS
  rw [List.take_length, Nat.sub_self]; simp
theorem corner_ok {t : List UInt8} {os : List Int} {k : Nat} (hk : k < os.length) (h : (gall t (os.take k)).2 = 0) (hg : (gone t (os.getD k 0)).2 = 0) :
    (gall t (os.take (k + 1))).2 = 0 ∧ (laidS t os k).set k (gone t (os.getD k 0)).1 = laidS t os (k + 1) := by
  have e : gall t (os.take (k + 1)) = ((gall t (os.take k)).1 ++ [(gone t (os.getD k 0)).1], 0) := by
    have e1 : gall t [os.getD k 0] = ([(gone t (os.getD k 0)).1], 0) := by rw [gall_one, if_neg (by rw [hg]; simp)]
    rw [takeI_snoc hk, gall_app t _ _ h, e1]; rfl
  refine ⟨by rw [e], ?_⟩
  unfold laidS
  rw [e]
  have hl : (gall t (os.take k)).1.length = k := by rw [(gall_is h).1, List.length_take]; omega
  rw [show os.length - k = (os.length - (k + 1)) + 1 by omega, List.replicate_succ, List.set_append, hl, if_neg (by omega), Nat.sub_self, List.append_assoc]
  rfl
theorem corner_no {t : List UInt8} {os : List Int} {k : Nat} (hk : k < os.length) (h : (gall t (os.take k)).2 = 0) (hg : (gone t (os.getD k 0)).2 ≠ 0) : gall t os = ([], (gone t (os.getD k 0)).2) := by
  have e : (gall t (os.take (k + 1))) = ([], (gone t (os.getD k 0)).2) := by
    have e1 : gall t [os.getD k 0] = ([], (gone t (os.getD k 0)).2) := by rw [gall_one, if_pos hg]
    rw [takeI_snoc hk, gall_app t _ _ h, e1, if_pos hg]
  have := gall_err t (os.take (k + 1)) (os.drop (k + 1)) (by rw [e]; exact hg)
  rw [List.take_append_drop] at this
  rw [this, e]
/-- An empty corner is laid already. -/
theorem corner_zero {t : List UInt8} {os : List Int} {k : Nat} (hk : k < os.length) (h : (gall t (os.take k)).2 = 0) (h0 : os.getD k 0 = 0) : (gall t (os.take (k + 1))).2 = 0 ∧ laidS t os k = laidS t os (k + 1) := by
  obtain ⟨h1, h2⟩ := corner_ok hk h (by rw [h0, gone_zero])
  refine ⟨h1, ?_⟩
  rw [← h2, h0, gone_zero]
  have hl : (gall t (os.take k)).1.length = k := by rw [(gall_is h).1, List.length_take]; omega
  unfold laidS
  rw [show os.length - k = (os.length - (k + 1)) + 1 by omega, List.replicate_succ, List.set_append, hl, if_neg (by omega), Nat.sub_self]
  rfl
theorem all_ok {t : List UInt8} {os : List Int} (h : (gall t os).2 = 0) : (gall t os).1.length = os.length := (gall_is h).1
theorem all_take {t : List UInt8} {os : List Int} (h : (gall t (os.take os.length)).2 = 0) : gall t os = ((gall t os).1, 0) := by
  rw [List.take_length] at h
  exact Prod.ext rfl h

/-! Glyphs' corners. -/
def quad (t : List UInt8) (k : Nat) : List Int := [Co.word t (4 + 8 * k), Co.word t (6 + 8 * k), Co.word t (8 + 8 * k), Co.word t (10 + 8 * k)]
theorem quad_len (t : List UInt8) (k : Nat) : (quad t k).length = 4 := rfl
theorem quad_pos {t : List UInt8} {k : Nat} : ∀ o ∈ quad t k, 0 ≤ o ∧ o ≤ 65535 := by
  intro o ho
  simp only [quad, List.mem_cons, List.not_mem_nil, or_false] at ho
  rcases ho with rfl | rfl | rfl | rfl <;> exact Co.word_bd _ _
theorem ones_quad (t : List UInt8) (k : Nat) : Co.ones t (4 * (k + 1)) = Co.ones t (4 * k) ++ quad t k := by
  unfold Co.ones quad
  rw [show 4 * (k + 1) = 4 * k + 1 + 1 + 1 + 1 by omega, List.range_succ, List.range_succ, List.range_succ, List.range_succ]
  simp only [List.map_append, List.map_cons, List.map_nil, List.append_assoc, List.cons_append, List.nil_append]
  rw [show 4 + 2 * (4 * k) = 4 + 8 * k by omega, show 4 + 2 * (4 * k + 1) = 6 + 8 * k by omega, show 4 + 2 * (4 * k + 1 + 1) = 8 + 8 * k by omega, show 4 + 2 * (4 * k + 1 + 1 + 1) = 10 + 8 * k by omega]
theorem bin_quad (t : List UInt8) {n k : Nat} (h : k < n) (hl : 4 + 8 * n ≤ t.length) : Bn.get ((t.drop 4).take (8 * n)) (8 * (k : Int)) [2, 2, 2, 2] = (quad t k, 0) := by
  have := Co.get_sz ((t.drop 4).take (8 * n)) (8 * k) 4
  rw [show Co.sz 4 = [2, 2, 2, 2] from rfl, if_neg (by rw [List.length_take, List.length_drop]; omega)] at this
  rw [show (8 * (k : Int)) = ((8 * k : Nat) : Int) by omega, this]
  have w : ∀ i, i < 4 → Co.word (((t.drop 4).take (8 * n)).drop (8 * k)) (2 * i) = Co.word t (4 + 8 * k + 2 * i) := fun i hi => by
    rw [Co.word_drop]
    unfold Co.word fld
    rw [List.drop_take, List.drop_drop, List.take_take, show (2 : Int).natAbs = 2 from rfl, Nat.min_eq_left (by omega), show 4 + (8 * k + 2 * i) = 4 + 8 * k + 2 * i by omega]
  show ([Co.word _ (2 * 0), Co.word _ (2 * 1), Co.word _ (2 * 2), Co.word _ (2 * 3)], (0 : Int)) = _
  rw [w 0 (by omega), w 1 (by omega), w 2 (by omega), w 3 (by omega)]
  unfold quad
  rw [show 4 + 8 * k + 2 * 0 = 4 + 8 * k by omega, show 4 + 8 * k + 2 * 1 = 6 + 8 * k by omega, show 4 + 8 * k + 2 * 2 = 8 + 8 * k by omega, show 4 + 8 * k + 2 * 3 = 10 + 8 * k by omega]
theorem four_app : ∀ (a b : List Int) (q r : List Stair), q.length = 4 * a.length → four (a ++ b) (q ++ r) = four a q ++ four b r
  | [], b, q, r, h => by
    rw [List.length_nil] at h
    rw [List.eq_nil_of_length_eq_zero (by omega : q.length = 0)]; rfl
  | g :: a, b, q, r, h => by
    rw [List.length_cons] at h
    rw [List.cons_append, four, four, List.take_append_of_le_length (by omega), List.drop_append_of_le_length (by omega), four_app a b (q.drop 4) r (by rw [List.length_drop]; omega)]
    rfl
theorem four_len : ∀ (g : List Int) (q : List Stair), (four g q).length = g.length
  | [], _ => rfl
  | a :: r, q => by rw [four, List.length_cons, four_len r, List.length_cons]
/-- The kerns that are laid so far, empty ones behind them. -/
def laidK (t : List UInt8) (g : List Int) (k : Nat) : List Kern := four (g.take k) (gall t (Co.ones t (4 * k))).1 ++ List.replicate (g.length - k) zK
theorem laidK_len (t : List UInt8) {g : List Int} {k : Nat} (hk : k ≤ g.length) : (laidK t g k).length = g.length := by
  unfold laidK
  rw [List.length_append, four_len, List.length_take, List.length_replicate]; omega
theorem laidK_start (t : List UInt8) (g : List Int) : laidK t g 0 = List.replicate g.length zK ∧ (gall t (Co.ones t (4 * 0))).2 = 0 := ⟨rfl, rfl⟩
theorem laidK_all (t : List UInt8) (g : List Int) : laidK t g g.length = four g (gall t (Co.ones t (4 * g.length))).1 := by
  unfold laidK
  rw [List.take_length, Nat.sub_self]; simp
theorem kern_ok {t : List UInt8} {g : List Int} {k : Nat} (hk : k < g.length) (h : (gall t (Co.ones t (4 * k))).2 = 0) (hg : (gall t (quad t k)).2 = 0) :
    (gall t (Co.ones t (4 * (k + 1)))).2 = 0 ∧ (laidK t g k).set k (g.getD k 0, (gall t (quad t k)).1) = laidK t g (k + 1) := by
  have e : gall t (Co.ones t (4 * (k + 1))) = ((gall t (Co.ones t (4 * k))).1 ++ (gall t (quad t k)).1, 0) := by
    rw [ones_quad, gall_app t _ _ h, if_neg (by simpa using hg)]
  refine ⟨by rw [e], ?_⟩
  have hl1 : (gall t (Co.ones t (4 * k))).1.length = 4 * k := by rw [(gall_is h).1]; simp [Co.ones]
  have hl2 : (gall t (quad t k)).1.length = 4 := (gall_is hg).1
  unfold laidK
  rw [e, takeI_snoc hk, four_app _ _ _ _ (by rw [hl1, List.length_take]; omega)]
  have hl : (four (g.take k) (gall t (Co.ones t (4 * k))).1).length = k := by rw [four_len, List.length_take]; omega
  rw [show g.length - k = (g.length - (k + 1)) + 1 by omega, List.replicate_succ, List.set_append, hl, if_neg (by omega), Nat.sub_self, List.append_assoc]
  congr 1
  rw [List.set_cons_zero, four, List.take_of_length_le (by omega)]
  rfl
theorem ones_more (t : List UInt8) {k n : Nat} (h : k ≤ n) : ∃ r, Co.ones t n = Co.ones t k ++ r := by
  obtain ⟨d, rfl⟩ : ∃ d, n = k + d := ⟨n - k, by omega⟩
  refine ⟨(List.range d).map fun i => Co.word t (4 + 2 * (k + i)), ?_⟩
  unfold Co.ones
  rw [List.range_add, List.map_append, List.map_map]; rfl
theorem kern_no {t : List UInt8} {n k : Nat} (hk : k < n) (h : (gall t (Co.ones t (4 * k))).2 = 0) (hg : (gall t (quad t k)).2 ≠ 0) : (gall t (Co.ones t (4 * n))).2 = (gall t (quad t k)).2 := by
  have e : gall t (Co.ones t (4 * (k + 1))) = ([], (gall t (quad t k)).2) := by
    rw [ones_quad, gall_app t _ _ h, if_pos hg]
  obtain ⟨r, hr⟩ := ones_more t (k := 4 * (k + 1)) (n := 4 * n) (by omega)
  rw [hr, gall_err t _ _ (by rw [e]; exact hg), e]

/-! Put: a stair's numbers. -/
def ssS (n : Nat) : List Int := [2] ++ (List.replicate n [-2, 2]).flatten
def vsS (h : Nat) (l : List Int) : List Int := [(h : Int)] ++ l.flatMap fun v => [v, 0]
theorem ssS_succ (n : Nat) : ssS (n + 1) = ssS n ++ [-2, 2] := by
  unfold ssS
  rw [List.replicate_succ', List.flatten_append, List.append_assoc]; rfl
theorem ssS_len (n : Nat) : (ssS n).length = 1 + 2 * n := by
  induction n with
  | zero => rfl
  | succ n ih => rw [ssS_succ, List.length_append, ih]; simp; omega
theorem vsS_snoc (h : Nat) {l : List Int} {k : Nat} (hk : k < l.length) : vsS h (l.take (k + 1)) = vsS h (l.take k) ++ [l.getD k 0, 0] := by
  unfold vsS
  rw [takeI_snoc hk, List.flatMap_append, List.append_assoc]; simp
theorem vsS_len (h : Nat) (l : List Int) : (vsS h l).length = 1 + 2 * l.length := by
  unfold vsS
  rw [List.length_append]
  simp only [List.length_cons, List.length_nil]
  induction l with
  | nil => rfl
  | cons x r ih => rw [List.flatMap_cons, List.length_append, List.length_cons, List.length_cons, List.length_cons, List.length_nil]; omega
theorem restS_join : ∀ l : List Int, join ((List.replicate l.length [-2, 2]).flatten) (l.flatMap fun v => [v, 0]) = nums l
  | [] => rfl
  | x :: r => by
    have ih := restS_join r
    rw [List.length_cons, List.replicate_succ, List.flatten_cons, List.flatMap_cons]
    show join (-2 :: 2 :: (List.replicate r.length [-2, 2]).flatten) (x :: 0 :: r.flatMap fun v => [v, 0]) = _
    rw [join, join, ih, nums, List.append_assoc]; rfl
theorem restS_fit : ∀ l : List Int, (∀ x ∈ l, fits x (-2) = true) → allFit ((List.replicate l.length [-2, 2]).flatten) (l.flatMap fun v => [v, 0]) = true
  | [], _ => rfl
  | x :: r, h => by
    have ih := restS_fit r fun y hy => h y (List.mem_cons_of_mem _ hy)
    rw [List.length_cons, List.replicate_succ, List.flatten_cons, List.flatMap_cons]
    show allFit (-2 :: 2 :: (List.replicate r.length [-2, 2]).flatten) (x :: 0 :: r.flatMap fun v => [v, 0]) = _
    rw [allFit, allFit, ih, h x (by simp)]; rfl
theorem ssS_sizes (n : Nat) : allSizes (ssS n) = true := by
  induction n with
  | zero => rfl
  | succ n ih => unfold allSizes at *; rw [ssS_succ, List.all_append, ih]; rfl
theorem binS_put {x : Stair} (h : isS x = true) (hk : x.2 ≠ []) : Bn.put (ssS (x.1 ++ x.2).length) (vsS x.1.length (x.1 ++ x.2)) = (sb x, 0) := by
  obtain ⟨h1, h2, h3, h4, _⟩ := isS_has h hk
  have hall : ∀ v ∈ x.1 ++ x.2, fits v (-2) = true := fun v hv => (List.mem_append.1 hv).elim (h3 v) (h4 v)
  have hf : allFit (ssS (x.1 ++ x.2).length) (vsS x.1.length (x.1 ++ x.2)) = true := by
    show allFit (2 :: (List.replicate (x.1 ++ x.2).length [-2, 2]).flatten) ((x.1.length : Int) :: (x.1 ++ x.2).flatMap fun v => [v, 0]) = true
    rw [allFit, restS_fit _ hall, Co.fits2 (by omega) (by omega)]; rfl
  unfold Bn.put
  rw [if_neg (by rw [ssS_sizes, ssS_len, vsS_len]; simp), if_neg (by rw [hf]; simp)]
  rw [Prod.mk.injEq]
  refine ⟨?_, rfl⟩
  show join (2 :: (List.replicate (x.1 ++ x.2).length [-2, 2]).flatten) ((x.1.length : Int) :: (x.1 ++ x.2).flatMap fun v => [v, 0]) = _
  rw [join, restS_join, show (2 : Int).natAbs = 2 from rfl]
  unfold sb
  rw [if_neg hk]
theorem sb_len {x : Stair} (h : isS x = true) : (sb x).length ≤ 518 := by
  by_cases hk : x.2 = []
  · unfold sb; rw [if_pos hk]; simp
  · obtain ⟨h1, h2, _⟩ := isS_has h hk
    unfold sb
    rw [if_neg hk, List.length_append, bytes_len, nums_len, List.length_append]; omega
theorem sb_none {x : Stair} (h : x.2 = []) : sb x = [] := by unfold sb; rw [if_pos h]

/-! Put: all stairs. -/
theorem sbs_app : ∀ (a b : List Stair), sbs (a ++ b) = sbs a ++ sbs b
  | [], _ => rfl
  | x :: r, b => by rw [List.cons_append, sbs, sbs, sbs_app r b, List.append_assoc]
theorem offs_app : ∀ (a b : List Stair) (p : Nat), offs p (a ++ b) = offs p a ++ offs (p + (sbs a).length) b
  | [], _, _ => rfl
  | x :: r, b, p => by
    rw [List.cons_append, offs, offs, offs_app r b, sbs, List.length_append, List.cons_append, Nat.add_assoc]
def off (p : Nat) (a : List Stair) (x : Stair) : Int := if x.2 = [] then 0 else ((p + (sbs a).length : Nat) : Int)
theorem offs_snoc (p : Nat) (a : List Stair) (x : Stair) : offs p (a ++ [x]) = offs p a ++ [off p a x] := by
  rw [offs_app]; rfl
theorem stairs_app : ∀ (a b : List Kern), stairs (a ++ b) = stairs a ++ stairs b
  | [], _ => rfl
  | x :: r, b => by rw [List.cons_append, stairs, stairs, stairs_app r b, List.append_assoc]
/-- The stairs so far: of k kerns, and j of the next one's. -/
def upTo (l : List Kern) (k j : Nat) : List Stair := stairs (l.take k) ++ (l.getD k zK).2.take j
theorem upTo_start (l : List Kern) : upTo l 0 0 = [] := rfl
theorem upTo_step {l : List Kern} {k j : Nat} (hj : j < (l.getD k zK).2.length) : upTo l k (j + 1) = upTo l k j ++ [(l.getD k zK).2.getD j zS] := by
  unfold upTo
  rw [takeS_snoc hj, List.append_assoc]
theorem upTo_next {l : List Kern} {k n : Nat} (hk : k < l.length) (hj : (l.getD k zK).2.length = n) : upTo l k n = upTo l (k + 1) 0 := by
  unfold upTo
  rw [← hj, List.take_length, takeK_snoc hk, stairs_app, List.take_zero, List.append_nil]
  simp [stairs]
theorem upTo_all (l : List Kern) : upTo l l.length 0 = stairs l := by
  unfold upTo
  rw [List.take_length, List.take_zero, List.append_nil]
theorem upTo_more {l : List Kern} {k j : Nat} (hk : k < l.length) : ∃ r, stairs l = upTo l k j ++ r := by
  refine ⟨(l.getD k zK).2.drop j ++ stairs (l.drop (k + 1)), ?_⟩
  unfold upTo
  have e : l = l.take k ++ ([l.getD k zK] ++ l.drop (k + 1)) := by
    rw [← List.append_assoc, ← takeK_snoc hk, List.take_append_drop]
  conv => lhs; rw [e]
  rw [stairs_app, stairs_app]
  simp only [stairs, List.append_nil, List.append_assoc]
  rw [← List.append_assoc ((l.getD k zK).2.take j), List.take_append_drop]
theorem upTo_len {l : List Kern} (h : isK l = true) {k j : Nat} (hk : k ≤ l.length) (hj : j ≤ 4) (hjk : j = 0 ∨ k < l.length) : (upTo l k j).length = 4 * k + j := by
  have h4 := ((isK_iff l).1 h).1
  unfold upTo
  rw [List.length_append, stairs_len _ fun x hx => (h4 x (List.mem_of_mem_take hx)).1, List.length_take, List.length_take]
  rcases hjk with rfl | hjk
  · omega
  · rw [(h4 _ (getK_mem hjk)).1]; omega
theorem upTo_next4 {l : List Kern} (h : isK l = true) {k : Nat} (hk : k < l.length) : upTo l k 4 = upTo l (k + 1) 0 := upTo_next hk (((isK_iff l).1 h).1 _ (getK_mem hk)).1
theorem kern_four {l : List Kern} (h : isK l = true) {k : Nat} (hk : k < l.length) : (l.getD k zK).2.length = 4 := (((isK_iff l).1 h).1 _ (getK_mem hk)).1
theorem kern_is {l : List Kern} (h : isK l = true) {k j : Nat} (hk : k < l.length) (hj : j < 4) : isS ((l.getD k zK).2.getD j zS) = true :=
  (((isK_iff l).1 h).1 _ (getK_mem hk)).2 _ (getS_mem (by rw [kern_four h hk]; exact hj))
/-- An offset that two bytes don't hold. -/
theorem put_far {l : List Kern} (h : isK l = true) {k j : Nat} (hk : k < l.length) (hj : j < 4) (hf : 65535 < off (base l) (upTo l k j) ((l.getD k zK).2.getD j zS)) : put l = ([], 7) := by
  obtain ⟨r, hr⟩ := upTo_more (j := j + 1) hk
  have hs := upTo_step (l := l) (k := k) (j := j) (by rw [kern_four h hk]; exact hj)
  unfold put
  rw [if_neg (by rw [h]; simp), if_pos ?_]
  refine .inr (List.any_eq_true.2 ⟨off (base l) (upTo l k j) ((l.getD k zK).2.getD j zS), ?_, by simpa using hf⟩)
  rw [hr, offs_app, hs, offs_snoc]
  simp
theorem put_bad {l : List Kern} (h : isK l = false) : put l = ([], 1) := by unfold put; rw [if_pos h]
theorem put_long {l : List Kern} (h : isK l = true) (hn : 8191 < l.length) : put l = ([], 7) := by unfold put; rw [if_neg (by rw [h]; simp), if_pos (.inl (by omega))]
theorem put_yes {l : List Kern} (h : isK l = true) (hn : l.length ≤ 8191) (ho : ∀ o ∈ offs (base l) (stairs l), o ≤ 65535) : put l = (out l, 0) := by
  unfold put
  rw [if_neg (by rw [h]; simp), if_neg ?_]
  rintro (c | c)
  · omega
  · obtain ⟨o, h1, h2⟩ := List.any_eq_true.1 c
    have := ho o h1
    simp only [decide_eq_true_eq] at h2
    omega
/-- What stands so far is short while all offsets have room. -/
theorem base_lim {l : List Kern} (h : isK l = true) (hn : l.length ≤ 8191) : base l ≤ 100000 := by
  have h1 := (Co.put_cov ((isK_iff l).1 h).2).2.1
  rw [glyphs_len] at h1
  unfold base
  omega
theorem so_far : ∀ (a : List Stair) (p : Nat), (∀ x ∈ a, isS x = true) → (∀ o ∈ offs p a, o ≤ 65535) → p + (sbs a).length ≤ max p 66100
  | [], p, _, _ => by simp [sbs]; omega
  | x :: r, p, h, ho => by
    rw [offs] at ho
    rw [sbs, List.length_append]
    have ih := so_far r (p + (sb x).length) (fun y hy => h y (List.mem_cons_of_mem _ hy)) (fun o h => ho o (List.mem_cons_of_mem _ h))
    by_cases c : x.2 = []
    · rw [sb_none c] at ih ⊢
      simpa using ih
    · have h1 := ho (p : Int) (by rw [if_neg c]; simp)
      have h2 := sb_len (h x (by simp))
      omega
theorem upTo_is {l : List Kern} (h : isK l = true) {k j : Nat} (hk : k < l.length) : ∀ x ∈ upTo l k j, isS x = true := by
  intro x hx
  have h4 := ((isK_iff l).1 h).1
  unfold upTo at hx
  rcases List.mem_append.1 hx with hx | hx
  · obtain ⟨y, hy, hxy⟩ := stairs_mem _ _ hx
    exact (h4 y (List.mem_of_mem_take hy)).2 x hxy
  · exact (h4 _ (getK_mem hk)).2 x (List.mem_of_mem_take hx)
theorem far_lim {l : List Kern} (h : isK l = true) (hn : l.length ≤ 8191) {k j : Nat} (hk : k < l.length) (ho : ∀ o ∈ offs (base l) (upTo l k j), o ≤ 65535) : base l + (sbs (upTo l k j)).length ≤ 100000 := by
  have h1 := so_far (upTo l k j) (base l) (upTo_is h hk) ho
  have h2 := base_lim h hn
  omega
/-- Sizes and fields of the offsets' table. -/
def fsK (l : List Kern) (a : List Stair) : List Int := [((4 + 8 * l.length : Nat) : Int), (l.length : Int)] ++ offs (base l) a
theorem fsK_snoc (l : List Kern) (a : List Stair) (x : Stair) : fsK l (a ++ [x]) = fsK l a ++ [off (base l) a x] := by
  unfold fsK
  rw [offs_snoc, List.append_assoc]
theorem fsK_len (l : List Kern) (a : List Stair) : (fsK l a).length = 2 + a.length := by
  unfold fsK
  rw [List.length_append, offs_len]
  simp
theorem sz_snoc (n : Nat) : Co.sz (n + 1) = Co.sz n ++ [2] := List.replicate_succ'
theorem flat_join : ∀ l : List Int, join (Co.sz l.length) l = Co.flat l
  | [] => rfl
  | x :: r => by
    rw [List.length_cons, Co.sz_succ, join, flat_join r, Co.flat]; rfl
theorem flat_fit : ∀ l : List Int, (∀ x ∈ l, 0 ≤ x ∧ x ≤ 65535) → allFit (Co.sz l.length) l = true
  | [], _ => rfl
  | x :: r, h => by
    have hx := h x (by simp)
    rw [List.length_cons, Co.sz_succ, allFit, flat_fit r fun y hy => h y (List.mem_cons_of_mem _ hy), Co.fits2 hx.1 (by omega)]; rfl
theorem flat_put {l : List Int} (h : ∀ x ∈ l, 0 ≤ x ∧ x ≤ 65535) : Bn.put (Co.sz l.length) l = (Co.flat l, 0) := by
  unfold Bn.put
  rw [if_neg (by rw [Co.sz_sizes, Co.sz_len]; simp), if_neg (by rw [flat_fit l h]; simp), flat_join]
theorem fsK_put {l : List Kern} (h : isK l = true) (hn : l.length ≤ 8191) (ho : ∀ o ∈ offs (base l) (stairs l), o ≤ 65535) :
    Bn.put (Co.sz (2 + 4 * l.length)) (fsK l (stairs l)) = (bytes (4 + 8 * l.length : Nat) 2 ++ bytes l.length 2 ++ Co.flat (offs (base l) (stairs l)), 0) := by
  have hl : (fsK l (stairs l)).length = 2 + 4 * l.length := by rw [fsK_len, stairs_len l fun x hx => (((isK_iff l).1 h).1 x hx).1]
  have := flat_put (l := fsK l (stairs l)) fun x hx => by
    unfold fsK at hx
    rcases List.mem_append.1 hx with hx | hx
    · simp only [List.mem_cons, List.not_mem_nil, or_false] at hx
      rcases hx with rfl | rfl <;> omega
    · exact ⟨offs_pos _ _ x hx, ho x hx⟩
  rw [hl] at this
  rw [this]
  unfold fsK
  show (Co.flat (((4 + 8 * l.length : Nat) : Int) :: (l.length : Int) :: offs (base l) (stairs l)), (0 : Int)) = _
  rw [Co.flat, Co.flat]
  simp only [List.append_assoc]
end Cu
