/-
  Plain functions on bytes (layer 6, hmtx), with nothing of the program: metrics, got and put; facts on them. No conditions beyond those stated.
-/
import Derived.Test.YtfnpindohoflaaaHeMath
namespace Hm
open Bn He

/-- A metric: how wide, and where from. -/
abbrev Metric := Int × Int
def at0 (l : List Metric) (i : Nat) : Metric := l.getD i (0, 0)
/-- The metric of glyph i, out of a table of m metrics. -/
def cell (s : List UInt8) (m i : Nat) : Metric :=
  if i < m then (fld s (4 * i) 2, fld s (4 * i + 2) (-2)) else (fld s (4 * (m - 1)) 2, fld s (4 * m + 2 * (i - m)) (-2))
def get (s : List UInt8) (glyphs metrics : Int) : List Metric × Int :=
  if glyphs < 1 ∨ 65535 < glyphs ∨ metrics < 1 ∨ glyphs < metrics then ([], 1)
  else if (s.length : Int) < 4 * metrics + 2 * (glyphs - metrics) then ([], 4)
  else ((List.range glyphs.toNat).map (cell s metrics.toNat), 0)
/-- The least number of metrics that will do, of the first n. -/
def down (l : List Metric) : Nat → Nat
  | 0 => 0
  | 1 => 1
  | n + 2 => if (at0 l n).1 = (at0 l (n + 1)).1 then down l (n + 1) else n + 2
def least (l : List Metric) : Nat := down l l.length
def fit (x : Metric) : Bool := fits x.1 2 && fits x.2 (-2)
def full : List Metric → List UInt8
  | [] => []
  | x :: r => bytes x.1 2 ++ bytes x.2 2 ++ full r
def sides : List Metric → List UInt8
  | [] => []
  | x :: r => bytes x.2 2 ++ sides r
def out (l : List Metric) (n : Nat) : List UInt8 := full (l.take n) ++ sides (l.drop n)
def put (l : List Metric) : List UInt8 × Nat × Int :=
  if l.length < 1 ∨ 65535 < l.length then ([], 0, 1)
  else if l.all fit = false then ([], 0, 2)
  else (out l (least l), least l, 0)

theorem full_len : ∀ l : List Metric, (full l).length = 4 * l.length
  | [] => rfl
  | x :: r => by rw [full, List.length_append, List.length_append, bytes_len, bytes_len, full_len r, List.length_cons]; omega
theorem sides_len : ∀ l : List Metric, (sides l).length = 2 * l.length
  | [] => rfl
  | x :: r => by rw [sides, List.length_append, bytes_len, sides_len r, List.length_cons]; omega
theorem full_append : ∀ a b : List Metric, full (a ++ b) = full a ++ full b
  | [], b => rfl
  | x :: r, b => by rw [List.cons_append, full, full, full_append r b]; simp only [List.append_assoc]
theorem sides_append : ∀ a b : List Metric, sides (a ++ b) = sides a ++ sides b
  | [], b => rfl
  | x :: r, b => by rw [List.cons_append, sides, sides, sides_append r b, List.append_assoc]
theorem split_at {l : List Metric} {i : Nat} (hi : i < l.length) : l = l.take i ++ at0 l i :: l.drop (i + 1) := by
  rw [show at0 l i = l[i] by simp [at0, List.getD, List.getElem?_eq_getElem hi], ← List.drop_eq_getElem_cons hi, List.take_append_drop]
theorem out_len {l : List Metric} {n : Nat} (h : n ≤ l.length) : (out l n).length = 2 * n + 2 * l.length := by
  unfold out
  rw [List.length_append, full_len, sides_len, List.length_take, List.length_drop]; omega

theorem down_le (l : List Metric) : ∀ n, down l n ≤ n
  | 0 => Nat.le_refl _
  | 1 => Nat.le_refl _
  | n + 2 => by
    rw [down]
    by_cases h : (at0 l n).1 = (at0 l (n + 1)).1
    · rw [if_pos h]; have := down_le l (n + 1); omega
    · rw [if_neg h]; exact Nat.le_refl _
theorem down_pos (l : List Metric) : ∀ n, 1 ≤ n → 1 ≤ down l n
  | 0, h => by omega
  | 1, _ => Nat.le_refl _
  | n + 2, _ => by
    rw [down]
    by_cases h : (at0 l n).1 = (at0 l (n + 1)).1
    · rw [if_pos h]; exact down_pos l (n + 1) (by omega)
    · rw [if_neg h]; omega
/-- Behind the last metric all are as wide. -/
theorem down_same (l : List Metric) : ∀ n i, down l n ≤ i + 1 → i < n → (at0 l i).1 = (at0 l (down l n - 1)).1
  | 0, i, _, hi => by omega
  | 1, i, _, hi => by
    obtain rfl : i = 0 := by omega
    rfl
  | n + 2, i, hd, hi => by
    rw [down] at hd ⊢
    by_cases h : (at0 l n).1 = (at0 l (n + 1)).1
    · rw [if_pos h] at hd ⊢
      by_cases e : i = n + 1
      · subst e
        rw [← h]
        exact down_same l (n + 1) n (by have := down_le l (n + 1); omega) (by omega)
      · exact down_same l (n + 1) i hd (by omega)
    · rw [if_neg h] at hd ⊢
      rw [show i = n + 1 by omega]
      rfl
theorem down_ne (l : List Metric) : ∀ n, 2 ≤ down l n → (at0 l (down l n - 2)).1 ≠ (at0 l (down l n - 1)).1
  | 0, h => by rw [down] at h; omega
  | 1, h => by rw [down] at h; omega
  | n + 2, h => by
    rw [down] at h ⊢
    by_cases hc : (at0 l n).1 = (at0 l (n + 1)).1
    · rw [if_pos hc] at h ⊢; exact down_ne l (n + 1) h
    · rw [if_neg hc]; exact hc
/-- It is the least. -/
theorem least_le (l : List Metric) (m : Nat) (h1 : 1 ≤ m) (h : ∀ i, m ≤ i + 1 → i < l.length → (at0 l i).1 = (at0 l (m - 1)).1) (_hm : m ≤ l.length) : least l ≤ m := by
  rcases Nat.lt_or_ge m (least l) with hlt | hge
  · exfalso
    have hle : least l ≤ l.length := down_le l _
    have := down_ne l l.length (show 2 ≤ down l l.length by unfold least at hlt; omega)
    unfold least at *
    exact this (by rw [h _ (by omega) (by omega), h (down l l.length - 1) (by omega) (by omega)])
  · exact hge

theorem fit_iff (x : Metric) : fit x = true ↔ fits x.1 2 = true ∧ fits x.2 (-2) = true := by unfold fit; simp
theorem out_cell {l : List Metric} {n : Nat} (hn1 : 1 ≤ n) (hn : n ≤ l.length) (hf : l.all fit = true) (hsame : ∀ i, n ≤ i + 1 → i < l.length → (at0 l i).1 = (at0 l (n - 1)).1) (more : List UInt8) {i : Nat} (hi : i < l.length) : cell (out l n ++ more) n i = at0 l i := by
  have hfi : ∀ j, j < l.length → fits (at0 l j).1 2 = true ∧ fits (at0 l j).2 (-2) = true := by
    intro j hj
    refine (fit_iff _).1 (List.all_eq_true.1 hf _ ?_)
    simp [at0, List.getD, List.getElem?_eq_getElem hj]
  have hlow : ∀ j, j < n → fld (out l n ++ more) (4 * j) 2 = (at0 l j).1 ∧ fld (out l n ++ more) (4 * j + 2) (-2) = (at0 l j).2 := by
    intro j hj
    obtain ⟨f1, f2⟩ := hfi j (by omega)
    have ht : l.take n = (l.take n).take j ++ at0 l j :: (l.take n).drop (j + 1) := by
      have := split_at (l := l.take n) (i := j) (by rw [List.length_take]; omega)
      rw [show at0 (l.take n) j = at0 l j by simp [at0, List.getD, List.getElem?_take_of_lt hj]] at this
      exact this
    have e : out l n ++ more = full ((l.take n).take j) ++ (bytes (at0 l j).1 2 ++ (bytes (at0 l j).2 2 ++ (full ((l.take n).drop (j + 1)) ++ (sides (l.drop n) ++ more)))) := by
      unfold out
      conv => lhs; rw [ht]
      rw [full_append, full]
      simp only [List.append_assoc]
    have hl4 : (full ((l.take n).take j)).length = 4 * j := by rw [full_len, List.length_take, List.length_take]; omega
    constructor
    · exact fld_at (full ((l.take n).take j)) (bytes (at0 l j).2 2 ++ (full ((l.take n).drop (j + 1)) ++ (sides (l.drop n) ++ more))) _ 2 _ (by rw [e, List.append_assoc]; rfl) hl4 (by decide) f1
    · exact fld_at (full ((l.take n).take j) ++ bytes (at0 l j).1 2) (full ((l.take n).drop (j + 1)) ++ (sides (l.drop n) ++ more)) _ (-2) _ (by rw [e]; simp only [List.append_assoc]; rfl) (by rw [List.length_append, hl4, bytes_len]) (by decide) f2
  unfold cell
  by_cases h : i < n
  · rw [if_pos h, (hlow i h).1, (hlow i h).2]
  · rw [if_neg h, (hlow (n - 1) (by omega)).1, ← hsame i (by omega) hi]
    have ht : l.drop n = (l.drop n).take (i - n) ++ at0 l i :: (l.drop n).drop (i - n + 1) := by
      have := split_at (l := l.drop n) (i := i - n) (by rw [List.length_drop]; omega)
      rw [show at0 (l.drop n) (i - n) = at0 l i by simp [at0, List.getD, List.getElem?_drop, show n + (i - n) = i by omega]] at this
      exact this
    have e : out l n ++ more = full (l.take n) ++ sides ((l.drop n).take (i - n)) ++ (bytes (at0 l i).2 2 ++ (sides ((l.drop n).drop (i - n + 1)) ++ more)) := by
      unfold out
      conv => lhs; rw [ht]
      rw [sides_append, sides]
      simp only [List.append_assoc]
    have := fld_at (s := out l n ++ more) (full (l.take n) ++ sides ((l.drop n).take (i - n))) (sides ((l.drop n).drop (i - n + 1)) ++ more) (at0 l i).2 (-2) (4 * n + 2 * (i - n)) (by rw [e]; simp only [List.append_assoc]; rfl)
      (by rw [List.length_append, full_len, sides_len, List.length_take, List.length_take, List.length_drop]; omega) (by decide) (hfi i hi).2
    rw [this]
theorem out_rows {l : List Metric} {n : Nat} (hn1 : 1 ≤ n) (hn : n ≤ l.length) (hf : l.all fit = true) (hsame : ∀ i, n ≤ i + 1 → i < l.length → (at0 l i).1 = (at0 l (n - 1)).1) (more : List UInt8) : (List.range l.length).map (cell (out l n ++ more) n) = l := by
  apply List.ext_getElem
  · simp
  · intro j h1 h2
    simp only [List.getElem_map, List.getElem_range]
    rw [out_cell hn1 hn hf hsame more h2]
    simp [at0, List.getD, List.getElem?_eq_getElem h2]
theorem put_ok {l : List Metric} (h : (put l).2.2 = 0) : (1 ≤ l.length ∧ l.length ≤ 65535) ∧ l.all fit = true ∧ (put l).1 = out l (least l) ∧ (put l).2.1 = least l := by
  unfold put at *
  by_cases c1 : l.length < 1 ∨ 65535 < l.length
  · rw [if_pos c1] at h; cases h
  · rw [if_neg c1] at h ⊢
    by_cases c2 : l.all fit = false
    · rw [if_pos c2] at h; cases h
    · rw [if_neg c2]; exact ⟨by omega, by simpa using c2, rfl, rfl⟩
theorem put_refused {l : List Metric} (h : (put l).2.2 ≠ 0) : (put l).1 = [] ∧ (put l).2.1 = 0 := by
  unfold put at *
  by_cases c1 : l.length < 1 ∨ 65535 < l.length
  · rw [if_pos c1]; exact ⟨rfl, rfl⟩
  · rw [if_neg c1] at h ⊢
    by_cases c2 : l.all fit = false
    · rw [if_pos c2]; exact ⟨rfl, rfl⟩
    · rw [if_neg c2] at h; exact absurd rfl h
/-- What is put is got, whatever stands behind. -/
theorem get_put {l : List Metric} (h : (put l).2.2 = 0) (more : List UInt8) : get ((put l).1 ++ more) l.length (put l).2.1 = (l, 0) ∧ 1 ≤ (put l).2.1 ∧ (put l).2.1 ≤ l.length ∧ (put l).1.length = 2 * (put l).2.1 + 2 * l.length ∧
    ((put l).2.1 < 2 ∨ (at0 l ((put l).2.1 - 2)).1 ≠ (at0 l ((put l).2.1 - 1)).1) := by
  obtain ⟨⟨h1, h2⟩, hf, e1, e2⟩ := put_ok h
  rw [e1, e2]
  have hn1 : 1 ≤ least l := down_pos l _ h1
  have hn : least l ≤ l.length := down_le l _
  have hlen := out_len hn
  refine ⟨?_, hn1, hn, hlen, ?_⟩
  · unfold get
    rw [if_neg (by omega), if_neg (by rw [List.length_append, hlen]; omega), Int.toNat_natCast, Int.toNat_natCast]
    rw [out_rows hn1 hn hf (fun i a b => down_same l _ i a b) more]
  · rcases Nat.lt_or_ge (least l) 2 with h3 | h3
    · exact .inl h3
    · exact .inr (down_ne l _ h3)
theorem fld_fits (s : List UInt8) (pos : Nat) (size : Int) (hz : isSize size = true) (h : pos + size.natAbs ≤ s.length) : fits (fld s pos size) size = true :=
  one_fits _ _ hz (by rw [List.length_take, List.length_drop]; omega)
theorem get_ok {s : List UInt8} {glyphs metrics : Int} (h : (get s glyphs metrics).2 = 0) : (1 ≤ glyphs ∧ glyphs ≤ 65535) ∧ (1 ≤ metrics ∧ metrics ≤ glyphs) ∧ 4 * metrics + 2 * (glyphs - metrics) ≤ s.length ∧ (get s glyphs metrics).1 = (List.range glyphs.toNat).map (cell s metrics.toNat) := by
  unfold get at *
  by_cases c1 : glyphs < 1 ∨ 65535 < glyphs ∨ metrics < 1 ∨ glyphs < metrics
  · rw [if_pos c1] at h; cases h
  · rw [if_neg c1] at h ⊢
    by_cases c2 : (s.length : Int) < 4 * metrics + 2 * (glyphs - metrics)
    · rw [if_pos c2] at h; cases h
    · rw [if_neg c2]; exact ⟨by omega, by omega, by omega, rfl⟩
theorem get_none {s : List UInt8} {glyphs metrics : Int} (h : (get s glyphs metrics).2 ≠ 0) : (get s glyphs metrics).1 = [] := by
  unfold get at *
  by_cases c1 : glyphs < 1 ∨ 65535 < glyphs ∨ metrics < 1 ∨ glyphs < metrics
  · rw [if_pos c1]
  · rw [if_neg c1] at h ⊢
    by_cases c2 : (s.length : Int) < 4 * metrics + 2 * (glyphs - metrics)
    · rw [if_pos c2]
    · rw [if_neg c2] at h; exact absurd rfl h
/-- What is got is put in no more bytes, and got again as it was. -/
theorem get_again {s : List UInt8} {g m : Nat} (h : (get s g m).2 = 0) : (get s g m).1.length = g ∧ (put (get s g m).1).2.2 = 0 ∧ (put (get s g m).1).2.1 ≤ m ∧ (put (get s g m).1).1.length ≤ s.length ∧
    get (put (get s g m).1).1 g (put (get s g m).1).2.1 = ((get s g m).1, 0) ∧ ∀ i, m ≤ i → i < g → (at0 (get s g m).1 i).1 = (at0 (get s g m).1 (m - 1)).1 := by
  obtain ⟨⟨g1, g2⟩, ⟨m1, m2⟩, hs, e⟩ := get_ok h
  rw [Int.toNat_natCast, Int.toNat_natCast] at e
  have hlen : (get s g m).1.length = g := by rw [e]; simp
  have hat : ∀ i, i < g → at0 (get s g m).1 i = cell s m i := fun i hi => by rw [e]; simp [at0, List.getD, hi]
  have hfit : (get s g m).1.all fit = true := by
    rw [List.all_eq_true]
    intro x hx
    obtain ⟨i, hi, rfl⟩ := List.mem_iff_getElem.1 hx
    have hi' : i < g := by omega
    rw [show (get s g m).1[i] = at0 (get s g m).1 i by simp [at0, List.getD, List.getElem?_eq_getElem hi], hat i hi', fit_iff]
    unfold cell
    by_cases c : i < m
    · rw [if_pos c]; exact ⟨fld_fits _ _ _ (by decide) (by simp; omega), fld_fits _ _ _ (by decide) (by simp; omega)⟩
    · rw [if_neg c]; exact ⟨fld_fits _ _ _ (by decide) (by simp; omega), fld_fits _ _ _ (by decide) (by simp; omega)⟩
  have hsame : ∀ i, m ≤ i + 1 → i < (get s g m).1.length → (at0 (get s g m).1 i).1 = (at0 (get s g m).1 (m - 1)).1 := by
    intro i h1 h2
    rw [hat i (by omega), hat (m - 1) (by omega)]
    unfold cell
    rw [if_pos (show m - 1 < m by omega)]
    by_cases c : i < m
    · rw [if_pos c, show i = m - 1 by omega]
    · rw [if_neg c]
  have hp : put (get s g m).1 = (out (get s g m).1 (least (get s g m).1), least (get s g m).1, 0) := by
    unfold put
    rw [if_neg (by omega), if_neg (by rw [hfit]; simp)]
  have hok : (put (get s g m).1).2.2 = 0 := by rw [hp]
  obtain ⟨b1, b2, b3, b4, _⟩ := get_put hok []
  rw [List.append_nil, hlen] at b1
  have hle : (put (get s g m).1).2.1 ≤ m := by rw [hp]; exact least_le _ m (by omega) hsame (by omega)
  exact ⟨hlen, hok, hle, by rw [b4, hlen]; omega, b1, fun i h1 h2 => hsame i (by omega) (by omega)⟩
end Hm
