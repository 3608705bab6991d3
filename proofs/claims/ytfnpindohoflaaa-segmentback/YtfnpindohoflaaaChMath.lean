/-
  Plain functions on bytes (layer 8, chart), with nothing of the program: spans of runes, got and put by formats 0 and 6; facts on them. No conditions beyond those stated.
-/
import Derived.Test.YtfnpindohoflaaaGlMath
namespace Ch
open Bn He

structure Span where
  fr : Int
  to : Int
  gl : Int
  st : Int
def okSpan (x : Span) : Bool :=
  decide (0 ≤ x.fr) && decide (x.fr ≤ x.to) && decide (x.to ≤ 1114111) && decide (0 ≤ x.st) && decide (x.st ≤ 1) && decide (0 ≤ x.gl) && decide (x.gl ≤ 65535) && decide (x.gl + x.st * (x.to - x.fr) ≤ 65535)
theorem okSpan_iff (x : Span) : okSpan x = true ↔ 0 ≤ x.fr ∧ x.fr ≤ x.to ∧ x.to ≤ 1114111 ∧ 0 ≤ x.st ∧ x.st ≤ 1 ∧ 0 ≤ x.gl ∧ x.gl ≤ 65535 ∧ x.gl + x.st * (x.to - x.fr) ≤ 65535 := by
  unfold okSpan
  simp only [Bool.and_eq_true, decide_eq_true_eq, and_assoc]
/-- Right spans, behind a rune. -/
def chain : Int → List Span → Bool
  | _, [] => true
  | p, x :: r => okSpan x && decide (p < x.fr) && chain x.to r
def isL (l : List Span) : Bool := chain (-1) l && decide (l.length ≤ 65536)
def glyphOf (x : Span) (c : Int) : Int := x.gl + x.st * (c - x.fr)
def look : List Span → Int → Int
  | [], _ => 0
  | x :: r, c => if x.fr ≤ c ∧ c ≤ x.to then glyphOf x c else look r c
def Look (l : List Span) (c : Int) : Int := if isL l = true then look l c else 0
theorem glyphOf_bound {x : Span} (h : okSpan x = true) {c : Int} (h1 : x.fr ≤ c) (h2 : c ≤ x.to) : 0 ≤ glyphOf x c ∧ glyphOf x c ≤ 65535 := by
  obtain ⟨a1, a2, a3, a4, a5, a6, a7, a8⟩ := (okSpan_iff x).1 h
  unfold glyphOf
  rcases (show x.st = 0 ∨ x.st = 1 by omega) with e | e
  · rw [e] at a8 ⊢; omega
  · rw [e] at a8 ⊢; omega
theorem look_bound : ∀ (l : List Span) (p : Int), chain p l = true → ∀ c, 0 ≤ look l c ∧ look l c ≤ 65535
  | [], _, _, _ => by simp [look]
  | x :: r, p, h, c => by
    simp only [chain, Bool.and_eq_true, decide_eq_true_eq] at h
    rw [look]
    by_cases e : x.fr ≤ c ∧ c ≤ x.to
    · rw [if_pos e]; exact glyphOf_bound h.1.1 e.1 e.2
    · rw [if_neg e]; exact look_bound r x.to h.2 c
theorem look_low : ∀ (l : List Span) (p : Int), chain p l = true → ∀ c, c ≤ p → look l c = 0
  | [], _, _, _, _ => rfl
  | x :: r, p, h, c, hc => by
    simp only [chain, Bool.and_eq_true, decide_eq_true_eq] at h
    obtain ⟨a1, a2, _⟩ := (okSpan_iff x).1 h.1.1
    rw [look, if_neg (by omega)]
    exact look_low r x.to h.2 c (by omega)

/-- One span for each rune that has a glyph, n runes from a on. -/
def spansOf (h : Int → Int) : Int → Nat → List Span
  | _, 0 => []
  | a, n + 1 => (if h a = 0 then [] else [⟨a, a, h a, 1⟩]) ++ spansOf h (a + 1) n
theorem spansOf_len (h : Int → Int) : ∀ (n : Nat) (a : Int), (spansOf h a n).length ≤ n
  | 0, _ => by simp [spansOf]
  | n + 1, a => by
    have := spansOf_len h n (a + 1)
    rw [spansOf, List.length_append]
    by_cases e : h a = 0
    · rw [if_pos e]; simp; omega
    · rw [if_neg e]; simp; omega
theorem look_spansOf (h : Int → Int) : ∀ (n : Nat) (a c : Int), look (spansOf h a n) c = if a ≤ c ∧ c < a + n then h c else 0
  | 0, a, c => by rw [spansOf, look, if_neg (by omega)]
  | n + 1, a, c => by
    rw [spansOf]
    by_cases e : h a = 0
    · rw [if_pos e, List.nil_append, look_spansOf h n]
      by_cases hc : c = a
      · rw [if_neg (by omega), if_pos (by omega), hc, e]
      · by_cases hr : a + 1 ≤ c ∧ c < a + 1 + n
        · rw [if_pos hr, if_pos (by omega)]
        · rw [if_neg hr, if_neg (by omega)]
    · rw [if_neg e, List.cons_append, List.nil_append, look]
      by_cases hc : c = a
      · rw [if_pos (by simp; omega), if_pos (by omega), hc]
        unfold glyphOf
        simp
      · rw [if_neg (by simp; omega), look_spansOf h n]
        by_cases hr : a + 1 ≤ c ∧ c < a + 1 + n
        · rw [if_pos hr, if_pos (by omega)]
        · rw [if_neg hr, if_neg (by omega)]
theorem chain_spansOf (h : Int → Int) (hb : ∀ c, 0 ≤ h c ∧ h c ≤ 65535) : ∀ (n : Nat) (a p : Int), p < a → 0 ≤ a → a + n ≤ 1114112 → chain p (spansOf h a n) = true
  | 0, _, _, _, _, _ => rfl
  | n + 1, a, p, hp, ha, hn => by
    have hba := hb a
    rw [spansOf]
    by_cases e : h a = 0
    · rw [if_pos e, List.nil_append]
      exact chain_spansOf h hb n (a + 1) p (by omega) (by omega) (by omega)
    · rw [if_neg e, List.cons_append, List.nil_append, chain]
      rw [chain_spansOf h hb n (a + 1) a (by omega) (by omega) (by omega)]
      have h1 : okSpan ⟨a, a, h a, 1⟩ = true := (okSpan_iff _).2 ⟨ha, by simp, by simp; omega, by simp, by simp, hba.1, hba.2, by simp; omega⟩
      rw [h1]
      simp
      omega
theorem isL_spansOf (h : Int → Int) (hb : ∀ c, 0 ≤ h c ∧ h c ≤ 65535) (n : Nat) (a : Int) (ha : 0 ≤ a) (hn : a + n ≤ 65536) : isL (spansOf h a n) = true := by
  unfold isL
  rw [chain_spansOf h hb n a (-1) (by omega) ha (by omega)]
  have := spansOf_len h n a
  simp
  omega
theorem spansOf_append (h : Int → Int) : ∀ (n : Nat) (a : Int) (m : Nat), spansOf h a (n + m) = spansOf h a n ++ spansOf h (a + n) m
  | 0, a, m => by simp [spansOf]
  | n + 1, a, m => by
    rw [show n + 1 + m = (n + m) + 1 by omega, spansOf, spansOf, spansOf_append h n (a + 1) m, List.append_assoc, show a + 1 + (n : Int) = a + ((n + 1 : Nat) : Int) by omega]
theorem spansOf_zero (h : Int → Int) : ∀ (n : Nat) (a : Int), (∀ c, a ≤ c → c < a + n → h c = 0) → spansOf h a n = []
  | 0, _, _ => rfl
  | n + 1, a, hz => by rw [spansOf, if_pos (hz a (by omega) (by omega)), List.nil_append, spansOf_zero h n (a + 1) fun c h1 h2 => hz c (by omega) (by omega)]
theorem spansOf_congr (h k : Int → Int) : ∀ (n : Nat) (a : Int), (∀ c, a ≤ c → c < a + n → h c = k c) → spansOf h a n = spansOf k a n
  | 0, _, _ => rfl
  | n + 1, a, he => by rw [spansOf, spansOf, he a (by omega) (by omega), spansOf_congr h k n (a + 1) fun c h1 h2 => he c (by omega) (by omega)]
/-- A wider row with nothing at its ends. -/
theorem spansOf_wider (h : Int → Int) (a b : Int) (n m : Nat) (h1 : b ≤ a) (h2 : a + n ≤ b + m) (hz : ∀ c, c < a ∨ a + n ≤ c → h c = 0) : spansOf h b m = spansOf h a n := by
  have e : m = (a - b).toNat + (n + (b + m - (a + n)).toNat) := by omega
  rw [e, spansOf_append, spansOf_append, spansOf_zero h (a - b).toNat b fun c _ hc => hz c (by omega), List.nil_append, show b + ((a - b).toNat : Int) = a by omega,
    spansOf_zero h _ (a + n) fun c hc _ => hz c (by omega), List.append_nil]
theorem spansOf_two (h : Int → Int) (a b : Int) (n m : Nat) (ha : ∀ c, c < a ∨ a + n ≤ c → h c = 0) (hb : ∀ c, c < b ∨ b + m ≤ c → h c = 0) : spansOf h a n = spansOf h b m := by
  have lo : min a b ≤ a ∧ min a b ≤ b := ⟨by omega, by omega⟩
  obtain ⟨k, hk⟩ : ∃ k : Nat, (k : Int) = max (a + n) (b + m) - min a b := ⟨(max (a + n) (b + m) - min a b).toNat, by omega⟩
  rw [← spansOf_wider h a (min a b) n k (by omega) (by omega) ha, spansOf_wider h b (min a b) m k (by omega) (by omega) hb]

/-- The first and the last rune that has a glyph; below 0: none has. -/
def endStep (p : Int × Int) (x : Span) : Int × Int :=
  if x.gl = 0 ∧ x.st = 0 ∨ x.to < (if x.gl = 0 then x.fr + 1 else x.fr) then p else (if p.1 < 0 then (if x.gl = 0 then x.fr + 1 else x.fr) else p.1, x.to)
def ends (l : List Span) : Int × Int := l.foldl endStep (-1, -1)
theorem ends_fold : ∀ (l : List Span) (p : Int) (q : Int × Int), chain p l = true → (q.1 < 0 ∨ q.1 ≤ q.2 ∧ q.2 ≤ p) →
    (0 ≤ q.1 → (l.foldl endStep q).1 = q.1 ∧ q.2 ≤ (l.foldl endStep q).2) ∧ (0 ≤ (l.foldl endStep q).1 → (l.foldl endStep q).1 ≤ (l.foldl endStep q).2) ∧
    ((l.foldl endStep q).2 ≤ 1114111 ∨ (l.foldl endStep q).2 = q.2) ∧ (∀ c, look l c ≠ 0 → 0 ≤ (l.foldl endStep q).1 ∧ (l.foldl endStep q).1 ≤ c ∧ c ≤ (l.foldl endStep q).2)
  | [], p, q, _, hq => by
    refine ⟨fun h => ⟨rfl, Int.le_refl _⟩, fun h => ?_, .inr rfl, fun c hc => absurd rfl hc⟩
    simp only [List.foldl_nil] at h ⊢
    omega
  | x :: r, p, q, h, hq => by
    simp only [chain, Bool.and_eq_true, decide_eq_true_eq] at h
    obtain ⟨⟨hx, hp⟩, hr⟩ := h
    obtain ⟨a1, a2, a3, a4, a5, a6, a7, a8⟩ := (okSpan_iff x).1 hx
    rw [List.foldl_cons]
    by_cases hs : x.gl = 0 ∧ x.st = 0 ∨ x.to < (if x.gl = 0 then x.fr + 1 else x.fr)
    · have es : endStep q x = q := by unfold endStep; rw [if_pos hs]
      rw [es]
      obtain ⟨i1, i2, i3, i4⟩ := ends_fold r x.to q hr (by omega)
      refine ⟨i1, i2, i3, fun c hc => ?_⟩
      rw [look] at hc
      by_cases e : x.fr ≤ c ∧ c ≤ x.to
      · exfalso
        rw [if_pos e] at hc
        apply hc
        unfold glyphOf
        rcases hs with ⟨g0, s0⟩ | hs
        · rw [g0, s0]; simp
        · by_cases g0 : x.gl = 0
          · rw [if_pos g0] at hs
            rw [g0, show c = x.fr by omega]; simp
          · rw [if_neg g0] at hs; omega
      · rw [if_neg e] at hc; exact i4 c hc
    · have es : endStep q x = (if q.1 < 0 then (if x.gl = 0 then x.fr + 1 else x.fr) else q.1, x.to) := by unfold endStep; rw [if_neg hs]
      rw [es]
      have hfr : x.fr ≤ (if x.gl = 0 then x.fr + 1 else x.fr) := by by_cases g0 : x.gl = 0 <;> simp [g0] <;> omega
      have hnt : (if x.gl = 0 then x.fr + 1 else x.fr) ≤ x.to := by
        rcases Int.lt_or_le x.to (if x.gl = 0 then x.fr + 1 else x.fr) with h1 | h1
        · exact absurd (.inr h1) hs
        · exact h1
      have hgl : ∀ c, x.fr ≤ c → c ≤ x.to → glyphOf x c ≠ 0 → (if x.gl = 0 then x.fr + 1 else x.fr) ≤ c := by
        intro c h1 h2 h3
        by_cases g0 : x.gl = 0
        · rw [if_pos g0]
          by_cases e : c = x.fr
          · exfalso; apply h3; unfold glyphOf; rw [g0, e]; simp
          · omega
        · rw [if_neg g0]; exact h1
      generalize (if x.gl = 0 then x.fr + 1 else x.fr) = f at *
      obtain ⟨i1, i2, i3, i4⟩ := ends_fold r x.to (if q.1 < 0 then f else q.1, x.to) hr (by
        by_cases e : q.1 < 0
        · rw [if_pos e]; exact .inr ⟨hnt, Int.le_refl _⟩
        · rw [if_neg e]; exact .inr ⟨by simp only; omega, Int.le_refl _⟩)
      have hq0 : 0 ≤ (if q.1 < 0 then f else q.1) := by
        by_cases e : q.1 < 0
        · rw [if_pos e]; omega
        · rw [if_neg e]; omega
      obtain ⟨j1, j2⟩ := i1 hq0
      simp only at j1 j2
      refine ⟨fun h0 => ⟨by rw [j1, if_neg (by omega)], by omega⟩, i2, ?_, fun c hc => ?_⟩
      · rcases i3 with h3 | h3
        · exact .inl h3
        · left; rw [h3]; exact a3
      · rw [look] at hc
        by_cases e : x.fr ≤ c ∧ c ≤ x.to
        · rw [if_pos e] at hc
          have := hgl c e.1 e.2 hc
          refine ⟨by rw [j1]; exact hq0, ?_, by omega⟩
          rw [j1]
          by_cases e2 : q.1 < 0
          · rw [if_pos e2]; exact this
          · rw [if_neg e2]; omega
        · rw [if_neg e] at hc; exact i4 c hc
theorem ends_spec {l : List Span} (h : isL l = true) : (0 ≤ (ends l).1 → (ends l).1 ≤ (ends l).2 ∧ (ends l).2 ≤ 1114111) ∧ ∀ c, look l c ≠ 0 → 0 ≤ (ends l).1 ∧ (ends l).1 ≤ c ∧ c ≤ (ends l).2 := by
  unfold isL at h
  simp only [Bool.and_eq_true, decide_eq_true_eq] at h
  obtain ⟨_, i2, i3, i4⟩ := ends_fold l (-1) (-1, -1) h.1 (.inl (by simp))
  refine ⟨fun h0 => ⟨i2 h0, ?_⟩, i4⟩
  rcases i3 with h3 | h3
  · exact h3
  · have := i2 h0
    unfold ends at *
    rw [h3] at this ⊢
    simp only at this ⊢
    omega

theorem spansOf_mem (h : Int → Int) : ∀ (n : Nat) (a : Int) (x : Span), x ∈ spansOf h a n → a ≤ x.fr ∧ x.to < a + n ∧ x.to = x.fr ∧ x.gl ≠ 0 ∧ x.st = 1
  | 0, _, _, hx => by simp [spansOf] at hx
  | n + 1, a, x, hx => by
    rw [spansOf, List.mem_append] at hx
    rcases hx with hx | hx
    · by_cases e : h a = 0
      · rw [if_pos e] at hx; simp at hx
      · rw [if_neg e] at hx
        simp only [List.mem_singleton] at hx
        subst hx
        exact ⟨Int.le_refl _, by simp only; omega, rfl, e, rfl⟩
    · obtain ⟨i1, i2, i3⟩ := spansOf_mem h n (a + 1) x hx
      exact ⟨by omega, by omega, i3⟩
theorem fold_in (lo hi : Int) : ∀ (l : List Span) (q : Int × Int), (∀ x ∈ l, lo ≤ x.fr ∧ x.to < hi) → (0 ≤ q.1 → lo ≤ q.1 ∧ q.2 < hi) → 0 ≤ (l.foldl endStep q).1 → lo ≤ (l.foldl endStep q).1 ∧ (l.foldl endStep q).2 < hi
  | [], q, _, hq, h0 => hq h0
  | x :: r, q, hl, hq, h0 => by
    rw [List.foldl_cons] at h0 ⊢
    refine fold_in lo hi r _ (fun y hy => hl y (by simp [hy])) ?_ h0
    obtain ⟨h1, h2⟩ := hl x (by simp)
    intro h3
    unfold endStep at *
    by_cases hs : x.gl = 0 ∧ x.st = 0 ∨ x.to < (if x.gl = 0 then x.fr + 1 else x.fr)
    · rw [if_pos hs] at h3 ⊢; exact hq h3
    · rw [if_neg hs] at h3 ⊢
      simp only at h3 ⊢
      refine ⟨?_, h2⟩
      by_cases e : q.1 < 0
      · rw [if_pos e]
        by_cases g0 : x.gl = 0
        · rw [if_pos g0]; omega
        · rw [if_neg g0]; exact h1
      · rw [if_neg e]; exact (hq (by omega)).1
theorem ends_in (f : Int → Int) (n : Nat) (a : Int) (h0 : 0 ≤ (ends (spansOf f a n)).1) : a ≤ (ends (spansOf f a n)).1 ∧ (ends (spansOf f a n)).2 < a + n :=
  fold_in a (a + n) _ _ (fun x hx => ⟨(spansOf_mem f n a x hx).1, (spansOf_mem f n a x hx).2.1⟩) (fun h => by simp at h) h0

/-! Formats 0 and 6. -/
def byteAt (s : List UInt8) (p : Nat) : Int := ((s.getD p 0).toNat : Int)
def get (s : List UInt8) : List Span × Int :=
  if s.length < 4 then ([], 4)
  else if fld s 0 2 = 0 then
    (if fld s 2 2 ≠ 262 then ([], 5) else if s.length < 262 then ([], 4) else (spansOf (fun c => byteAt s (6 + c.toNat)) 0 256, 0))
  else if fld s 0 2 ≠ 6 then ([], 5)
  else if s.length < 10 then ([], 4)
  else if fld s 2 2 ≠ 10 + 2 * fld s 8 2 then ([], 5)
  else if (s.length : Int) < fld s 2 2 then ([], 4)
  else if 65536 < fld s 6 2 + fld s 8 2 then ([], 5)
  else (spansOf (fun c => fld s (10 + 2 * (c - fld s 6 2).toNat) 2) (fld s 6 2) (fld s 8 2).toNat, 0)
def small (l : List Span) : List UInt8 := (List.range 256).map fun c : Nat => UInt8.ofNat (look l (c : Int)).toNat
def putSmall (l : List Span) : List UInt8 × Int :=
  if isL l = false then ([], 1)
  else if 0 ≤ (ends l).1 ∧ 255 < (ends l).2 then ([], 7)
  else if (List.range 256).any (fun c : Nat => decide (255 < look l (c : Int))) = true then ([], 7)
  else ([0, 0, 1, 6, 0, 0] ++ small l, 0)
def first (l : List Span) : Int := if 0 ≤ (ends l).1 then (ends l).1 else 0
def count (l : List Span) : Int := if 0 ≤ (ends l).1 then (ends l).2 - (ends l).1 + 1 else 0
def trimmed (l : List Span) : List UInt8 := [0, 6] ++ bytes (10 + 2 * count l) 2 ++ [0, 0] ++ bytes (first l) 2 ++ bytes (count l) 2 ++ flat 2 ((List.range (count l).toNat).map fun i => look l (first l + (i : Nat)))
def putTrimmed (l : List Span) : List UInt8 × Int :=
  if isL l = false then ([], 1)
  else if 0 ≤ (ends l).1 ∧ 65535 < (ends l).2 then ([], 7)
  else if 32762 < count l then ([], 7)
  else (trimmed l, 0)

theorem look_b {l : List Span} (h : isL l = true) (c : Int) : 0 ≤ look l c ∧ look l c ≤ 65535 := by
  unfold isL at h
  simp only [Bool.and_eq_true, decide_eq_true_eq] at h
  exact look_bound l (-1) h.1 c
theorem fld_bound (s : List UInt8) (p : Nat) : 0 ≤ fld s p 2 ∧ fld s p 2 ≤ 65535 := by
  unfold fld one
  rw [if_neg (by omega)]
  have := be_lt ((s.drop p).take 2)
  have hl : ((s.drop p).take 2).length ≤ 2 := by simp; omega
  have : be ((s.drop p).take 2) < 256 ^ 2 := Nat.lt_of_lt_of_le this (Nat.pow_le_pow_right (by omega) hl)
  have : (256 : Nat) ^ 2 = 65536 := rfl
  constructor
  · omega
  · show (be ((s.drop p).take 2) : Int) ≤ 65535
    omega
theorem byteAt_bound (s : List UInt8) (p : Nat) : 0 ≤ byteAt s p ∧ byteAt s p ≤ 65535 := by
  unfold byteAt
  have := UInt8.toNat_lt (s.getD p 0)
  omega
/-- What is put by format 0 is got as the same glyphs. -/
theorem get_small {l : List Span} (h : (putSmall l).2 = 0) : (get (putSmall l).1).2 = 0 ∧ isL (get (putSmall l).1).1 = true ∧ ∀ c, look (get (putSmall l).1).1 c = look l c := by
  unfold putSmall at *
  by_cases c1 : isL l = false
  · rw [if_pos c1] at h; cases h
  · rw [if_neg c1] at h ⊢
    have hl : isL l = true := by simpa using c1
    by_cases c2 : 0 ≤ (ends l).1 ∧ 255 < (ends l).2
    · rw [if_pos c2] at h; cases h
    · rw [if_neg c2] at h ⊢
      by_cases c3 : (List.range 256).any (fun c : Nat => decide (255 < look l (c : Int))) = true
      · rw [if_pos c3] at h; cases h
      · rw [if_neg c3]
        have hsm : ∀ c : Nat, c < 256 → look l c ≤ 255 := by
          intro c hc
          rw [Bool.not_eq_true, List.any_eq_false] at c3
          have := c3 c (List.mem_range.2 hc)
          simp at this
          exact this
        have hslen : (small l).length = 256 := by simp [small]
        have hlen : ([0, 0, 1, 6, 0, 0] ++ small l).length = 262 := by rw [List.length_append, hslen]; rfl
        have f0 : fld ([0, 0, 1, 6, 0, 0] ++ small l) 0 2 = 0 := rfl
        have f2 : fld ([0, 0, 1, 6, 0, 0] ++ small l) 2 2 = 262 := rfl
        have hby : ∀ c : Int, 0 ≤ c → c < 256 → byteAt ([0, 0, 1, 6, 0, 0] ++ small l) (6 + c.toNat) = look l c := by
          intro c h0 h1
          obtain ⟨k, rfl⟩ := Int.eq_ofNat_of_zero_le h0
          have hk : k < 256 := by omega
          have hb := look_b hl (k : Int)
          have hs := hsm k hk
          unfold byteAt
          have e : ([0, 0, 1, 6, 0, 0] ++ small l).getD (6 + (k : Int).toNat) 0 = UInt8.ofNat (look l k).toNat := by
            rw [Int.toNat_natCast]
            simp only [List.getD]
            rw [List.getElem?_append_right (by simp)]
            simp [small, hk]
          rw [e, UInt8.toNat_ofNat_of_lt' (by simp [UInt8.size]; omega)]
          omega
        have hg : get ([0, 0, 1, 6, 0, 0] ++ small l) = (spansOf (fun c => byteAt ([0, 0, 1, 6, 0, 0] ++ small l) (6 + c.toNat)) 0 256, 0) := by
          unfold get
          rw [f0, f2, hlen, if_neg (by omega), if_pos rfl, if_neg (by simp), if_neg (by omega)]
        rw [hg]
        refine ⟨rfl, isL_spansOf (fun c => byteAt ([0, 0, 1, 6, 0, 0] ++ small l) (6 + c.toNat)) (fun c => byteAt_bound _ _) 256 0 (by omega) (by omega), fun c => ?_⟩
        rw [look_spansOf]
        by_cases hc : (0 : Int) ≤ c ∧ c < 0 + ((256 : Nat) : Int)
        · rw [if_pos hc]; exact hby c (by omega) (by omega)
        · rw [if_neg hc]
          by_cases hz : look l c = 0
          · exact hz.symm
          · exfalso
            obtain ⟨e1, e2⟩ := ends_spec hl
            obtain ⟨k1, k2, k3⟩ := e2 c hz
            omega
theorem count_nonneg {l : List Span} (h : isL l = true) : 0 ≤ count l ∧ 0 ≤ first l := by
  obtain ⟨e1, _⟩ := ends_spec h
  unfold count first
  by_cases h0 : 0 ≤ (ends l).1
  · rw [if_pos h0, if_pos h0]; have := e1 h0; omega
  · rw [if_neg h0, if_neg h0]; omega
/-- What is put by format 6 is got as one span for each rune. -/
theorem get_trimmed {l : List Span} (h : (putTrimmed l).2 = 0) : isL l = true ∧ get (putTrimmed l).1 = (spansOf (look l) (first l) (count l).toNat, 0) ∧ (∀ c, c < first l ∨ first l + ((count l).toNat : Nat) ≤ c → look l c = 0) ∧ first l + ((count l).toNat : Nat) ≤ 65536 := by
  unfold putTrimmed at *
  by_cases c1 : isL l = false
  · rw [if_pos c1] at h; cases h
  · rw [if_neg c1] at h ⊢
    have hl : isL l = true := by simpa using c1
    by_cases c2 : 0 ≤ (ends l).1 ∧ 65535 < (ends l).2
    · rw [if_pos c2] at h; cases h
    · rw [if_neg c2] at h ⊢
      by_cases c3 : 32762 < count l
      · rw [if_pos c3] at h; cases h
      · rw [if_neg c3]
        obtain ⟨n0, f0⟩ := count_nonneg hl
        obtain ⟨e1, e2⟩ := ends_spec hl
        have hfc : first l + count l ≤ 65536 ∧ first l ≤ 65535 := by
          unfold first count
          by_cases h0 : 0 ≤ (ends l).1
          · rw [if_pos h0, if_pos h0]; have := e1 h0; omega
          · rw [if_neg h0, if_neg h0]; omega
        have hout : ∀ c, c < first l ∨ first l + ((count l).toNat : Nat) ≤ c → look l c = 0 := by
          intro c hc
          by_cases hz : look l c = 0
          · exact hz
          · exfalso
            obtain ⟨k1, k2, k3⟩ := e2 c hz
            rw [Int.toNat_of_nonneg n0] at hc
            unfold first count at hc
            rw [if_pos k1, if_pos k1] at hc
            omega
        refine ⟨hl, ?_, hout, by rw [Int.toNat_of_nonneg n0]; exact hfc.1⟩
        have hgl : ((List.range (count l).toNat).map fun i => look l (first l + (i : Nat))).length = (count l).toNat := by simp
        generalize hgs : ((List.range (count l).toNat).map fun i => look l (first l + (i : Nat))) = gs at *
        have htr : trimmed l = [0, 6] ++ bytes (10 + 2 * count l) 2 ++ [0, 0] ++ bytes (first l) 2 ++ bytes (count l) 2 ++ flat 2 gs := by unfold trimmed; rw [hgs]
        have hgat : ∀ i, i < (count l).toNat → gs.getD i 0 = look l (first l + (i : Nat)) := by
          intro i hi
          rw [← hgs]
          simp [List.getD, hi]
        have hlen : (trimmed l).length = 10 + 2 * (count l).toNat := by
          rw [htr]; simp only [List.length_append, bytes_len, flat_len, hgl]; simp
        have g0 : fld (trimmed l) 0 2 = 6 := fld_at [] (bytes (10 + 2 * count l) 2 ++ ([0, 0] ++ (bytes (first l) 2 ++ (bytes (count l) 2 ++ flat 2 gs)))) 6 2 0 (by rw [htr]; simp only [List.append_assoc]; rfl) rfl (by decide) (by decide)
        have g2 : fld (trimmed l) 2 2 = 10 + 2 * count l := fld_at [0, 6] ([0, 0] ++ (bytes (first l) 2 ++ (bytes (count l) 2 ++ flat 2 gs))) _ 2 2 (by rw [htr]; simp only [List.append_assoc]; rfl) rfl (by decide) (fits2 (by omega) (by omega))
        have g6 : fld (trimmed l) 6 2 = first l := fld_at ([0, 6] ++ bytes (10 + 2 * count l) 2 ++ [0, 0]) (bytes (count l) 2 ++ flat 2 gs) _ 2 6 (by rw [htr]; simp only [List.append_assoc]; rfl) (by simp [bytes_len]) (by decide) (fits2 (by omega) (by omega))
        have g8 : fld (trimmed l) 8 2 = count l := fld_at ([0, 6] ++ bytes (10 + 2 * count l) 2 ++ [0, 0] ++ bytes (first l) 2) (flat 2 gs) _ 2 8 (by rw [htr]; simp only [List.append_assoc]; rfl) (by simp [bytes_len]) (by decide) (fits2 (by omega) (by omega))
        have hglyph : ∀ i, i < (count l).toNat → fld (trimmed l) (10 + 2 * i) 2 = look l (first l + (i : Nat)) := by
          intro i hi
          have hb := look_b hl (first l + (i : Nat))
          have := flat_at (size := 2) (by decide) (xs := gs) (i := i) (by rw [hgl]; exact hi) (by rw [hgat i hi]; exact fits2 hb.1 hb.2) []
          rw [List.append_nil, hgat i hi] at this
          rw [← this]
          unfold fld
          rw [htr, ← List.drop_drop]
          congr 2
        have hg : get (trimmed l) = (spansOf (fun c => fld (trimmed l) (10 + 2 * (c - first l).toNat) 2) (first l) (count l).toNat, 0) := by
          unfold get
          rw [g0, g2, g6, g8, if_neg (by rw [hlen]; omega), if_neg (by simp), if_neg (by simp), if_neg (by rw [hlen]; omega), if_neg (by simp), if_neg (by rw [hlen]; omega), if_neg (by omega)]
        rw [hg]
        congr 1
        refine spansOf_congr _ _ _ _ fun c h1 h2 => ?_
        have hc : c = first l + ((c - first l).toNat : Nat) := by omega
        rw [hglyph (c - first l).toNat (by omega), ← hc]
theorem look_trimmed {l : List Span} (h : (putTrimmed l).2 = 0) : (get (putTrimmed l).1).2 = 0 ∧ isL (get (putTrimmed l).1).1 = true ∧ ∀ c, look (get (putTrimmed l).1).1 c = look l c := by
  obtain ⟨hl, hg, hout, hb⟩ := get_trimmed h
  rw [hg]
  refine ⟨rfl, isL_spansOf _ (look_b hl) _ _ (count_nonneg hl).2 hb, fun c => ?_⟩
  show look (spansOf (look l) (first l) (count l).toNat) c = look l c
  rw [look_spansOf]
  by_cases hc : first l ≤ c ∧ c < first l + ((count l).toNat : Nat)
  · rw [if_pos hc]
  · rw [if_neg hc, hout c (by omega)]
/-- What is got is one span for each rune. -/
theorem get_form {s : List UInt8} (h : (get s).2 = 0) : ∃ (f : Int → Int) (a : Int) (n : Nat), (get s).1 = spansOf f a n ∧ (∀ c, 0 ≤ f c ∧ f c ≤ 65535) ∧ 0 ≤ a ∧ a + n ≤ 65536 ∧ (n ≤ 256 ∨ 10 + 2 * n ≤ s.length) := by
  unfold get at *
  by_cases c1 : s.length < 4
  · rw [if_pos c1] at h; cases h
  · rw [if_neg c1] at h ⊢
    by_cases c2 : fld s 0 2 = 0
    · rw [if_pos c2] at h ⊢
      by_cases c3 : fld s 2 2 ≠ 262
      · rw [if_pos c3] at h; cases h
      · rw [if_neg c3] at h ⊢
        by_cases c4 : s.length < 262
        · rw [if_pos c4] at h; cases h
        · rw [if_neg c4]
          exact ⟨fun c => byteAt s (6 + c.toNat), 0, 256, rfl, fun c => byteAt_bound _ _, by omega, by omega, .inl (by omega)⟩
    · rw [if_neg c2] at h ⊢
      by_cases c3 : fld s 0 2 ≠ 6
      · rw [if_pos c3] at h; cases h
      · rw [if_neg c3] at h ⊢
        by_cases c4 : s.length < 10
        · rw [if_pos c4] at h; cases h
        · rw [if_neg c4] at h ⊢
          by_cases c5 : fld s 2 2 ≠ 10 + 2 * fld s 8 2
          · rw [if_pos c5] at h; cases h
          · rw [if_neg c5] at h ⊢
            by_cases c6 : (s.length : Int) < fld s 2 2
            · rw [if_pos c6] at h; cases h
            · rw [if_neg c6] at h ⊢
              by_cases c7 : 65536 < fld s 6 2 + fld s 8 2
              · rw [if_pos c7] at h; cases h
              · rw [if_neg c7]
                have b6 := fld_bound s 6
                have b8 := fld_bound s 8
                refine ⟨fun c => fld s (10 + 2 * (c - fld s 6 2).toNat) 2, fld s 6 2, (fld s 8 2).toNat, rfl, fun c => fld_bound _ _, b6.1, by omega, .inr ?_⟩
                simp only [ne_eq, Decidable.not_not] at c5
                omega
/-- What is got is put by format 6, and got again as it was. -/
theorem get_again {s : List UInt8} (hs : s.length ≤ 3000) (h : (get s).2 = 0) : isL (get s).1 = true ∧ (putTrimmed (get s).1).2 = 0 ∧ get (putTrimmed (get s).1).1 = ((get s).1, 0) ∧ ∃ (f : Int → Int) (a : Int) (n : Nat), (get s).1 = spansOf f a n := by
  obtain ⟨f, a, n, e, hb, ha, hn, hlen⟩ := get_form h
  have hl : isL (spansOf f a n) = true := isL_spansOf f hb n a ha hn
  have hlk : ∀ c, look (spansOf f a n) c = if a ≤ c ∧ c < a + n then f c else 0 := look_spansOf f n a
  have hin : ∀ c, look (spansOf f a n) c ≠ 0 → a ≤ c ∧ c < a + n := by
    intro c hc
    rw [hlk] at hc
    by_cases e2 : a ≤ c ∧ c < a + n
    · exact e2
    · rw [if_neg e2] at hc; exact absurd rfl hc
  obtain ⟨e1, e2⟩ := ends_spec hl
  have hends : 0 ≤ (ends (spansOf f a n)).1 → a ≤ (ends (spansOf f a n)).1 ∧ (ends (spansOf f a n)).2 < a + n := by
    intro h0
    exact ends_in f n a h0
  have hp : (putTrimmed (spansOf f a n)).2 = 0 := by
    unfold putTrimmed
    rw [hl, if_neg (by simp), if_neg (by rintro ⟨h0, h1⟩; have := hends h0; omega), if_neg (by
      unfold count
      by_cases h0 : 0 ≤ (ends (spansOf f a n)).1
      · rw [if_pos h0]; have := hends h0; omega
      · rw [if_neg h0]; omega)]
  rw [e]
  refine ⟨hl, hp, ?_, f, a, n, rfl⟩
  obtain ⟨_, hg, hout, _⟩ := get_trimmed hp
  rw [hg]
  congr 1
  rw [spansOf_two (look (spansOf f a n)) (first (spansOf f a n)) a (count (spansOf f a n)).toNat n hout (fun c hc => by rw [hlk, if_neg (by omega)])]
  exact spansOf_congr _ _ _ _ fun c h1 h2 => by rw [hlk, if_pos ⟨h1, h2⟩]
end Ch
