/-
  Plain functions on bytes (layer 9, segment): spans put by format 4, and got again; how many segments and glyphs. No conditions beyond those stated.
-/
import Derived.Test.YtfnpindohoflaaaSgMath
namespace Sg
open Bn He Ch

def hasGl (x : Span) : Bool := decide (0 < x.gl) || (decide (x.st = 1) && decide (x.fr < x.to))
def kept (l : List Span) : List Span := l.filter hasGl
def isRow (x : Span) : Bool := decide (x.st = 0) && decide (x.fr < x.to)
def wid (x : Span) : Nat := if isRow x = true then (x.to - x.fr + 1).toNat else 0
def glyphs (l : List Span) : Nat := (l.map wid).sum
def ended (l : List Span) : Bool := l.any fun x => decide (x.to = 65535)
def whole (l : List Span) : List Span := if ended (kept l) = true then kept l else kept l ++ [⟨65535, 65535, 0, 1⟩]
def manyOf (l : List Span) : Nat × Nat × Int :=
  if isL l = false then (0, 0, 1)
  else if (kept l).any (fun x => decide (65535 < x.to)) = true then (0, 0, 7)
  else if 65535 < 16 + 8 * (whole l).length + 2 * glyphs (kept l) then (0, 0, 7)
  else ((whole l).length, glyphs (kept l), 0)
def delta (x : Span) : Int := if isRow x = true then 0 else plane (65536 + x.gl - x.fr)
def at1 (K : List Span) (i : Nat) : Span := K.getD i ⟨0, 0, 0, 0⟩
def behind (K : List Span) (i : Nat) : Nat := glyphs (K.take i)
def offs (K : List Span) (i : Nat) : Int := if isRow (at1 K i) = true then ((2 * (K.length - i) + 2 * behind K i : Nat) : Int) else 0
def rest : List Span → List Int
  | [] => []
  | x :: r => List.replicate (wid x) x.gl ++ rest r
def hd (n g : Nat) : List Int := [4, ((16 + 8 * n + 2 * g : Nat) : Int), 0, ((2 * n : Nat) : Int), ((2 * (Sf.pow2 n).1 : Nat) : Int), (((Sf.pow2 n).2 : Nat) : Int), ((2 * n : Nat) : Int) - ((2 * (Sf.pow2 n).1 : Nat) : Int)]
def words (K : List Span) : List Int := hd K.length (glyphs K) ++ K.map Span.to ++ [0] ++ K.map Span.fr ++ K.map delta ++ (List.range K.length).map (offs K) ++ rest K
def file (K : List Span) : List UInt8 := flat 2 (words K)
def put (l : List Span) : List UInt8 × Int := if (manyOf l).2.2 ≠ 0 then ([], (manyOf l).2.2) else (file (whole l), 0)

theorem rest_len : ∀ K : List Span, (rest K).length = glyphs K
  | [] => rfl
  | x :: r => by
    rw [rest, List.length_append, List.length_replicate, rest_len r]
    simp [glyphs]
theorem glyphs_append (A B : List Span) : glyphs (A ++ B) = glyphs A + glyphs B := by simp [glyphs]
theorem rest_append : ∀ A B : List Span, rest (A ++ B) = rest A ++ rest B
  | [], B => rfl
  | x :: r, B => by rw [List.cons_append, rest, rest, rest_append r B, List.append_assoc]
theorem words_len (K : List Span) : (words K).length = 8 + 4 * K.length + glyphs K := by
  unfold words hd
  simp only [List.length_append, List.length_map, List.length_range, rest_len, List.length_cons, List.length_nil]
  omega
theorem file_len (K : List Span) : (file K).length = 16 + 8 * K.length + 2 * glyphs K := by
  unfold file
  rw [flat_len, words_len]
  show 2 * _ = _
  omega
theorem word_file (K : List Span) (more : List UInt8) (j : Nat) (v : Int) (hj : j < (words K).length) (hv : (words K).getD j 0 = v) (h0 : 0 ≤ v) (h1 : v ≤ 65535) : word (file K ++ more) (2 * j) = v := by
  have := flat_at (size := 2) (by decide) (xs := words K) (i := j) hj (by rw [hv]; exact fits2 h0 h1) more
  rw [hv] at this
  exact this
theorem getD_app_right (A B : List Int) (j k : Nat) (h : j = A.length + k) : (A ++ B).getD j 0 = B.getD k 0 := by
  subst h
  simp only [List.getD]
  rw [List.getElem?_append_right (by omega), Nat.add_sub_cancel_left]
theorem getD_app_left (A B : List Int) (j : Nat) (h : j < A.length) : (A ++ B).getD j 0 = A.getD j 0 := by
  simp [List.getD, List.getElem?_append_left h]
theorem split1 {K : List Span} {i : Nat} (hi : i < K.length) : K = K.take i ++ at1 K i :: K.drop (i + 1) := by
  rw [show at1 K i = K[i] by simp [at1, List.getD, List.getElem?_eq_getElem hi], ← List.drop_eq_getElem_cons hi, List.take_append_drop]
theorem behind_le {K : List Span} {i : Nat} (hi : i < K.length) : behind K i + wid (at1 K i) ≤ glyphs K := by
  unfold behind
  have : glyphs K = glyphs (K.take i ++ at1 K i :: K.drop (i + 1)) := by rw [← split1 hi]
  rw [this, glyphs_append]
  simp [glyphs]
theorem map_getD (K : List Span) (f : Span → Int) (i : Nat) (hi : i < K.length) : (K.map f).getD i 0 = f (at1 K i) := by
  simp [List.getD, at1, List.getElem?_eq_getElem hi]
theorem w_to (K : List Span) (i : Nat) (hi : i < K.length) : (words K).getD (7 + i) 0 = (at1 K i).to := by
  unfold words
  simp only [List.append_assoc]
  rw [getD_app_right _ _ _ i (by rfl), getD_app_left _ _ _ (by simpa using hi), map_getD K _ i hi]
theorem w_fr (K : List Span) (i : Nat) (hi : i < K.length) : (words K).getD (8 + K.length + i) 0 = (at1 K i).fr := by
  unfold words
  simp only [List.append_assoc]
  rw [getD_app_right _ _ _ (K.length + (1 + i)) (by simp only [hd, List.length_cons, List.length_nil]; omega), getD_app_right _ _ _ (1 + i) (by simp), getD_app_right _ _ _ i (by simp), getD_app_left _ _ _ (by simpa using hi), map_getD K _ i hi]
theorem w_de (K : List Span) (i : Nat) (hi : i < K.length) : (words K).getD (8 + 2 * K.length + i) 0 = delta (at1 K i) := by
  unfold words
  simp only [List.append_assoc]
  rw [getD_app_right _ _ _ (K.length + (1 + (K.length + i))) (by simp only [hd, List.length_cons, List.length_nil]; omega), getD_app_right _ _ _ (1 + (K.length + i)) (by simp), getD_app_right _ _ _ (K.length + i) (by simp), getD_app_right _ _ _ i (by simp), getD_app_left _ _ _ (by simpa using hi), map_getD K _ i hi]
theorem w_of (K : List Span) (i : Nat) (hi : i < K.length) : (words K).getD (8 + 3 * K.length + i) 0 = offs K i := by
  unfold words
  simp only [List.append_assoc]
  rw [getD_app_right _ _ _ (K.length + (1 + (K.length + (K.length + i)))) (by simp only [hd, List.length_cons, List.length_nil]; omega), getD_app_right _ _ _ (1 + (K.length + (K.length + i))) (by simp), getD_app_right _ _ _ (K.length + (K.length + i)) (by simp), getD_app_right _ _ _ (K.length + i) (by simp),
    getD_app_right _ _ _ i (by simp), getD_app_left _ _ _ (by simpa using hi)]
  simp [List.getD, hi]
theorem w_rest (K : List Span) (i k : Nat) (hi : i < K.length) (hk : k < wid (at1 K i)) : (words K).getD (8 + 4 * K.length + behind K i + k) 0 = (at1 K i).gl := by
  unfold words
  rw [getD_app_right _ (rest K) _ (behind K i + k) (by simp only [hd, List.length_append, List.length_map, List.length_range, List.length_cons, List.length_nil]; omega)]
  have : rest K = rest (K.take i) ++ (List.replicate (wid (at1 K i)) (at1 K i).gl ++ rest (K.drop (i + 1))) := by
    conv => lhs; rw [split1 hi]
    rw [rest_append, rest]
  rw [this, getD_app_right _ _ _ k (by rw [rest_len]; rfl), getD_app_left _ _ _ (by simpa using hk)]
  simp [List.getD, hk]

/-- Spans as they are got again. -/
def conv (x : Span) : List Span := if isRow x = true then spansOf (fun _ => x.gl) x.fr (wid x) else [⟨x.fr, x.to, x.gl, 1⟩]
/-- Right spans up to 65535 that end there, each one with a glyph, or the last. -/
structure Good (K : List Span) : Prop where
  chain : Ch.chain (-1) K = true
  upto : ∀ x ∈ K, x.to ≤ 65535
  row : ∀ x ∈ K, isRow x = true → 0 < x.gl
  one : 1 ≤ K.length
  last : (at1 K (K.length - 1)).to = 65535
  size : 16 + 8 * K.length + 2 * glyphs K ≤ 65535
theorem chain_at : ∀ (K : List Span) (p : Int), Ch.chain p K = true → ∀ i, i < K.length → okSpan (at1 K i) = true ∧ (if i = 0 then p else (at1 K (i - 1)).to) < (at1 K i).fr
  | [], _, _, i, hi => by simp at hi
  | x :: r, p, h, i, hi => by
    simp only [Ch.chain, Bool.and_eq_true, decide_eq_true_eq] at h
    cases i with
    | zero => exact ⟨h.1.1, h.1.2⟩
    | succ i =>
      obtain ⟨j1, j2⟩ := chain_at r x.to h.2 i (by simpa using hi)
      refine ⟨j1, ?_⟩
      rw [if_neg (by omega)]
      show (at1 (x :: r) i).to < (at1 r i).fr
      cases i with
      | zero => exact j2
      | succ i => rw [if_neg (by omega)] at j2; exact j2
theorem at1_mem {K : List Span} {i : Nat} (hi : i < K.length) : at1 K i ∈ K := by simp [at1, List.getD, List.getElem?_eq_getElem hi]
theorem plane_back {gl fr : Int} (h1 : 0 ≤ gl) (h2 : gl ≤ 65535) (h3 : 0 ≤ fr) (h4 : fr ≤ 65535) : plane (fr + plane (65536 + gl - fr)) = gl ∧ 0 ≤ plane (65536 + gl - fr) ∧ plane (65536 + gl - fr) ≤ 65535 := by
  unfold plane
  by_cases h : 65536 ≤ 65536 + gl - fr
  · rw [if_pos h, if_neg (by omega)]; omega
  · rw [if_neg h, if_pos (by omega)]; omega
theorem seg_file {K : List Span} (G : Good K) (i : Nat) (hi : i < K.length) : seg (file K) K.length i = (conv (at1 K i), 0) ∧ bad (file K) K.length i = false ∧ sTo (file K) i = (at1 K i).to := by
  have hw := words_len K
  have hok := chain_at K (-1) G.chain
  have hrd : ∀ j v, j < (words K).length → (words K).getD j 0 = v → 0 ≤ v → v ≤ 65535 → word (file K) (2 * j) = v := by
    intro j v a b c d
    have := word_file K [] j v a b c d
    rwa [List.append_nil] at this
  obtain ⟨o, hlt⟩ := hok i hi
  obtain ⟨a1, a2, a3, a4, a5, a6, a7, a8⟩ := (okSpan_iff _).1 o
  have hup := G.upto _ (at1_mem hi)
  have hbl := behind_le hi
  have hsize := G.size
  have eto : ∀ k, k < K.length → sTo (file K) k = (at1 K k).to := by
    intro k hk
    obtain ⟨b1, b2, _⟩ := (okSpan_iff _).1 (hok k hk).1
    have hup2 := G.upto _ (at1_mem hk)
    have := hrd (7 + k) _ (by omega) (w_to K k hk) (by omega) (by omega)
    rw [show 2 * (7 + k) = 14 + 2 * k by omega] at this
    exact this
  have efr : sFr (file K) K.length i = (at1 K i).fr := by
    have := hrd (8 + K.length + i) _ (by omega) (w_fr K i hi) (by omega) (by omega)
    rw [show 2 * (8 + K.length + i) = 16 + 2 * K.length + 2 * i by omega] at this
    exact this
  have hde : 0 ≤ delta (at1 K i) ∧ delta (at1 K i) ≤ 65535 := by
    unfold delta
    by_cases h : isRow (at1 K i) = true
    · rw [if_pos h]; omega
    · rw [if_neg h]; exact (plane_back a6 a7 a1 (by omega)).2
  have ede : sDe (file K) K.length i = delta (at1 K i) := by
    have := hrd (8 + 2 * K.length + i) _ (by omega) (w_de K i hi) hde.1 hde.2
    rw [show 2 * (8 + 2 * K.length + i) = 16 + 4 * K.length + 2 * i by omega] at this
    exact this
  have hof : 0 ≤ offs K i ∧ offs K i ≤ 65535 := by
    unfold offs
    by_cases h : isRow (at1 K i) = true
    · rw [if_pos h]; omega
    · rw [if_neg h]; omega
  have eof : sOf (file K) K.length i = offs K i := by
    have := hrd (8 + 3 * K.length + i) _ (by omega) (w_of K i hi) hof.1 hof.2
    rw [show 2 * (8 + 3 * K.length + i) = 16 + 6 * K.length + 2 * i by omega] at this
    exact this
  refine ⟨?_, ?_, eto i hi⟩
  · unfold seg
    rw [eof, efr, ede, eto i hi]
    by_cases h : isRow (at1 K i) = true
    · have hne : offs K i ≠ 0 := by unfold offs; rw [if_pos h]; omega
      have hw2 : wid (at1 K i) = ((at1 K i).to - (at1 K i).fr + 1).toNat := by unfold wid; rw [if_pos h]
      have hgl := G.row _ (at1_mem hi) h
      have ewo : word (file K) (16 + 6 * K.length + 2 * i) = offs K i := eof
      rw [if_neg hne]
      unfold far conv
      rw [ewo, if_pos h, if_neg (by
        rw [file_len]
        unfold offs
        rw [if_pos h]
        omega)]
      congr 1
      rw [hw2]
      refine spansOf_congr _ _ _ _ fun c h1 h2 => ?_
      have hk : (c - (at1 K i).fr).toNat < wid (at1 K i) := by omega
      have hwo := hrd (8 + 4 * K.length + behind K i + (c - (at1 K i).fr).toNat) _ (by omega) (w_rest K i _ hi hk) (by omega) (by omega)
      have hpos : 16 + 6 * K.length + 2 * i + (offs K i).toNat + 2 * (c - (at1 K i).fr).toNat = 2 * (8 + 4 * K.length + behind K i + (c - (at1 K i).fr).toNat) := by
        unfold offs
        rw [if_pos h, Int.toNat_natCast]
        omega
      rw [hpos, hwo]
      unfold gl1 delta
      rw [if_pos h, Int.add_zero]
      have : plane (at1 K i).gl = (at1 K i).gl := by unfold plane; rw [if_neg (by omega)]
      rw [this, if_pos ⟨hgl, hgl⟩]
    · have h0 : offs K i = 0 := by unfold offs; rw [if_neg h]
      rw [h0, if_pos rfl]
      unfold near delta conv
      rw [if_neg h, if_neg h, (plane_back a6 a7 a1 (by omega)).1]
      have : (at1 K i).gl + (at1 K i).to - (at1 K i).fr ≤ 65535 := by
        unfold isRow at h
        simp only [Bool.and_eq_true, decide_eq_true_eq] at h
        rcases (show (at1 K i).st = 0 ∨ (at1 K i).st = 1 by omega) with e | e
        · have : (at1 K i).fr = (at1 K i).to := by
            by_cases e2 : (at1 K i).fr < (at1 K i).to
            · exact absurd ⟨e, e2⟩ h
            · omega
          omega
        · rw [e] at a8; omega
      rw [if_pos this]
  · unfold bad
    rw [efr, eof, eto i hi]
    have hl : Sg.last (file K) i < (at1 K i).fr := by
      unfold Sg.last
      by_cases e : i = 0
      · rw [if_pos e]; omega
      · rw [if_neg e, eto (i - 1) (by omega)]; rw [if_neg e] at hlt; exact hlt
    have he : offs K i % 2 ≠ 1 := by
      unfold offs
      by_cases h : isRow (at1 K i) = true
      · rw [if_pos h]; omega
      · rw [if_neg h]; omega
    simp only [Bool.or_eq_false_iff, decide_eq_false_iff_not]
    omega
theorem range_flat (K : List Span) : (List.range K.length).flatMap (fun i => conv (at1 K i)) = K.flatMap conv := by
  have : K = (List.range K.length).map (at1 K) := by
    apply List.ext_getElem
    · simp
    · intro j h1 h2
      simp [at1, List.getD, List.getElem?_eq_getElem h1]
  conv => rhs; rw [this]
  rw [List.flatMap_map]
/-- What is put is got, whatever stands behind. -/
theorem get_file {K : List Span} (G : Good K) (more : List UInt8) : get (file K ++ more) = (K.flatMap conv, 0) := by
  have hw := words_len K
  have hone := G.one
  have hsize := G.size
  have f0 : word (file K ++ more) 0 = 4 := word_file K more 0 4 (by omega) rfl (by omega) (by omega)
  have f2 : word (file K ++ more) 2 = ((16 + 8 * K.length + 2 * glyphs K : Nat) : Int) := word_file K more 1 _ (by omega) rfl (by omega) (by omega)
  have f6 : word (file K ++ more) 6 = ((2 * K.length : Nat) : Int) := word_file K more 3 _ (by omega) rfl (by omega) (by omega)
  have hm : many (file K ++ more) = K.length := by unfold many; rw [f6]; omega
  have htake : (file K ++ more).take (16 + 8 * K.length + 2 * glyphs K) = file K := by
    have := List.take_left (l₁ := file K) (l₂ := more)
    rwa [file_len] at this
  unfold get
  rw [hm, f0, f2, f6, if_neg (by rw [List.length_append, file_len]; omega), if_neg (by omega), if_neg (by rw [List.length_append, file_len]; omega), if_neg (by omega), Int.toNat_natCast, htake]
  unfold body
  have hb : (List.range K.length).any (fun i => bad (file K) K.length i) = false := by
    rw [List.any_eq_false]
    intro i hi
    rw [(seg_file G i (List.mem_range.1 hi)).2.1]
    simp
  have hl : Sg.last (file K) K.length = 65535 := by
    unfold Sg.last
    rw [if_neg (by omega), (seg_file G (K.length - 1) (by omega)).2.2, G.last]
  rw [hb, hl, if_neg (by simp), Sf.scan_zero _ _ _ (fun j _ hj => by rw [(seg_file G j (by omega)).1]), if_neg (by simp)]
  congr 1
  rw [← range_flat, List.flatMap_def, List.flatMap_def]
  congr 1
  apply List.map_congr_left
  intro i hi
  rw [(seg_file G i (List.mem_range.1 hi)).1]

/-! The same glyph of each rune. -/
theorem look_conv {x : Span} (hx : okSpan x = true) (hr : isRow x = true → 0 < x.gl) (R : List Span) (c : Int) : look (conv x ++ R) c = if x.fr ≤ c ∧ c ≤ x.to then glyphOf x c else look R c := by
  obtain ⟨a1, a2, a3, a4, a5, a6, a7, a8⟩ := (okSpan_iff _).1 hx
  unfold conv
  by_cases h : isRow x = true
  · rw [if_pos h]
    have hgl := hr h
    have hw : wid x = (x.to - x.fr + 1).toNat := by unfold wid; rw [if_pos h]
    have hst : x.st = 0 := by unfold isRow at h; simp only [Bool.and_eq_true, decide_eq_true_eq] at h; exact h.1
    have main : ∀ (n : Nat) (a : Int), look (spansOf (fun _ => x.gl) a n ++ R) c = if a ≤ c ∧ c < a + n then x.gl else look R c := by
      intro n
      induction n with
      | zero => intro a; rw [spansOf, List.nil_append, if_neg (by omega)]
      | succ n ih =>
        intro a
        rw [spansOf, if_neg (by omega), List.append_assoc, List.cons_append, List.nil_append, look]
        by_cases hc : c = a
        · rw [if_pos (by simp only; omega), if_pos (by omega)]
          unfold glyphOf
          rw [hc]; simp
        · rw [if_neg (by simp only; omega), ih (a + 1)]
          by_cases h2 : a + 1 ≤ c ∧ c < a + 1 + n
          · rw [if_pos h2, if_pos (by omega)]
          · rw [if_neg h2, if_neg (by omega)]
    rw [main]
    by_cases hc : x.fr ≤ c ∧ c ≤ x.to
    · rw [if_pos hc, if_pos (by omega)]; unfold glyphOf; rw [hst]; simp
    · rw [if_neg hc, if_neg (by omega)]
  · rw [if_neg h, List.cons_append, List.nil_append, look]
    by_cases hc : x.fr ≤ c ∧ c ≤ x.to
    · rw [if_pos (by simpa using hc), if_pos hc]
      unfold glyphOf isRow at *
      simp only [Bool.and_eq_true, decide_eq_true_eq] at h
      rcases (show x.st = 0 ∨ x.st = 1 by omega) with e | e
      · have : c = x.fr := by
          by_cases e2 : x.fr < x.to
          · exact absurd ⟨e, e2⟩ h
          · omega
        rw [this, e]; simp
      · rw [e]
    · rw [if_neg (by simpa using hc), if_neg hc]
theorem look_flat : ∀ (K : List Span), (∀ x ∈ K, okSpan x = true) → (∀ x ∈ K, isRow x = true → 0 < x.gl) → ∀ c, look (K.flatMap conv) c = look K c
  | [], _, _, _ => rfl
  | x :: r, h1, h2, c => by
    rw [List.flatMap_cons, look_conv (h1 x (by simp)) (h2 x (by simp)), look, look_flat r (fun y hy => h1 y (by simp [hy])) (fun y hy => h2 y (by simp [hy])) c]
theorem noGl {x : Span} (hx : okSpan x = true) (h : hasGl x = false) {c : Int} (h1 : x.fr ≤ c) (h2 : c ≤ x.to) : glyphOf x c = 0 := by
  obtain ⟨a1, a2, a3, a4, a5, a6, a7, a8⟩ := (okSpan_iff _).1 hx
  unfold hasGl at h
  simp only [Bool.or_eq_false_iff, decide_eq_false_iff_not, Bool.and_eq_false_iff] at h
  unfold glyphOf
  have g0 : x.gl = 0 := by omega
  rcases (show x.st = 0 ∨ x.st = 1 by omega) with e | e
  · rw [g0, e]; simp
  · have : ¬ x.fr < x.to := by
      rcases h.2 with h3 | h3
      · exact absurd e h3
      · exact h3
    rw [g0, show c = x.fr by omega]; simp
theorem look_kept : ∀ (l : List Span) (p : Int), Ch.chain p l = true → ∀ c, look (kept l) c = look l c
  | [], _, _, _ => rfl
  | x :: r, p, h, c => by
    simp only [Ch.chain, Bool.and_eq_true, decide_eq_true_eq] at h
    have ih := look_kept r x.to h.2 c
    unfold kept at *
    by_cases hg : hasGl x = true
    · rw [List.filter_cons_of_pos hg, look, look, ih]
    · rw [List.filter_cons_of_neg hg, ih, look]
      by_cases hc : x.fr ≤ c ∧ c ≤ x.to
      · rw [if_pos hc, noGl h.1.1 (by simpa using hg) hc.1 hc.2, look_low r x.to h.2 c hc.2]
      · rw [if_neg hc]
theorem look_more {z : Span} (hz : ∀ c, z.fr ≤ c → c ≤ z.to → glyphOf z c = 0) : ∀ (A : List Span) (c : Int), look (A ++ [z]) c = look A c
  | [], c => by
    rw [List.nil_append, look, look]
    by_cases h : z.fr ≤ c ∧ c ≤ z.to
    · rw [if_pos h, hz c h.1 h.2]
    · rw [if_neg h, look]
  | x :: r, c => by rw [List.cons_append, look, look, look_more hz r c]
theorem look_whole {l : List Span} (h : isL l = true) (c : Int) : look (whole l) c = look l c := by
  rw [← look_kept l (-1) (isL_links h) c]
  unfold whole
  by_cases e : ended (kept l) = true
  · rw [if_pos e]
  · rw [if_neg e]
    refine look_more (fun d h1 h2 => ?_) _ c
    simp only at h1 h2
    unfold glyphOf
    simp only
    omega
theorem chain_kept : ∀ (l : List Span) (p : Int), Ch.chain p l = true → Ch.chain p (kept l) = true
  | [], _, _ => rfl
  | x :: r, p, h => by
    simp only [Ch.chain, Bool.and_eq_true, decide_eq_true_eq] at h
    have ih := chain_kept r x.to h.2
    obtain ⟨a1, a2, _⟩ := (okSpan_iff _).1 h.1.1
    unfold kept at *
    by_cases hg : hasGl x = true
    · rw [List.filter_cons_of_pos hg, Ch.chain, h.1.1, ih]; simp; exact h.1.2
    · rw [List.filter_cons_of_neg hg]; exact chain_lower (by omega) _ ih
theorem glyphs_whole (l : List Span) : glyphs (whole l) = glyphs (kept l) := by
  unfold whole
  by_cases e : ended (kept l) = true
  · rw [if_pos e]
  · rw [if_neg e, glyphs_append]; rfl
theorem manyOf_ok {l : List Span} (h : (manyOf l).2.2 = 0) : isL l = true ∧ (∀ x ∈ kept l, x.to ≤ 65535) ∧ 16 + 8 * (whole l).length + 2 * glyphs (kept l) ≤ 65535 ∧ (manyOf l).1 = (whole l).length ∧ (manyOf l).2.1 = glyphs (kept l) := by
  unfold manyOf at *
  by_cases c1 : isL l = false
  · rw [if_pos c1] at h; cases h
  · rw [if_neg c1] at h ⊢
    by_cases c2 : (kept l).any (fun x => decide (65535 < x.to)) = true
    · rw [if_pos c2] at h; cases h
    · rw [if_neg c2] at h ⊢
      by_cases c3 : 65535 < 16 + 8 * (whole l).length + 2 * glyphs (kept l)
      · rw [if_pos c3] at h; cases h
      · rw [if_neg c3]
        refine ⟨by simpa using c1, fun x hx => ?_, by omega, rfl, rfl⟩
        rw [Bool.not_eq_true, List.any_eq_false] at c2
        have := c2 x hx
        simp at this
        omega
theorem manyOf_no {l : List Span} (h : (manyOf l).2.2 ≠ 0) : (manyOf l).1 = 0 ∧ (manyOf l).2.1 = 0 ∧ ((manyOf l).2.2 = 1 ↔ isL l = false) ∧ (isL l = true → (manyOf l).2.2 = 7) := by
  unfold manyOf at *
  by_cases c1 : isL l = false
  · rw [if_pos c1]; exact ⟨rfl, rfl, ⟨fun _ => c1, fun _ => rfl⟩, fun h2 => by rw [c1] at h2; cases h2⟩
  · rw [if_neg c1] at h ⊢
    by_cases c2 : (kept l).any (fun x => decide (65535 < x.to)) = true
    · rw [if_pos c2]; exact ⟨rfl, rfl, ⟨fun h2 => absurd h2 (by simp), fun h2 => absurd h2 c1⟩, fun _ => rfl⟩
    · rw [if_neg c2] at h ⊢
      by_cases c3 : 65535 < 16 + 8 * (whole l).length + 2 * glyphs (kept l)
      · rw [if_pos c3]; exact ⟨rfl, rfl, ⟨fun h2 => absurd h2 (by simp), fun h2 => absurd h2 c1⟩, fun _ => rfl⟩
      · rw [if_neg c3] at h; exact absurd rfl h
theorem last_of_ended : ∀ (K : List Span) (p : Int), Ch.chain p K = true → (∀ x ∈ K, x.to ≤ 65535) → ended K = true → 1 ≤ K.length ∧ (at1 K (K.length - 1)).to = 65535
  | [], _, _, _, h => by simp [ended] at h
  | [x], _, _, _, h => by
    simp only [ended, List.any_cons, List.any_nil, Bool.or_false, decide_eq_true_eq] at h
    exact ⟨by simp, h⟩
  | x :: y :: r, p, hc, hu, h => by
    simp only [Ch.chain, Bool.and_eq_true, decide_eq_true_eq] at hc
    obtain ⟨⟨hx, _⟩, ⟨⟨hy, hxy⟩, hr⟩⟩ := hc
    obtain ⟨b1, b2, _⟩ := (okSpan_iff _).1 hy
    have huy := hu y (by simp)
    have h' : ended (y :: r) = true := by
      unfold ended at h ⊢
      rw [List.any_cons] at h
      have : decide (x.to = 65535) = false := by simp; omega
      rwa [this, Bool.false_or] at h
    obtain ⟨_, j⟩ := last_of_ended (y :: r) x.to (by simp only [Ch.chain, Bool.and_eq_true, decide_eq_true_eq]; exact ⟨⟨hy, hxy⟩, hr⟩) (fun z hz => hu z (by simp [hz])) h'
    refine ⟨by simp, ?_⟩
    have e : (x :: y :: r).length - 1 = ((y :: r).length - 1) + 1 := by simp
    rw [e]
    exact j
theorem good_whole {l : List Span} (h : (manyOf l).2.2 = 0) : Good (whole l) := by
  obtain ⟨hl, hu, hs, _, _⟩ := manyOf_ok h
  have hk := chain_kept l (-1) (isL_links hl)
  have hrow : ∀ x ∈ kept l, isRow x = true → 0 < x.gl := by
    intro x hx hr
    have hg : hasGl x = true := (List.mem_filter.1 hx).2
    unfold hasGl at hg
    unfold isRow at hr
    simp only [Bool.or_eq_true, Bool.and_eq_true, decide_eq_true_eq] at hg hr
    omega
  have hgw := glyphs_whole l
  by_cases e : ended (kept l) = true
  · have hw : whole l = kept l := by unfold whole; rw [if_pos e]
    obtain ⟨h1, h2⟩ := last_of_ended _ _ hk hu e
    rw [hw] at hs ⊢
    exact ⟨hk, hu, hrow, h1, h2, hs⟩
  · have hw : whole l = kept l ++ [⟨65535, 65535, 0, 1⟩] := by unfold whole; rw [if_neg e]
    have hlt : ∀ x ∈ kept l, x.to ≤ 65534 := by
      intro x hx
      have h1 := hu x hx
      unfold ended at e
      rw [Bool.not_eq_true, List.any_eq_false] at e
      have := e x hx
      simp at this
      omega
    have hm : ∀ x ∈ whole l, x ∈ kept l ∨ x = ⟨65535, 65535, 0, 1⟩ := by
      intro x hx
      rw [hw] at hx
      simpa using hx
    refine ⟨?_, fun x hx => ?_, fun x hx hr => ?_, by rw [hw]; simp, ?_, by rw [hgw]; exact hs⟩
    · rw [hw]
      exact chain_append _ _ _ hk (q := 65534) (by omega) hlt (by decide)
    · rcases hm x hx with h1 | rfl
      · exact hu x h1
      · exact Int.le_refl _
    · rcases hm x hx with h1 | rfl
      · exact hrow x h1 hr
      · exact absurd hr (by decide)
    · rw [hw]
      simp [at1, List.getD]
/-- What is put, and got, tells the same glyph of each rune. -/
theorem get_put {l : List Span} (h : (put l).2 = 0) (more : List UInt8) : (get ((put l).1 ++ more)).2 = 0 ∧ isL (get ((put l).1 ++ more)).1 = true ∧ (∀ c, look (get ((put l).1 ++ more)).1 c = look l c) ∧ isL l = true ∧ (put l).1.length = 16 + 8 * (manyOf l).1 + 2 * (manyOf l).2.1 := by
  unfold put at h ⊢
  by_cases c : (manyOf l).2.2 ≠ 0
  · rw [if_pos c] at h; exact absurd h c
  · rw [if_neg c]
    have c0 : (manyOf l).2.2 = 0 := by simpa using c
    have G := good_whole c0
    obtain ⟨hl, _, _, e1, e2⟩ := manyOf_ok c0
    have hg := get_file G more
    have h0 : (get (file (whole l) ++ more)).2 = 0 := by rw [hg]
    refine ⟨h0, (get_right h0).1, fun c => ?_, hl, ?_⟩
    · show look (get (file (whole l) ++ more)).1 c = look l c
      rw [hg, ← look_whole hl c]
      exact look_flat _ (chain_all (P := fun x => okSpan x = true) (fun _ h => h) _ _ G.chain) G.row c
    · show (file (whole l)).length = _
      rw [file_len, e1, e2, glyphs_whole]
theorem put_refused {l : List Span} (h : (put l).2 ≠ 0) : (put l).1 = [] ∧ (put l).2 = (manyOf l).2.2 := by
  unfold put at *
  by_cases c : (manyOf l).2.2 ≠ 0
  · rw [if_pos c]; exact ⟨rfl, rfl⟩
  · rw [if_neg c] at h; exact absurd rfl h
/-- A span without a glyph behind the others makes nothing. -/
theorem put_more {l : List Span} {z : Span} (h : isL l = true) (hz : isL (l ++ [z]) = true) (hg : hasGl z = false) : put (l ++ [z]) = put l ∧ manyOf (l ++ [z]) = manyOf l := by
  have hk : kept (l ++ [z]) = kept l := by
    unfold kept
    rw [List.filter_append, List.filter_cons_of_neg (by rw [hg]; simp)]
    simp
  have hw : whole (l ++ [z]) = whole l := by unfold whole; rw [hk]
  have hm : manyOf (l ++ [z]) = manyOf l := by unfold manyOf; rw [hk, hw, h, hz]
  refine ⟨?_, hm⟩
  unfold put
  rw [hm, hw]
end Sg
