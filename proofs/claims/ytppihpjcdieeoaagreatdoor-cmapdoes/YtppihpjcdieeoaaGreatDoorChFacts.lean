/-
  Plain facts (layer 8, chart), further: spans as the program goes over them (used spans, the first and the last one, glyphs laid span by span, the search), rows of one size. No conditions beyond those stated.
-/
import Derived.Test.YtppihpjcdieeoaaGreatDoorPlain
import Derived.Test.YtppihpjcdieeoaaGreatDoorPart03
import Derived.Test.YtppihpjcdieeoaaGreatDoorHmFacts
namespace Ch
open Bn He

def zs : Span := ⟨0, 0, 0, 0⟩
def isUsed (x : Span) : Bool := decide (0 < glyphOf x x.to)
def used (l : List Span) : List Span := l.filter isUsed
def start (x : Span) : Int := if x.gl = 0 then x.fr + 1 else x.fr
def leaves (x : Span) : Bool := decide (256 ≤ x.to) || decide (256 ≤ glyphOf x x.to)
def lastTo : Int → List Span → Int
  | p, [] => p
  | _, x :: r => lastTo x.to r

theorem chain_cons {p : Int} {x : Span} {r : List Span} (h : chain p (x :: r) = true) : okSpan x = true ∧ p < x.fr ∧ chain x.to r = true := by
  simp only [chain, Bool.and_eq_true, decide_eq_true_eq] at h
  exact ⟨h.1.1, h.1.2, h.2⟩
theorem chain_mono : ∀ {l : List Span} {p q : Int}, chain p l = true → q ≤ p → chain q l = true
  | [], _, _, _, _ => rfl
  | x :: r, p, q, h, hq => by
    obtain ⟨h1, h2, h3⟩ := chain_cons h
    simp only [chain, Bool.and_eq_true, decide_eq_true_eq]
    exact ⟨⟨h1, by omega⟩, h3⟩
theorem chain_mem : ∀ {l : List Span} {p : Int}, chain p l = true → ∀ x ∈ l, okSpan x = true ∧ p < x.fr
  | [], _, _, x, hx => by simp at hx
  | y :: r, p, h, x, hx => by
    obtain ⟨h1, h2, h3⟩ := chain_cons h
    rcases List.mem_cons.1 hx with rfl | hx
    · exact ⟨h1, h2⟩
    · have := chain_mem h3 x hx
      have hy := (okSpan_iff y).1 h1
      exact ⟨this.1, by omega⟩
theorem lastTo_snoc : ∀ (a : List Span) (p : Int) (x : Span), lastTo p (a ++ [x]) = x.to
  | [], _, _ => rfl
  | y :: r, _, x => lastTo_snoc r y.to x
theorem chain_snoc : ∀ (a : List Span) (p : Int) (x : Span), chain p (a ++ [x]) = (chain p a && (okSpan x && decide (lastTo p a < x.fr)))
  | [], p, x => by rw [List.nil_append, chain, chain, chain, lastTo, Bool.and_true, Bool.true_and]
  | y :: r, p, x => by
    rw [List.cons_append, chain, chain, chain_snoc r y.to x, lastTo]
    simp only [Bool.and_assoc]
theorem chain_take : ∀ {l : List Span} {p : Int} (k : Nat), chain p l = true → chain p (l.take k) = true
  | [], _, k, _ => by simp [chain]
  | x :: r, p, 0, _ => rfl
  | x :: r, p, k + 1, h => by
    obtain ⟨h1, h2, h3⟩ := chain_cons h
    rw [List.take_succ_cons]
    simp only [chain, Bool.and_eq_true, decide_eq_true_eq]
    exact ⟨⟨h1, h2⟩, chain_take k h3⟩
theorem getD_some {l : List Span} {k : Nat} (h : k < l.length) : l[k]? = some (l.getD k zs) := by
  rw [List.getD_eq_getElem?_getD, List.getElem?_eq_getElem h]; rfl
theorem getD_mem {l : List Span} {k : Nat} (h : k < l.length) : l.getD k zs ∈ l := List.mem_of_getElem? (getD_some h)
theorem take_snoc {l : List Span} {k : Nat} (h : k < l.length) : l.take (k + 1) = l.take k ++ [l.getD k zs] := by
  rw [List.take_add_one, getD_some h]; rfl
theorem chain_step {l : List Span} {k : Nat} (h : k < l.length) : chain (-1) (l.take (k + 1)) = (chain (-1) (l.take k) && (okSpan (l.getD k zs) && decide (lastTo (-1) (l.take k) < (l.getD k zs).fr))) := by
  rw [take_snoc h, chain_snoc]
theorem lastTo_step {l : List Span} {k : Nat} (h : k < l.length) : lastTo (-1) (l.take (k + 1)) = (l.getD k zs).to := by rw [take_snoc h, lastTo_snoc]
theorem isL_chain {l : List Span} (h : isL l = true) : chain (-1) l = true ∧ l.length ≤ 65536 := by
  unfold isL at h
  simpa only [Bool.and_eq_true, decide_eq_true_eq] using h
theorem isL_no {l : List Span} {k : Nat} (h : chain (-1) (l.take k) = false) : isL l = false := by
  unfold isL
  cases hc : chain (-1) l with
  | true => rw [chain_take k hc] at h; cases h
  | false => rfl
theorem isL_many {l : List Span} (h : 65536 < l.length) : isL l = false := by
  unfold isL
  rw [decide_eq_false (by omega), Bool.and_false]
theorem isL_yes {l : List Span} (h : l.length ≤ 65536) (hc : chain (-1) (l.take l.length) = true) : isL l = true := by
  rw [List.take_length] at hc
  unfold isL
  rw [hc, decide_eq_true h]; rfl

theorem glyph_le {x : Span} (h : okSpan x = true) {c : Int} (hc : c ≤ x.to) : glyphOf x c ≤ glyphOf x x.to := by
  obtain ⟨a1, a2, a3, a4, a5, a6, a7, a8⟩ := (okSpan_iff x).1 h
  unfold glyphOf
  rcases (show x.st = 0 ∨ x.st = 1 by omega) with e | e
  · rw [e]; omega
  · rw [e]; omega
theorem unused {x : Span} (h : okSpan x = true) (hu : isUsed x = false) {c : Int} (h1 : x.fr ≤ c) (h2 : c ≤ x.to) : glyphOf x c = 0 := by
  have := glyph_le h h2
  have := glyphOf_bound h h1 h2
  simp [isUsed] at hu
  omega
theorem used_iff {x : Span} (h : okSpan x = true) : ¬ (x.gl = 0 ∧ x.st = 0 ∨ x.to < (if x.gl = 0 then x.fr + 1 else x.fr)) ↔ isUsed x = true := by
  obtain ⟨a1, a2, a3, a4, a5, a6, a7, a8⟩ := (okSpan_iff x).1 h
  unfold isUsed glyphOf
  rw [decide_eq_true_eq]
  rcases (show x.st = 0 ∨ x.st = 1 by omega) with e | e
  · rw [e]
    by_cases g : x.gl = 0
    · simp [g]
    · rw [if_neg g]; omega
  · rw [e]
    by_cases g : x.gl = 0
    · rw [if_pos g]; omega
    · rw [if_neg g]; omega
theorem start_bound {x : Span} (h : okSpan x = true) (hu : isUsed x = true) : 0 ≤ start x ∧ x.fr ≤ start x ∧ start x ≤ x.to := by
  obtain ⟨a1, a2, a3, a4, a5, a6, a7, a8⟩ := (okSpan_iff x).1 h
  have := (used_iff h).2 hu
  unfold start
  by_cases g : x.gl = 0
  · rw [if_pos g] at this ⊢; omega
  · rw [if_neg g] at this ⊢; omega
theorem used_mem {l : List Span} {x : Span} (h : x ∈ used l) : x ∈ l ∧ isUsed x = true := by
  unfold used at h
  exact List.mem_filter.1 h
theorem used_len (l : List Span) : (used l).length ≤ l.length := List.length_filter_le _ _
theorem used_step {l : List Span} {k : Nat} (h : k < l.length) : used (l.take (k + 1)) = used (l.take k) ++ if isUsed (l.getD k zs) = true then [l.getD k zs] else [] := by
  rw [take_snoc h]
  unfold used
  rw [List.filter_append]
  congr 1
  by_cases e : isUsed (l.getD k zs) = true
  · rw [if_pos e, List.filter_cons_of_pos e, List.filter_nil]
  · rw [if_neg e, List.filter_cons_of_neg e, List.filter_nil]
theorem chain_used : ∀ {l : List Span} {p : Int}, chain p l = true → chain p (used l) = true
  | [], _, _ => rfl
  | x :: r, p, h => by
    obtain ⟨h1, h2, h3⟩ := chain_cons h
    have hx := (okSpan_iff x).1 h1
    have hr := chain_used h3
    unfold used at *
    by_cases e : isUsed x = true
    · rw [List.filter_cons_of_pos e]
      simp only [chain, Bool.and_eq_true, decide_eq_true_eq]
      exact ⟨⟨h1, h2⟩, hr⟩
    · rw [List.filter_cons_of_neg e]
      exact chain_mono hr (by omega)
theorem look_used : ∀ {l : List Span} {p : Int}, chain p l = true → ∀ c, look (used l) c = look l c
  | [], _, _, _ => rfl
  | x :: r, p, h, c => by
    obtain ⟨h1, h2, h3⟩ := chain_cons h
    have hr := look_used h3 c
    unfold used at *
    by_cases e : isUsed x = true
    · rw [List.filter_cons_of_pos e, look, look, hr]
    · rw [List.filter_cons_of_neg e, hr, look]
      by_cases hc : x.fr ≤ c ∧ c ≤ x.to
      · rw [if_pos hc, unused h1 (by simpa using e) hc.1 hc.2]
        exact look_low r x.to h3 c hc.2
      · rw [if_neg hc]
theorem look_snoc : ∀ (a : List Span) {p : Int} {x : Span}, chain p (a ++ [x]) = true → ∀ c, look (a ++ [x]) c = if x.fr ≤ c ∧ c ≤ x.to then glyphOf x c else look a c
  | [], _, _, _, _ => rfl
  | y :: r, p, x, h, c => by
    rw [List.cons_append] at h ⊢
    obtain ⟨h1, h2, h3⟩ := chain_cons h
    rw [look, look, look_snoc r h3 c]
    by_cases hy : y.fr ≤ c ∧ c ≤ y.to
    · have := (chain_mem h3 x (by simp)).2
      rw [if_pos hy, if_neg (by omega), if_pos hy]
    · rw [if_neg hy, if_neg hy]
theorem look_mem : ∀ {l : List Span} {p : Int}, chain p l = true → ∀ x ∈ l, ∀ c, x.fr ≤ c → c ≤ x.to → look l c = glyphOf x c
  | [], _, _, x, hx, _, _, _ => by simp at hx
  | y :: r, p, h, x, hx, c, c1, c2 => by
    obtain ⟨h1, h2, h3⟩ := chain_cons h
    rw [look]
    rcases List.mem_cons.1 hx with rfl | hx
    · rw [if_pos ⟨c1, c2⟩]
    · have := (chain_mem h3 x hx).2
      rw [if_neg (by omega)]
      exact look_mem h3 x hx c c1 c2
theorem look_some : ∀ {l : List Span} {c : Int}, look l c ≠ 0 → ∃ x ∈ l, x.fr ≤ c ∧ c ≤ x.to ∧ look l c = glyphOf x c
  | [], _, h => absurd rfl h
  | y :: r, c, h => by
    rw [look] at h ⊢
    by_cases e : y.fr ≤ c ∧ c ≤ y.to
    · rw [if_pos e]; exact ⟨y, by simp, e.1, e.2, rfl⟩
    · rw [if_neg e] at h ⊢
      obtain ⟨x, hx, h1⟩ := look_some h
      exact ⟨x, by simp [hx], h1⟩

/-! The first and the last rune. -/
def uStep (p : Int × Int) (x : Span) : Int × Int := (if p.1 < 0 then start x else p.1, x.to)
theorem endStep_used {x : Span} (h : okSpan x = true) (p : Int × Int) : endStep p x = if isUsed x = true then uStep p x else p := by
  unfold endStep
  by_cases e : isUsed x = true
  · rw [if_pos e, if_neg ((used_iff h).2 e)]; rfl
  · rw [if_neg e]
    by_cases g : x.gl = 0 ∧ x.st = 0 ∨ x.to < (if x.gl = 0 then x.fr + 1 else x.fr)
    · rw [if_pos g]
    · exact absurd ((used_iff h).1 g) e
theorem ends_used : ∀ (l : List Span), (∀ x ∈ l, okSpan x = true) → ∀ q, l.foldl endStep q = (used l).foldl uStep q
  | [], _, _ => rfl
  | x :: r, h, q => by
    have hr := ends_used r (fun y hy => h y (by simp [hy]))
    unfold used at *
    rw [List.foldl_cons, endStep_used (h x (by simp))]
    by_cases e : isUsed x = true
    · rw [if_pos e, List.filter_cons_of_pos e, List.foldl_cons, hr]
    · rw [if_neg e, List.filter_cons_of_neg e, hr]
theorem fold_u : ∀ (l : List Span) (q : Int × Int), 0 ≤ q.1 → l.foldl uStep q = (q.1, if l.length = 0 then q.2 else (l.getD (l.length - 1) zs).to)
  | [], q, _ => rfl
  | x :: r, q, h => by
    have e : uStep q x = (q.1, x.to) := by unfold uStep; rw [if_neg (by omega)]
    rw [List.foldl_cons, e, fold_u r (q.1, x.to) h, List.length_cons, if_neg (show ¬ r.length + 1 = 0 by omega)]
    cases r with
    | nil => rfl
    | cons y t => rfl
theorem trim {l : List Span} (h : isL l = true) : ((used l).length = 0 → first l = 0 ∧ count l = 0) ∧
    ((used l).length ≠ 0 → first l = start ((used l).getD 0 zs) ∧ count l = ((used l).getD ((used l).length - 1) zs).to + 1 - start ((used l).getD 0 zs)) := by
  obtain ⟨hc, _⟩ := isL_chain h
  have he : ends l = (used l).foldl uStep (-1, -1) := ends_used l (fun x hx => (chain_mem hc x hx).1) _
  constructor
  · intro h0
    rw [List.eq_nil_of_length_eq_zero h0] at he
    unfold first count
    rw [he]
    simp
  · intro h0
    have hm : (used l).getD 0 zs ∈ used l := getD_mem (by omega)
    obtain ⟨m1, m2⟩ := used_mem hm
    have hs := start_bound (chain_mem hc _ m1).1 m2
    cases hu : used l with
    | nil => rw [hu] at h0; simp at h0
    | cons y r =>
      rw [hu] at he hs
      have hs' : 0 ≤ start y ∧ y.fr ≤ start y ∧ start y ≤ y.to := hs
      have e1 : uStep (-1, -1) y = (start y, y.to) := by unfold uStep; rw [if_pos (by simp)]
      rw [List.foldl_cons, e1, fold_u r _ hs'.1] at he
      unfold first count
      rw [he, if_pos hs'.1, if_pos hs'.1]
      refine ⟨rfl, ?_⟩
      show (if r.length = 0 then y.to else (r.getD (r.length - 1) zs).to) - start y + 1 = _
      have e2 : (if r.length = 0 then y.to else (r.getD (r.length - 1) zs).to) = ((y :: r).getD ((y :: r).length - 1) zs).to := by
        cases r with
        | nil => rfl
        | cons z t => rfl
      rw [e2]
      show _ = _ + 1 - start y
      omega
theorem trimmed_in {l : List Span} (h : isL l = true) {x : Span} (hx : x ∈ used l) : x.to - first l < count l ∧ 0 ≤ first l := by
  obtain ⟨hc, _⟩ := isL_chain h
  obtain ⟨m1, m2⟩ := used_mem hx
  have ho := (chain_mem hc x m1).1
  have hok := (okSpan_iff x).1 ho
  have hl := look_mem hc x m1 x.to hok.2.1 (Int.le_refl _)
  have hp : 0 < glyphOf x x.to := by simpa [isUsed] using m2
  obtain ⟨e1, e2⟩ := ends_spec h
  obtain ⟨k1, k2, k3⟩ := e2 x.to (by omega)
  unfold first count
  rw [if_pos k1, if_pos k1]
  omega
theorem fc_bound {l : List Span} (h : isL l = true) : 0 ≤ first l ∧ first l ≤ 1114111 ∧ 0 ≤ count l ∧ count l ≤ 1114112 := by
  obtain ⟨e1, _⟩ := ends_spec h
  unfold first count
  by_cases h0 : 0 ≤ (ends l).1
  · rw [if_pos h0, if_pos h0]; have := e1 h0; omega
  · rw [if_neg h0, if_neg h0]; omega
theorem put6_arg {l : List Span} (h : isL l = false) : putTrimmed l = ([], 1) := by unfold putTrimmed; rw [if_pos h]
theorem put6_long {l : List Span} (h : isL l = true) (hc : 65536 < first l + count l ∨ 32762 < count l) : putTrimmed l = ([], 7) := by
  unfold putTrimmed
  rw [if_neg (by rw [h]; simp)]
  by_cases c2 : 0 ≤ (ends l).1 ∧ 65535 < (ends l).2
  · rw [if_pos c2]
  · rw [if_neg c2]
    rcases hc with hc | hc
    · exfalso
      unfold first count at hc
      by_cases h0 : 0 ≤ (ends l).1
      · rw [if_pos h0, if_pos h0] at hc; omega
      · rw [if_neg h0, if_neg h0] at hc; omega
    · rw [if_pos hc]
theorem put6_right {l : List Span} (h : isL l = true) (hc : ¬ (65536 < first l + count l ∨ 32762 < count l)) : putTrimmed l = (trimmed l, 0) := by
  unfold putTrimmed
  have hc1 : first l + count l ≤ 65536 := by omega
  rw [if_neg (by rw [h]; simp), if_neg (by
    rintro ⟨h0, h1⟩
    unfold first count at hc1
    rw [if_pos h0, if_pos h0] at hc1; omega), if_neg (by omega)]
theorem put0_arg {l : List Span} (h : isL l = false) : putSmall l = ([], 1) := by unfold putSmall; rw [if_pos h]
theorem put0_long {l : List Span} (h : isL l = true) (hc : (used l).any leaves = true) : putSmall l = ([], 7) := by
  obtain ⟨hch, _⟩ := isL_chain h
  rw [List.any_eq_true] at hc
  obtain ⟨x, hx, hv⟩ := hc
  obtain ⟨m1, m2⟩ := used_mem hx
  have ho := (chain_mem hch x m1).1
  have hok := (okSpan_iff x).1 ho
  have hl := look_mem hch x m1 x.to hok.2.1 (Int.le_refl _)
  have hp : 0 < glyphOf x x.to := by simpa [isUsed] using m2
  obtain ⟨e1, e2⟩ := ends_spec h
  obtain ⟨k1, k2, k3⟩ := e2 x.to (by omega)
  unfold putSmall
  rw [if_neg (by rw [h]; simp)]
  by_cases c2 : 0 ≤ (ends l).1 ∧ 255 < (ends l).2
  · rw [if_pos c2]
  · rw [if_neg c2, if_pos]
    simp only [leaves, Bool.or_eq_true, decide_eq_true_eq] at hv
    rw [List.any_eq_true]
    refine ⟨x.to.toNat, List.mem_range.2 (by omega), ?_⟩
    rw [decide_eq_true_eq, Int.toNat_of_nonneg (by omega), hl]
    omega
theorem small_in {l : List Span} (h : isL l = true) (hc : (used l).any leaves = false) : (∀ x ∈ used l, x.to < 256) ∧ ∀ c, look l c ≤ 255 := by
  obtain ⟨hch, _⟩ := isL_chain h
  rw [List.any_eq_false] at hc
  have key : ∀ x ∈ used l, x.to < 256 ∧ glyphOf x x.to < 256 := by
    intro x hx
    have := hc x hx
    simp only [leaves, Bool.or_eq_true, decide_eq_true_eq, not_or] at this
    omega
  refine ⟨fun x hx => (key x hx).1, fun c => ?_⟩
  by_cases hz : look l c = 0
  · omega
  · rw [← look_used hch c] at hz
    obtain ⟨x, hx, h1, h2, h3⟩ := look_some hz
    obtain ⟨m1, m2⟩ := used_mem hx
    have := glyph_le (chain_mem hch x m1).1 h2
    have := (key x hx).2
    rw [← look_used hch c]
    omega
theorem last_used {l : List Span} (h : isL l = true) (h0 : 0 ≤ (ends l).1) : ∃ x ∈ used l, x.to = (ends l).2 := by
  obtain ⟨t1, t2⟩ := trim h
  by_cases e : (used l).length = 0
  · exfalso
    obtain ⟨hc, _⟩ := isL_chain h
    have he : ends l = (used l).foldl uStep (-1, -1) := ends_used l (fun x hx => (chain_mem hc x hx).1) _
    rw [List.eq_nil_of_length_eq_zero e] at he
    rw [he] at h0
    simp at h0
  · obtain ⟨f1, f2⟩ := t2 e
    refine ⟨_, getD_mem (k := (used l).length - 1) (by omega), ?_⟩
    unfold first at f1
    unfold count at f2
    rw [if_pos h0] at f1 f2
    omega
theorem put0_right {l : List Span} (h : isL l = true) (hc : (used l).any leaves = false) : putSmall l = ([0, 0, 1, 6, 0, 0] ++ small l, 0) := by
  obtain ⟨s1, s2⟩ := small_in h hc
  unfold putSmall
  rw [if_neg (by rw [h]; simp), if_neg (by
    rintro ⟨h0, h1⟩
    obtain ⟨x, hx, e⟩ := last_used h h0
    have := s1 x hx
    omega), if_neg (by
    rw [Bool.not_eq_true, List.any_eq_false]
    intro c _
    rw [decide_eq_true_eq]
    have := s2 (c : Int)
    omega)]

/-! Glyphs, laid span by span. -/
def laid (k : List Span) (a : Int) (n : Nat) : List Int := (List.range n).map fun i : Nat => look k (a + (i : Int))
def laidTo (k : List Span) (x : Span) (c a : Int) (n : Nat) : List Int := (List.range n).map fun i : Nat => if x.fr ≤ a + (i : Int) ∧ a + (i : Int) < c then glyphOf x (a + (i : Int)) else look k (a + (i : Int))
theorem laid_len (k : List Span) (a : Int) (n : Nat) : (laid k a n).length = n := by simp [laid]
theorem laidTo_len (k : List Span) (x : Span) (c a : Int) (n : Nat) : (laidTo k x c a n).length = n := by simp [laidTo]
theorem laid_nil (a : Int) (n : Nat) : laid [] a n = List.replicate n 0 := by
  unfold laid
  rw [List.eq_replicate_iff]
  refine ⟨by simp, fun b hb => ?_⟩
  obtain ⟨i, _, rfl⟩ := List.mem_map.1 hb
  rfl
theorem laidTo_start (k : List Span) (x : Span) (a : Int) (n : Nat) {c : Int} (h : c = max x.fr a) : laidTo k x c a n = laid k a n := by
  unfold laidTo laid
  apply List.map_congr_left
  intro i _
  rw [if_neg (by omega)]
theorem laidTo_set (k : List Span) (x : Span) (a : Int) (n : Nat) {c : Int} (h1 : x.fr ≤ c) (h2 : a ≤ c) : (laidTo k x c a n).set (c - a).toNat (glyphOf x c) = laidTo k x (c + 1) a n := by
  apply List.ext_getElem
  · simp [laidTo]
  · intro i hi hi2
    have at1 : ∀ (d : Int) (h : i < (laidTo k x d a n).length), (laidTo k x d a n)[i] = if x.fr ≤ a + (i : Int) ∧ a + (i : Int) < d then glyphOf x (a + (i : Int)) else look k (a + (i : Int)) := by
      intro d h
      simp [laidTo]
    rw [List.getElem_set, at1]
    by_cases e : (c - a).toNat = i
    · rw [if_pos e, at1, show a + (i : Int) = c by omega, if_pos (by omega)]
    · rw [if_neg e, at1]
      by_cases e2 : x.fr ≤ a + (i : Int) ∧ a + (i : Int) < c
      · rw [if_pos e2, if_pos (by omega)]
      · rw [if_neg e2, if_neg (by omega)]
theorem laidTo_end {k : List Span} {x : Span} {p : Int} (hch : chain p (k ++ [x]) = true) (a : Int) (n : Nat) {c : Int} (h : x.to < c) (h2 : c ≤ x.to + 1 ∨ x.to < a ∧ c ≤ a) : laidTo k x c a n = laid (k ++ [x]) a n := by
  unfold laidTo laid
  apply List.map_congr_left
  intro i _
  rw [look_snoc k hch]
  by_cases e : x.fr ≤ a + (i : Int) ∧ a + (i : Int) ≤ x.to
  · rw [if_pos e, if_pos (by omega)]
  · rw [if_neg e, if_neg (by omega)]

/-! The search. -/
theorem look_drop : ∀ {l : List Span} {p : Int} (i : Nat), chain p l = true → i ≤ l.length → ∀ {c : Int}, (i = 0 ∨ (l.getD (i - 1) zs).to < c) → look l c = look (l.drop i) c
  | l, _, 0, _, _, _, _ => by rw [List.drop_zero]
  | [], _, i + 1, _, hi, _, _ => by simp at hi
  | x :: r, p, i + 1, h, hi, c, hc => by
    obtain ⟨h1, h2, h3⟩ := chain_cons h
    have hi' : i ≤ r.length := by simpa using hi
    have hto : ((x :: r).getD i zs).to < c := by
      rcases hc with hc | hc
      · omega
      · exact hc
    have hx : x.to < c := by
      cases i with
      | zero => exact hto
      | succ j =>
        have e : (x :: r).getD (j + 1) zs = r.getD j zs := rfl
        rw [e] at hto
        have hm := chain_mem h3 _ (getD_mem (l := r) (k := j) (by omega))
        have := (okSpan_iff _).1 hm.1
        omega
    rw [look, if_neg (by omega), List.drop_succ_cons]
    refine look_drop i h3 hi' ?_
    cases i with
    | zero => exact .inl rfl
    | succ j => exact .inr hto
theorem chain_drop : ∀ {l : List Span} {p : Int} (i : Nat), chain p l = true → ∃ q, chain q (l.drop i) = true
  | l, p, 0, h => ⟨p, by rw [List.drop_zero]; exact h⟩
  | [], p, i + 1, _ => ⟨p, by simp [chain]⟩
  | x :: r, p, i + 1, h => by
    obtain ⟨h1, h2, h3⟩ := chain_cons h
    rw [List.drop_succ_cons]
    exact chain_drop i h3
theorem look_found {l : List Span} (h : isL l = true) {c : Int} {i : Nat} (hi : i ≤ l.length) (hlo : i = 0 ∨ (l.getD (i - 1) zs).to < c) (hhi : i = l.length ∨ c ≤ (l.getD i zs).to) :
    (i = l.length ∨ c < (l.getD i zs).fr → Look l c = 0) ∧ (¬ (i = l.length ∨ c < (l.getD i zs).fr) → Look l c = glyphOf (l.getD i zs) c) := by
  obtain ⟨hc, _⟩ := isL_chain h
  unfold Look
  rw [if_pos h, look_drop i hc hi hlo]
  by_cases e : i = l.length
  · refine ⟨fun _ => ?_, fun h => absurd (.inl e) h⟩
    rw [e, List.drop_length]; rfl
  · have hlt : i < l.length := by omega
    have hd : l.drop i = l.getD i zs :: l.drop (i + 1) := by
      rw [List.drop_eq_getElem_cons hlt, List.getD_eq_getElem?_getD, List.getElem?_eq_getElem hlt]; rfl
    obtain ⟨q, hq⟩ := chain_drop i hc
    rw [hd] at hq ⊢
    obtain ⟨h1, h2, h3⟩ := chain_cons hq
    have hok := (okSpan_iff _).1 h1
    refine ⟨fun h => ?_, fun h => ?_⟩
    · rw [look, if_neg (by omega)]
      exact look_low _ _ h3 c (by omega)
    · rw [look, if_pos (by omega)]
theorem tos_rise {l : List Span} (h : isL l = true) {i j : Nat} (hij : i ≤ j) (hj : j < l.length) : (l.getD i zs).to ≤ (l.getD j zs).to := by
  obtain ⟨hc, _⟩ := isL_chain h
  rcases Nat.lt_or_ge i j with hlt | hge
  · obtain ⟨q, hq⟩ := chain_drop i hc
    have hd : l.drop i = l.getD i zs :: l.drop (i + 1) := by
      rw [List.drop_eq_getElem_cons (by omega), List.getD_eq_getElem?_getD, List.getElem?_eq_getElem (by omega)]; rfl
    rw [hd] at hq
    obtain ⟨h1, h2, h3⟩ := chain_cons hq
    have hm : l.getD j zs ∈ l.drop (i + 1) := by
      refine List.mem_of_getElem? (i := j - (i + 1)) ?_
      rw [List.getElem?_drop, show i + 1 + (j - (i + 1)) = j by omega, getD_some hj]
    have := chain_mem h3 _ hm
    have := (okSpan_iff _).1 this.1
    omega
  · obtain rfl : i = j := by omega
    exact Int.le_refl _

/-! Spans of glyphs. -/
def spansL : Int → List Int → List Span
  | _, [] => []
  | a, g :: r => (if g = 0 then [] else [⟨a, a, g, 1⟩]) ++ spansL (a + 1) r
theorem spansL_snoc : ∀ (l : List Int) (a g : Int), spansL a (l ++ [g]) = spansL a l ++ if g = 0 then [] else [⟨a + (l.length : Int), a + (l.length : Int), g, 1⟩]
  | [], a, g => by simp [spansL]
  | x :: r, a, g => by
    rw [List.cons_append, spansL, spansL, spansL_snoc r, List.append_assoc, List.length_cons, show a + 1 + (r.length : Int) = a + ((r.length + 1 : Nat) : Int) by omega]
theorem spansL_len : ∀ (l : List Int) (a : Int), (spansL a l).length ≤ l.length
  | [], _ => by simp [spansL]
  | x :: r, a => by
    rw [spansL, List.length_append, List.length_cons]
    have := spansL_len r (a + 1)
    by_cases e : x = 0
    · rw [if_pos e]; simp; omega
    · rw [if_neg e]; simp; omega
theorem spansL_step {l : List Int} {k : Nat} (h : k < l.length) (a : Int) : spansL a (l.take (k + 1)) = spansL a (l.take k) ++ if l.getD k 0 = 0 then [] else [⟨a + (k : Int), a + (k : Int), l.getD k 0, 1⟩] := by
  have e : l.take (k + 1) = l.take k ++ [l.getD k 0] := by
    rw [List.take_add_one, List.getElem?_eq_getElem h, List.getD_eq_getElem?_getD, List.getElem?_eq_getElem h]; rfl
  rw [e, spansL_snoc, List.length_take, Nat.min_eq_left (by omega)]
theorem spansL_eq (h : Int → Int) : ∀ (l : List Int) (a : Int), (∀ i, i < l.length → l.getD i 0 = h (a + (i : Nat))) → spansL a l = spansOf h a l.length
  | [], _, _ => rfl
  | x :: r, a, he => by
    have h0 := he 0 (by simp)
    have h0' : x = h a := by simpa using h0
    rw [spansL, List.length_cons, spansOf, ← h0', spansL_eq h r (a + 1) fun i hi => ?_]
    have := he (i + 1) (by simpa using hi)
    rw [show a + 1 + (i : Int) = a + ((i + 1 : Nat) : Int) by omega, ← this]
    rfl

/-! Rows of one size. -/
theorem bget_two (s : List UInt8) (pos : Nat) : Bn.get s (pos : Int) [2, 2] = if s.length < pos + 4 then ([], 4) else ([fld s pos 2, fld s (pos + 2) 2], 0) := by
  unfold Bn.get
  rw [if_neg (by simp [allSizes, isSize]), show many [2, 2] = 4 from rfl]
  by_cases h : s.length < pos + 4
  · rw [if_pos h, if_pos (by omega)]
  · rw [if_neg h, if_neg (by omega), Int.toNat_natCast]
    simp only [fields, fld]
    rw [List.drop_drop]
    rfl
theorem bget_rep (s : List UInt8) (pos n : Nat) {size : Int} (hz : isSize size = true) : Bn.get s (pos : Int) (List.replicate n size) = if s.length < pos + size.natAbs * n then ([], 4) else ((List.range n).map fun i => fld s (pos + size.natAbs * i) size, 0) := by
  unfold Bn.get
  rw [if_neg (by rw [Gl.rep_sizes hz]; simp), Gl.rep_many]
  by_cases h : s.length < pos + size.natAbs * n
  · rw [if_pos h, if_pos (by omega)]
  · rw [if_neg h, if_neg (by omega), Int.toNat_natCast, Gl.rep_fields]
    congr 1
    apply List.map_congr_left
    intro i _
    unfold fld
    rw [List.drop_drop]
theorem fld_one (s : List UInt8) (p : Nat) : fld s p 1 = byteAt s p := by
  unfold fld byteAt one
  rw [if_neg (by omega)]
  rcases Nat.lt_or_ge p s.length with h | h
  · rw [List.drop_eq_getElem_cons h, List.getD_eq_getElem?_getD, List.getElem?_eq_getElem h]
    rw [show (1 : Int).natAbs = 1 from rfl, List.take_succ_cons, List.take_zero]
    simp [be]
  · rw [List.drop_eq_nil_of_le h, List.getD_eq_getElem?_getD, List.getElem?_eq_none h]
    rfl
/-- The rest of a subtable of format 0, of this length. -/
def getS (s : List UInt8) (n : Int) : List Span × Int :=
  if n ≠ 262 then ([], 5) else if s.length < 262 then ([], 4) else (spansL 0 ((List.range 256).map fun i => fld s (6 + 1 * i) 1), 0)
def getT (s : List UInt8) (n : Int) : List Span × Int :=
  if s.length < 10 then ([], 4)
  else if n ≠ 10 + 2 * fld s 8 2 then ([], 5)
  else if s.length < 10 + 2 * (fld s 8 2).toNat then ([], 4)
  else if 65536 < fld s 6 2 + fld s 8 2 then ([], 5)
  else (spansL (fld s 6 2) ((List.range (fld s 8 2).toNat).map fun i => fld s (10 + 2 * i) 2), 0)
theorem range_getD (f : Nat → Int) (n i : Nat) (h : i < n) : ((List.range n).map f).getD i 0 = f i := by simp [List.getD, h]
theorem get_more {s : List UInt8} (h : s.length < 4) : get s = ([], 4) := by unfold get; rw [if_pos h]
theorem get_zero {s : List UInt8} (h : 4 ≤ s.length) (h0 : fld s 0 2 = 0) : get s = getS s (fld s 2 2) := by
  unfold get getS
  rw [if_neg (by omega), if_pos h0]
  by_cases c1 : fld s 2 2 ≠ 262
  · rw [if_pos c1, if_pos c1]
  · rw [if_neg c1, if_neg c1]
    by_cases c2 : s.length < 262
    · rw [if_pos c2, if_pos c2]
    · rw [if_neg c2, if_neg c2, spansL_eq (fun c => byteAt s (6 + c.toNat)) _ 0 fun i hi => ?_]
      · simp
      · rw [range_getD _ _ _ (by simpa using hi), fld_one, Nat.one_mul]
        simp
theorem get_six {s : List UInt8} (h : 4 ≤ s.length) (h0 : fld s 0 2 = 6) : get s = getT s (fld s 2 2) := by
  unfold get getT
  rw [if_neg (by omega), h0, if_neg (by simp), if_neg (by simp)]
  have b8 := fld_bound s 8
  by_cases c1 : s.length < 10
  · rw [if_pos c1, if_pos c1]
  · rw [if_neg c1, if_neg c1]
    by_cases c2 : fld s 2 2 ≠ 10 + 2 * fld s 8 2
    · rw [if_pos c2, if_pos c2]
    · rw [if_neg c2, if_neg c2]
      simp only [ne_eq, Decidable.not_not] at c2
      by_cases c3 : s.length < 10 + 2 * (fld s 8 2).toNat
      · rw [if_pos c3, if_pos (by omega)]
      · rw [if_neg c3, if_neg (by omega)]
        by_cases c4 : 65536 < fld s 6 2 + fld s 8 2
        · rw [if_pos c4, if_pos c4]
        · rw [if_neg c4, if_neg c4, spansL_eq (fun c => fld s (10 + 2 * (c - fld s 6 2).toNat) 2) _ (fld s 6 2) fun i hi => ?_]
          · simp
          · rw [range_getD _ _ _ (by simpa using hi)]
            congr 3
            omega
theorem get_form5 {s : List UInt8} (h : 4 ≤ s.length) (h0 : fld s 0 2 ≠ 0) (h6 : fld s 0 2 ≠ 6) : get s = ([], 5) := by
  unfold get
  rw [if_neg (by omega), if_neg h0, if_pos h6]
theorem put_two {size : Int} (hz : isSize size = true) {xs ys : List Int} (h : ∀ v ∈ xs, fits v 2 = true) (h2 : ∀ v ∈ ys, fits v size = true) :
    Bn.put (List.replicate xs.length 2 ++ List.replicate ys.length size) (xs ++ ys) = (flat 2 xs ++ flat size ys, 0) := by
  unfold Bn.put
  rw [allSizes_append, Gl.rep_sizes (by decide), Gl.rep_sizes hz, if_neg (by simp), allFit_append _ _ _ _ (by simp), Gl.allFit_rep, Gl.allFit_rep, join_append _ _ _ _ (by simp), Gl.join_rep, Gl.join_rep,
    if_neg (by rw [List.all_eq_true.2 h, List.all_eq_true.2 h2]; simp)]
theorem laid_used {l : List Span} (h : isL l = true) (a : Int) (n : Nat) : laid (used l) a n = laid l a n := by
  unfold laid
  apply List.map_congr_left
  intro i _
  exact look_used (isL_chain h).1 _
theorem bytes_small {v : Int} (h0 : 0 ≤ v) (h1 : v ≤ 255) : bytes v 1 = [UInt8.ofNat v.toNat] := by
  obtain ⟨k, rfl⟩ := Int.eq_ofNat_of_zero_le h0
  have hb := one_bytes (k : Int) 1 (by decide) (by simp [fits]; omega)
  have hl := bytes_len (k : Int) 1
  obtain ⟨b, hb2⟩ : ∃ b, bytes (k : Int) 1 = [b] := by
    cases e : bytes (k : Int) 1 with
    | nil => rw [e] at hl; simp at hl
    | cons b r =>
      rw [e] at hl
      cases r with
      | nil => exact ⟨b, rfl⟩
      | cons _ _ => simp at hl
  have hb' : one (bytes (k : Int) 1) 1 = k := hb
  rw [hb2] at hb' ⊢
  unfold one at hb'
  rw [if_neg (by omega)] at hb'
  simp [be] at hb'
  rw [Int.toNat_natCast]
  congr 1
  apply UInt8.toNat_inj.1
  rw [UInt8.toNat_ofNat_of_lt' (by simp [UInt8.size]; omega)]
  omega
theorem flat_small : ∀ (xs : List Int), (∀ v ∈ xs, 0 ≤ v ∧ v ≤ 255) → flat 1 xs = xs.map fun v => UInt8.ofNat v.toNat
  | [], _ => rfl
  | x :: r, h => by
    have hx := h x (by simp)
    rw [flat, flat_small r (fun v hv => h v (by simp [hv])), List.map_cons, show (1 : Int).natAbs = 1 from rfl, bytes_small hx.1 hx.2]
    rfl
theorem laid_mem {l : List Span} (h : isL l = true) {a : Int} {n : Nat} {v : Int} (hv : v ∈ laid l a n) : 0 ≤ v ∧ v ≤ 65535 := by
  unfold laid at hv
  obtain ⟨i, _, rfl⟩ := List.mem_map.1 hv
  exact look_b h _
set_option maxRecDepth 4000 in
/-- What is written by format 0. -/
theorem small_put {l : List Span} (h : isL l = true) (hc : (used l).any leaves = false) : Bn.put (List.replicate 3 2 ++ List.replicate 256 1) ([0, 262, 0] ++ laid (used l) 0 256) = putSmall l := by
  obtain ⟨s1, s2⟩ := small_in h hc
  rw [put0_right h hc, laid_used h]
  have hb : ∀ v ∈ laid l 0 256, 0 ≤ v ∧ v ≤ 255 := by
    intro v hv
    refine ⟨(laid_mem h hv).1, ?_⟩
    unfold laid at hv
    obtain ⟨i, _, rfl⟩ := List.mem_map.1 hv
    exact s2 _
  have hp := put_two (size := 1) (by decide) (xs := [0, 262, 0]) (ys := laid l 0 256) (by decide) (fun v hv => by
    have := hb v hv
    simp [fits]; omega)
  rw [laid_len] at hp
  rw [show List.replicate 3 (2 : Int) = List.replicate [(0 : Int), 262, 0].length 2 from rfl, hp, flat_small _ hb]
  congr 1
/-- What is written by format 6. -/
theorem trimmed_put {l : List Span} (h : isL l = true) (hc : ¬ (65536 < first l + count l ∨ 32762 < count l)) :
    Bn.put (List.replicate 5 2 ++ List.replicate (count l).toNat 2) ([6, 10 + 2 * count l, 0, first l, count l] ++ laid (used l) (first l) (count l).toNat) = putTrimmed l := by
  have hb := fc_bound h
  have hfirst : first l ≤ 65535 := by
    have hc1 : first l + count l ≤ 65536 := by omega
    unfold first count at *
    by_cases h0 : 0 ≤ (ends l).1
    · rw [if_pos h0] at *; rw [if_pos h0] at hc1; have := (ends_spec h).1 h0; omega
    · rw [if_neg h0] at *; omega
  rw [put6_right h hc, laid_used h]
  have hp := put_two (size := 2) (by decide) (xs := [6, 10 + 2 * count l, 0, first l, count l]) (ys := laid l (first l) (count l).toNat) (by
    intro v hv
    simp only [List.mem_cons, List.not_mem_nil, or_false] at hv
    rcases hv with rfl | rfl | rfl | rfl | rfl <;> exact fits2 (by omega) (by omega)) (fun v hv => fits2 (laid_mem h hv).1 (laid_mem h hv).2)
  rw [laid_len] at hp
  rw [show List.replicate 5 (2 : Int) = List.replicate [6, 10 + 2 * count l, 0, first l, count l].length 2 from rfl, hp]
  congr 1
end Ch
