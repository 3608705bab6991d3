/-
  Facts that the walks rest on: GpMath, CmMath, CmFacts. No conditions beyond those stated.
-/
import Derived.Test.YtppihpjcdieeoaaGreatDoorPlain
/-
  Plain functions on bytes (layer 10, group), with nothing of the program: spans of runes, parted, got and put by formats 12 and 13; facts on them. No conditions beyond those stated.
-/
namespace Ch
theorem look_app_zero : ∀ (A R : List Span) (c : Int), look R c = 0 → look (A ++ R) c = look A c
  | [], R, c, h => h
  | x :: r, R, c, h => by rw [List.cons_append, look, look, look_app_zero r R c h]
theorem look_app_miss : ∀ (A R : List Span) (c : Int), (∀ y ∈ A, ¬ (y.fr ≤ c ∧ c ≤ y.to)) → look (A ++ R) c = look R c
  | [], R, c, _ => rfl
  | x :: r, R, c, h => by rw [List.cons_append, look, if_neg (h x (by simp)), look_app_miss r R c fun y hy => h y (by simp [hy])]
theorem chain_fr : ∀ (l : List Span) (p : Int), chain p l = true → ∀ y ∈ l, p < y.fr
  | [], _, _, y, hy => by simp at hy
  | x :: r, p, h, y, hy => by
    simp only [chain, Bool.and_eq_true, decide_eq_true_eq] at h
    obtain ⟨a1, a2, _⟩ := (okSpan_iff x).1 h.1.1
    rcases List.mem_cons.1 hy with rfl | hy
    · exact h.1.2
    · have := chain_fr r x.to h.2 y hy; omega
theorem look_memG : ∀ (l : List Span) (p : Int), chain p l = true → ∀ y ∈ l, ∀ c, y.fr ≤ c → c ≤ y.to → look l c = glyphOf y c
  | [], _, _, y, hy, _, _, _ => by simp at hy
  | x :: r, p, h, y, hy, c, h1, h2 => by
    simp only [chain, Bool.and_eq_true, decide_eq_true_eq] at h
    rw [look]
    rcases List.mem_cons.1 hy with rfl | hy
    · rw [if_pos ⟨h1, h2⟩]
    · have := chain_fr r x.to h.2 y hy
      rw [if_neg (by omega)]
      exact look_memG r x.to h.2 y hy c h1 h2
end Ch
namespace Gp
open Bn He Ch Sg

def setSt (step : Int) (x : Span) : Span := ⟨x.fr, x.to, x.gl, step⟩
/-- A span, parted into those of a step. -/
def part (step : Int) (x : Span) : List Span :=
  if x.st = step ∨ x.fr = x.to then (if hasGl x = true then [setSt step x] else [])
  else (spansOf (look [x]) x.fr (x.to - x.fr + 1).toNat).map (setSt step)
def parts (step : Int) (l : List Span) : List Span := l.flatMap (part step)
def split (l : List Span) (step : Int) : List Span × Int :=
  if isL l = false ∨ step < 0 ∨ 1 < step then ([], 1)
  else if 65536 < (parts step l).length then ([], 7)
  else (parts step l, 0)

theorem chain_setSt {step : Int} (h0 : 0 ≤ step) (h1 : step ≤ 1) : ∀ (l : List Span) (p : Int), chain p l = true → (∀ x ∈ l, x.to = x.fr) → chain p (l.map (setSt step)) = true
  | [], _, _, _ => rfl
  | x :: r, p, h, hs => by
    simp only [chain, Bool.and_eq_true, decide_eq_true_eq] at h
    have hx := hs x (by simp)
    obtain ⟨a1, a2, a3, a4, a5, a6, a7, a8⟩ := (okSpan_iff x).1 h.1.1
    have ho : okSpan (setSt step x) = true := (okSpan_iff _).2 ⟨a1, a2, a3, h0, h1, a6, a7, by show x.gl + step * (x.to - x.fr) ≤ 65535; rw [hx]; simp; exact a7⟩
    rw [List.map_cons, chain, ho]
    simp only [Bool.true_and, Bool.and_eq_true, decide_eq_true_eq]
    exact ⟨h.1.2, chain_setSt h0 h1 r x.to h.2 fun y hy => hs y (by simp [hy])⟩
theorem look_setSt {step : Int} : ∀ (l : List Span), (∀ x ∈ l, x.to = x.fr) → ∀ c, look (l.map (setSt step)) c = look l c
  | [], _, _ => rfl
  | x :: r, hs, c => by
    have hx := hs x (by simp)
    rw [List.map_cons, look, look, look_setSt r (fun y hy => hs y (by simp [hy])) c]
    show (if x.fr ≤ c ∧ c ≤ x.to then glyphOf (setSt step x) c else look r c) = _
    by_cases h : x.fr ≤ c ∧ c ≤ x.to
    · rw [if_pos h, if_pos h]
      unfold glyphOf setSt
      simp only
      rw [show c = x.fr by omega]; simp
    · rw [if_neg h, if_neg h]
theorem part_chain {step p : Int} {x : Span} (h0 : 0 ≤ step) (h1 : step ≤ 1) (hx : okSpan x = true) (hp : p < x.fr) : chain p (part step x) = true ∧ (∀ y ∈ part step x, x.fr ≤ y.fr ∧ y.to ≤ x.to ∧ y.st = step ∧ hasGl y = true) := by
  obtain ⟨a1, a2, a3, a4, a5, a6, a7, a8⟩ := (okSpan_iff x).1 hx
  have hc1 : chain (x.fr - 1) [x] = true := by rw [chain, hx, chain]; simp; omega
  unfold part
  by_cases h : x.st = step ∨ x.fr = x.to
  · rw [if_pos h]
    by_cases hg : hasGl x = true
    · rw [if_pos hg]
      have hb : x.gl + step * (x.to - x.fr) ≤ 65535 := by
        rcases h with h | h
        · rw [← h]; exact a8
        · rw [h]; simp; exact a7
      have ho : okSpan (setSt step x) = true := (okSpan_iff _).2 ⟨a1, a2, a3, h0, h1, a6, a7, hb⟩
      refine ⟨by rw [chain, ho, chain, Bool.true_and, Bool.and_true]; exact decide_eq_true hp, fun y hy => ?_⟩
      simp only [List.mem_singleton] at hy
      subst hy
      refine ⟨Int.le_refl _, Int.le_refl _, rfl, ?_⟩
      unfold hasGl at hg ⊢
      simp only [Bool.or_eq_true, Bool.and_eq_true, decide_eq_true_eq] at hg ⊢
      rcases hg with hg | hg
      · exact .inl hg
      · refine .inr ⟨?_, hg.2⟩
        show step = 1
        rcases h with h | h
        · rw [← h]; exact hg.1
        · omega
    · rw [if_neg hg]; exact ⟨rfl, fun y hy => by simp at hy⟩
  · rw [if_neg h]
    have hlb := look_bound [x] _ hc1
    refine ⟨chain_setSt h0 h1 _ _ (chain_spansOf _ hlb _ _ p hp a1 (by omega)) (fun y hy => (spansOf_mem _ _ _ y hy).2.2.1), fun y hy => ?_⟩
    obtain ⟨z, hz, rfl⟩ := List.mem_map.1 hy
    obtain ⟨m1, m2, m3, m4, _⟩ := spansOf_mem _ _ _ z hz
    have hz0 := (okSpan_iff z).1 (chain_all (P := fun x => okSpan x = true) (fun _ h => h) _ _ (chain_spansOf _ hlb _ _ (x.fr - 1) (by omega) a1 (by omega)) z hz)
    refine ⟨m1, by show z.to ≤ x.to; omega, rfl, ?_⟩
    unfold hasGl setSt
    simp only [Bool.or_eq_true, decide_eq_true_eq]
    omega
theorem look_part {step : Int} {x : Span} (hx : okSpan x = true) {c : Int} (h1 : x.fr ≤ c) (h2 : c ≤ x.to) : look (part step x) c = glyphOf x c := by
  obtain ⟨a1, a2, a3, a4, a5, a6, a7, a8⟩ := (okSpan_iff x).1 hx
  unfold part
  by_cases h : x.st = step ∨ x.fr = x.to
  · rw [if_pos h]
    by_cases hg : hasGl x = true
    · rw [if_pos hg, look]
      show (if x.fr ≤ c ∧ c ≤ x.to then glyphOf (setSt step x) c else look [] c) = _
      rw [if_pos ⟨h1, h2⟩]
      unfold glyphOf setSt
      simp only
      rcases h with h | h
      · rw [h]
      · rw [show c = x.fr by omega]; simp
    · rw [if_neg hg, noGl hx (by simpa using hg) h1 h2]; rfl
  · rw [if_neg h, look_setSt _ (fun y hy => (spansOf_mem _ _ _ y hy).2.2.1), look_spansOf, if_pos (by omega), look, if_pos ⟨h1, h2⟩]
theorem parts_chain {step : Int} (h0 : 0 ≤ step) (h1 : step ≤ 1) : ∀ (l : List Span) (p : Int), chain p l = true → chain p (parts step l) = true ∧ (∀ y ∈ parts step l, y.st = step ∧ hasGl y = true) ∧ ∀ c, look (parts step l) c = look l c
  | [], _, _ => ⟨rfl, fun y hy => by simp [parts] at hy, fun _ => rfl⟩
  | x :: r, p, h => by
    simp only [chain, Bool.and_eq_true, decide_eq_true_eq] at h
    obtain ⟨i1, i2, i3⟩ := parts_chain h0 h1 r x.to h.2
    obtain ⟨j1, j2⟩ := part_chain h0 h1 h.1.1 h.1.2
    obtain ⟨a1, a2, _⟩ := (okSpan_iff x).1 h.1.1
    have e : parts step (x :: r) = part step x ++ parts step r := by unfold parts; rw [List.flatMap_cons]
    rw [e]
    refine ⟨chain_append _ _ _ j1 (q := x.to) (by omega) (fun y hy => (j2 y hy).2.1) i1, fun y hy => ?_, fun c => ?_⟩
    · rcases List.mem_append.1 hy with hy | hy
      · exact (j2 y hy).2.2
      · exact i2 y hy
    · rw [look]
      by_cases hc : x.fr ≤ c ∧ c ≤ x.to
      · rw [if_pos hc, look_app_zero _ _ _ (look_low _ _ i1 c hc.2), look_part h.1.1 hc.1 hc.2]
      · rw [if_neg hc, look_app_miss _ _ _ (fun y hy => by have := j2 y hy; omega), i3 c]
theorem parts_again {step : Int} : ∀ (l : List Span), (∀ y ∈ l, y.st = step ∧ hasGl y = true) → parts step l = l
  | [], _ => rfl
  | x :: r, h => by
    obtain ⟨h1, h2⟩ := h x (by simp)
    have e : parts step (x :: r) = part step x ++ parts step r := by unfold parts; rw [List.flatMap_cons]
    rw [e, parts_again r fun y hy => h y (by simp [hy])]
    unfold part
    rw [if_pos (.inl h1), if_pos h2]
    cases x
    simp only at h1
    simp [setSt, h1]
theorem parts_kept {step : Int} : ∀ (l : List Span), (∀ y ∈ l, y.st = step) → parts step l = kept l
  | [], _ => rfl
  | x :: r, h => by
    have h1 := h x (by simp)
    have e : parts step (x :: r) = part step x ++ parts step r := by unfold parts; rw [List.flatMap_cons]
    rw [e, parts_kept r fun y hy => h y (by simp [hy])]
    unfold part kept
    rw [if_pos (.inl h1)]
    by_cases hg : hasGl x = true
    · rw [if_pos hg, List.filter_cons_of_pos hg]
      cases x
      simp only at h1
      simp [setSt, h1]
    · rw [if_neg hg, List.filter_cons_of_neg hg, List.nil_append]
theorem split_ok {l : List Span} {step : Int} (h : (split l step).2 = 0) : isL l = true ∧ (0 ≤ step ∧ step ≤ 1) ∧ (split l step).1 = parts step l ∧ (parts step l).length ≤ 65536 := by
  unfold split at *
  by_cases c1 : isL l = false ∨ step < 0 ∨ 1 < step
  · rw [if_pos c1] at h; cases h
  · rw [if_neg c1] at h ⊢
    by_cases c2 : 65536 < (parts step l).length
    · rw [if_pos c2] at h; cases h
    · rw [if_neg c2]
      refine ⟨?_, by omega, rfl, by omega⟩
      cases e : isL l with
      | true => rfl
      | false => exact absurd (.inl e) c1
theorem split_no {l : List Span} {step : Int} (h : (split l step).2 ≠ 0) : (split l step).1 = [] ∧ ((split l step).2 = 1 ↔ isL l = false ∨ step < 0 ∨ 1 < step) := by
  unfold split at *
  by_cases c1 : isL l = false ∨ step < 0 ∨ 1 < step
  · rw [if_pos c1]; exact ⟨rfl, ⟨fun _ => c1, fun _ => rfl⟩⟩
  · rw [if_neg c1] at h ⊢
    by_cases c2 : 65536 < (parts step l).length
    · rw [if_pos c2]; exact ⟨rfl, ⟨fun h2 => absurd h2 (by simp), fun h2 => absurd h2 c1⟩⟩
    · rw [if_neg c2] at h; exact absurd rfl h
/-- What is parted is right, of its step alone, each span with a glyph; parted again it stays; it tells the same. -/
theorem split_right {l : List Span} {step : Int} (h : (split l step).2 = 0) : isL (split l step).1 = true ∧ (∀ y ∈ (split l step).1, y.st = step ∧ look (split l step).1 y.to ≠ 0) ∧ split (split l step).1 step = ((split l step).1, 0) ∧ ∀ c, look (split l step).1 c = look l c := by
  obtain ⟨hl, ⟨h0, h1⟩, e, hn⟩ := split_ok h
  obtain ⟨i1, i2, i3⟩ := parts_chain h0 h1 l (-1) (isL_links hl)
  rw [e]
  have hr : isL (parts step l) = true := by unfold isL; rw [i1]; simpa using hn
  refine ⟨hr, fun y hy => ⟨(i2 y hy).1, ?_⟩, ?_, i3⟩
  · have ho := isL_ok hr hy
    obtain ⟨a1, a2, a3, a4, a5, a6, a7, a8⟩ := (okSpan_iff y).1 ho
    rw [look_memG _ _ i1 y hy y.to a2 (Int.le_refl _)]
    have hg := (i2 y hy).2
    unfold hasGl at hg
    simp only [Bool.or_eq_true, Bool.and_eq_true, decide_eq_true_eq] at hg
    unfold glyphOf
    rcases (show y.st = 0 ∨ y.st = 1 by omega) with e | e
    · rw [e]; omega
    · rw [e]; omega
  · unfold split
    rw [parts_again _ i2, hr, if_neg (by simp; omega), if_neg (by omega)]

/-! Formats 12 and 13. -/
def long (s : List UInt8) (p : Nat) : Int := fld s p 4
theorem long_bound (s : List UInt8) (p : Nat) : 0 ≤ long s p := by
  unfold long fld one
  rw [if_neg (by omega)]
  omega
def row (s : List UInt8) (i : Nat) : Span := ⟨long s (16 + 12 * i), long s (20 + 12 * i), long s (24 + 12 * i), 13 - fld s 0 2⟩
def rows (s : List UInt8) : List Span := (List.range (long s 12).toNat).map (row s)
def get (s : List UInt8) : List Span × Int :=
  if s.length < 16 then ([], 4)
  else if fld s 0 2 ≠ 12 ∧ fld s 0 2 ≠ 13 then ([], 5)
  else if 65536 < long s 12 then ([], 7)
  else if long s 4 ≠ 16 + 12 * long s 12 then ([], 5)
  else if (s.length : Int) < 16 + 12 * long s 12 then ([], 4)
  else if isL (rows s) = false then ([], 5)
  else (rows s, 0)
def nums : List Span → List Int
  | [] => []
  | x :: r => x.fr :: x.to :: x.gl :: nums r
def file (x : List Span) (format : Int) : List UInt8 := bytes format 2 ++ [0, 0] ++ bytes ((16 + 12 * x.length : Nat) : Int) 4 ++ [0, 0, 0, 0] ++ bytes ((x.length : Nat) : Int) 4 ++ flat 4 (nums x)
def put (l : List Span) (format : Int) : List UInt8 × Int :=
  if format ≠ 12 ∧ format ≠ 13 then ([], 1)
  else if (split l (13 - format)).2 ≠ 0 then ([], (split l (13 - format)).2)
  else (file (split l (13 - format)).1 format, 0)
theorem nums_len : ∀ x : List Span, (nums x).length = 3 * x.length
  | [] => rfl
  | x :: r => by rw [nums, List.length_cons, List.length_cons, List.length_cons, nums_len r, List.length_cons]; omega
theorem nums_at : ∀ (x : List Span) (i : Nat), i < x.length → (nums x).getD (3 * i) 0 = (at1 x i).fr ∧ (nums x).getD (3 * i + 1) 0 = (at1 x i).to ∧ (nums x).getD (3 * i + 2) 0 = (at1 x i).gl
  | [], i, h => by simp at h
  | x :: r, 0, _ => ⟨rfl, rfl, rfl⟩
  | x :: r, i + 1, h => by
    have := nums_at r i (by simpa using h)
    rw [nums, show 3 * (i + 1) = 3 * i + 1 + 1 + 1 by omega]
    exact this
theorem file_len (x : List Span) (format : Int) : (file x format).length = 16 + 12 * x.length := by
  unfold file
  simp only [List.length_append, bytes_len, flat_len, nums_len, List.length_cons, List.length_nil]
  show _ + 4 * _ = _
  omega
theorem fld_tail (A ws : List UInt8) (p : Nat) (size : Int) : fld (A ++ ws) (A.length + p) size = fld ws p size := by
  unfold fld
  rw [← List.drop_drop, List.drop_left]
theorem fits4 {v : Int} (h0 : 0 ≤ v) (h1 : v ≤ 4294967295) : fits v 4 = true := by
  unfold fits; rw [if_neg (by omega)]; simp; omega
/-- What is put is got, whatever stands behind. -/
theorem get_file {x : List Span} {format : Int} (hf : format = 12 ∨ format = 13) (hr : isL x = true) (hs : ∀ y ∈ x, y.st = 13 - format) (more : List UInt8) : get (file x format ++ more) = (x, 0) := by
  have hn : x.length ≤ 65536 := by unfold isL at hr; simp only [Bool.and_eq_true, decide_eq_true_eq] at hr; exact hr.2
  have hlen := file_len x format
  have f0 : fld (file x format ++ more) 0 2 = format := fld_at [] ([0, 0] ++ (bytes ((16 + 12 * x.length : Nat) : Int) 4 ++ ([0, 0, 0, 0] ++ (bytes ((x.length : Nat) : Int) 4 ++ (flat 4 (nums x) ++ more))))) _ 2 0 (by unfold file; simp only [List.append_assoc]; rfl) rfl (by decide) (fits2 (by omega) (by omega))
  have f4 : long (file x format ++ more) 4 = ((16 + 12 * x.length : Nat) : Int) := fld_at (bytes format 2 ++ [0, 0]) ([0, 0, 0, 0] ++ (bytes ((x.length : Nat) : Int) 4 ++ (flat 4 (nums x) ++ more))) _ 4 4 (by unfold file; simp only [List.append_assoc]; rfl) (by simp [bytes_len]) (by decide) (fits4 (by omega) (by omega))
  have f12 : long (file x format ++ more) 12 = ((x.length : Nat) : Int) := fld_at (bytes format 2 ++ [0, 0] ++ bytes ((16 + 12 * x.length : Nat) : Int) 4 ++ [0, 0, 0, 0]) (flat 4 (nums x) ++ more) _ 4 12 (by unfold file; simp only [List.append_assoc]; rfl) (by simp [bytes_len]) (by decide) (fits4 (by omega) (by omega))
  have hat : ∀ j v, j < (nums x).length → (nums x).getD j 0 = v → 0 ≤ v → v ≤ 4294967295 → long (file x format ++ more) (16 + 4 * j) = v := by
    intro j v a b c d
    have e : file x format ++ more = (bytes format 2 ++ [0, 0] ++ bytes ((16 + 12 * x.length : Nat) : Int) 4 ++ [0, 0, 0, 0] ++ bytes ((x.length : Nat) : Int) 4) ++ (flat 4 (nums x) ++ more) := by unfold file; simp only [List.append_assoc]
    have h16 : (bytes format 2 ++ [0, 0] ++ bytes ((16 + 12 * x.length : Nat) : Int) 4 ++ [0, 0, 0, 0] ++ bytes ((x.length : Nat) : Int) 4).length = 16 := by simp [bytes_len]
    have := fld_tail (bytes format 2 ++ [0, 0] ++ bytes ((16 + 12 * x.length : Nat) : Int) 4 ++ [0, 0, 0, 0] ++ bytes ((x.length : Nat) : Int) 4) (flat 4 (nums x) ++ more) (4 * j) 4
    rw [h16] at this
    unfold long
    rw [e, this]
    have h2 := flat_at (size := 4) (by decide) (xs := nums x) (i := j) a (by rw [b]; exact fits4 c d) more
    rw [b] at h2
    exact h2
  have hrows : rows (file x format ++ more) = x := by
    unfold rows
    rw [f12, Int.toNat_natCast]
    apply List.ext_getElem
    · simp
    · intro j h1 h2
      simp only [List.getElem_map, List.getElem_range]
      have hm := at1_mem h2
      obtain ⟨a1, a2, a3, a4, a5, a6, a7, a8⟩ := (okSpan_iff _).1 (isL_ok hr hm)
      obtain ⟨n1, n2, n3⟩ := nums_at x j h2
      have hl := nums_len x
      have e1 := hat (3 * j) _ (by omega) n1 (by omega) (by omega)
      have e2 := hat (3 * j + 1) _ (by omega) n2 (by omega) (by omega)
      have e3 := hat (3 * j + 2) _ (by omega) n3 (by omega) (by omega)
      rw [show 16 + 4 * (3 * j) = 16 + 12 * j by omega] at e1
      rw [show 16 + 4 * (3 * j + 1) = 20 + 12 * j by omega] at e2
      rw [show 16 + 4 * (3 * j + 2) = 24 + 12 * j by omega] at e3
      unfold row
      rw [e1, e2, e3, f0, ← hs _ hm]
      show at1 x j = x[j]
      simp [at1, List.getD, List.getElem?_eq_getElem h2]
  unfold get
  rw [hrows, f0, f4, f12, hr, if_neg (by rw [List.length_append, hlen]; omega), if_neg (by omega), if_neg (by omega), if_neg (by omega), if_neg (by rw [List.length_append, hlen]; omega), if_neg (by simp)]
theorem put_ok {l : List Span} {format : Int} (h : (put l format).2 = 0) : (format = 12 ∨ format = 13) ∧ (split l (13 - format)).2 = 0 ∧ (put l format).1 = file (split l (13 - format)).1 format := by
  unfold put at *
  by_cases c1 : format ≠ 12 ∧ format ≠ 13
  · rw [if_pos c1] at h; cases h
  · rw [if_neg c1] at h ⊢
    by_cases c2 : (split l (13 - format)).2 ≠ 0
    · rw [if_pos c2] at h; exact absurd h c2
    · rw [if_neg c2]; exact ⟨by omega, by simpa using c2, rfl⟩
theorem put_no {l : List Span} {format : Int} (h : (put l format).2 ≠ 0) : (put l format).1 = [] := by
  unfold put at *
  by_cases c1 : format ≠ 12 ∧ format ≠ 13
  · rw [if_pos c1]
  · rw [if_neg c1] at h ⊢
    by_cases c2 : (split l (13 - format)).2 ≠ 0
    · rw [if_pos c2]
    · rw [if_neg c2] at h; exact absurd rfl h
theorem get_put {l : List Span} {format : Int} (h : (put l format).2 = 0) (more : List UInt8) : get ((put l format).1 ++ more) = ((split l (13 - format)).1, 0) ∧ ∀ c, look (split l (13 - format)).1 c = look l c := by
  obtain ⟨hf, h2, e⟩ := put_ok h
  obtain ⟨r1, r2, _, r4⟩ := split_right h2
  rw [e]
  exact ⟨get_file hf r1 (fun y hy => (r2 y hy).1) more, r4⟩
theorem get_ok {s : List UInt8} (h : (get s).2 = 0) : (fld s 0 2 = 12 ∨ fld s 0 2 = 13) ∧ isL (get s).1 = true ∧ (get s).1 = rows s ∧ 16 + 12 * (rows s).length ≤ s.length := by
  have hb := long_bound s 12
  unfold get at *
  by_cases c1 : s.length < 16
  · rw [if_pos c1] at h; cases h
  · rw [if_neg c1] at h ⊢
    by_cases c2 : fld s 0 2 ≠ 12 ∧ fld s 0 2 ≠ 13
    · rw [if_pos c2] at h; cases h
    · rw [if_neg c2] at h ⊢
      by_cases c3 : 65536 < long s 12
      · rw [if_pos c3] at h; cases h
      · rw [if_neg c3] at h ⊢
        by_cases c4 : long s 4 ≠ 16 + 12 * long s 12
        · rw [if_pos c4] at h; cases h
        · rw [if_neg c4] at h ⊢
          by_cases c5 : (s.length : Int) < 16 + 12 * long s 12
          · rw [if_pos c5] at h; cases h
          · rw [if_neg c5] at h ⊢
            by_cases c6 : isL (rows s) = false
            · rw [if_pos c6] at h; cases h
            · rw [if_neg c6]
              refine ⟨by omega, by simpa using c6, rfl, ?_⟩
              unfold rows
              rw [List.length_map, List.length_range]
              omega
theorem get_no {s : List UInt8} (h : (get s).2 ≠ 0) : (get s).1 = [] := by
  unfold get at *
  by_cases c1 : s.length < 16
  · rw [if_pos c1]
  · rw [if_neg c1] at h ⊢
    by_cases c2 : fld s 0 2 ≠ 12 ∧ fld s 0 2 ≠ 13
    · rw [if_pos c2]
    · rw [if_neg c2] at h ⊢
      by_cases c3 : 65536 < long s 12
      · rw [if_pos c3]
      · rw [if_neg c3] at h ⊢
        by_cases c4 : long s 4 ≠ 16 + 12 * long s 12
        · rw [if_pos c4]
        · rw [if_neg c4] at h ⊢
          by_cases c5 : (s.length : Int) < 16 + 12 * long s 12
          · rw [if_pos c5]
          · rw [if_neg c5] at h ⊢
            by_cases c6 : isL (rows s) = false
            · rw [if_pos c6]
            · rw [if_neg c6] at h; exact absurd rfl h
theorem fld_front (s more : List UInt8) (p : Nat) (size : Int) (h : p + size.natAbs ≤ s.length) : fld (s ++ more) p size = fld s p size := by
  unfold fld
  rw [List.drop_append_of_le_length (by omega), List.take_append_of_le_length (by rw [List.length_drop]; omega)]
/-- Bytes behind play no part, but where bytes were missing. -/
theorem get_more {s more : List UInt8} (h : (get s).2 ≠ 4) : get (s ++ more) = get s := by
  have hb := long_bound s 12
  unfold get at *
  by_cases c1 : s.length < 16
  · rw [if_pos c1] at h; exact absurd rfl h
  · have l1 : ¬ (s ++ more).length < 16 := by rw [List.length_append]; omega
    have e0 : fld (s ++ more) 0 2 = fld s 0 2 := fld_front s more 0 2 (by simp; omega)
    have e4 : long (s ++ more) 4 = long s 4 := fld_front s more 4 4 (by simp; omega)
    have e12 : long (s ++ more) 12 = long s 12 := fld_front s more 12 4 (by simp; omega)
    rw [if_neg c1] at h
    rw [if_neg c1, if_neg l1, e0, e4, e12]
    by_cases c2 : fld s 0 2 ≠ 12 ∧ fld s 0 2 ≠ 13
    · rw [if_pos c2, if_pos c2]
    · rw [if_neg c2] at h
      rw [if_neg c2, if_neg c2]
      by_cases c3 : 65536 < long s 12
      · rw [if_pos c3, if_pos c3]
      · rw [if_neg c3] at h
        rw [if_neg c3, if_neg c3]
        by_cases c4 : long s 4 ≠ 16 + 12 * long s 12
        · rw [if_pos c4, if_pos c4]
        · rw [if_neg c4] at h
          rw [if_neg c4, if_neg c4]
          by_cases c5 : (s.length : Int) < 16 + 12 * long s 12
          · rw [if_pos c5] at h; exact absurd rfl h
          · have l5 : ¬ ((s ++ more).length : Int) < 16 + 12 * long s 12 := by rw [List.length_append]; omega
            have er : rows (s ++ more) = rows s := by
              unfold rows
              rw [e12]
              apply List.map_congr_left
              intro i hi
              have hi' := List.mem_range.1 hi
              unfold row
              rw [e0]
              have g1 : long (s ++ more) (16 + 12 * i) = long s (16 + 12 * i) := fld_front s more _ 4 (by simp; omega)
              have g2 : long (s ++ more) (20 + 12 * i) = long s (20 + 12 * i) := fld_front s more _ 4 (by simp; omega)
              have g3 : long (s ++ more) (24 + 12 * i) = long s (24 + 12 * i) := fld_front s more _ 4 (by simp; omega)
              rw [g1, g2, g3]
            rw [if_neg c5, if_neg l5, er]
/-- What is got is put in no more bytes, and tells the same. -/
theorem get_again {s : List UInt8} (h : (get s).2 = 0) {format : Int} (hf : format = 12 ∨ format = 13) (hst : ∀ y ∈ (get s).1, y.st = 13 - format) : (put (get s).1 format).2 = 0 ∧ (put (get s).1 format).1.length ≤ s.length ∧ (get (put (get s).1 format).1).2 = 0 ∧ ∀ c, look (get (put (get s).1 format).1).1 c = look (get s).1 c := by
  obtain ⟨_, hr, e, hlen⟩ := get_ok h
  have hkl : (kept (get s).1).length ≤ (get s).1.length := List.length_filter_le _ _
  have hn : (get s).1.length ≤ 65536 := by unfold isL at hr; simp only [Bool.and_eq_true, decide_eq_true_eq] at hr; exact hr.2
  have hsp : split (get s).1 (13 - format) = (kept (get s).1, 0) := by
    unfold split
    rw [parts_kept _ hst, hr, if_neg (by simp; omega), if_neg (by omega)]
  have hp : put (get s).1 format = (file (kept (get s).1) format, 0) := by
    unfold put
    rw [hsp, if_neg (by omega), if_neg (by simp)]
  have h0 : (put (get s).1 format).2 = 0 := by rw [hp]
  obtain ⟨g1, g2⟩ := get_put h0 []
  rw [List.append_nil] at g1
  refine ⟨h0, ?_, by rw [g1], fun c => ?_⟩
  · rw [hp]
    show (file (kept (get s).1) format).length ≤ s.length
    rw [file_len]
    rw [e] at hkl ⊢
    omega
  · rw [g1]; exact g2 c
theorem rows_st {s : List UInt8} {y : Span} (h : y ∈ rows s) : y.st = 13 - fld s 0 2 := by
  obtain ⟨i, _, rfl⟩ := List.mem_map.1 h
  rfl
end Gp
/-
  Plain functions on bytes (layer 11, cmap), with nothing of the program: records and formats, got and put; facts on them. No conditions beyond those stated.
-/
namespace Cm
open Bn He Ch

/-- How good a record is. -/
def bests : List (Int × Int) := [(1, 0), (0, 0), (0, 1), (0, 2), (0, 3), (3, 1), (0, 4), (0, 6), (3, 10)]
def bestOf (p q : Int) : List (Int × Int) → Nat → Nat
  | [], _ => 0
  | x :: r, i => if x.1 = p ∧ x.2 = q then i + 1 else bestOf p q r (i + 1)
def best (p q : Int) : Nat := bestOf p q bests 0
def fmt (n : Int) : Bool := decide (n = 0) || decide (n = 4) || decide (n = 6) || decide (n = 12) || decide (n = 13)
theorem fmt_iff (n : Int) : fmt n = true ↔ n = 0 ∨ n = 4 ∨ n = 6 ∨ n = 12 ∨ n = 13 := by
  unfold fmt
  simp only [Bool.or_eq_true, decide_eq_true_eq, or_assoc]
def read (s : List UInt8) : List Span × Int :=
  if s.length < 2 then ([], 4)
  else if fld s 0 2 = 0 ∨ fld s 0 2 = 6 then Ch.get s
  else if fld s 0 2 = 4 then Sg.get s
  else if fld s 0 2 = 12 ∨ fld s 0 2 = 13 then Gp.get s
  else ([], 5)
def good (s : List UInt8) (i : Nat) : Nat := best (fld s (4 + 8 * i) 2) (fld s (6 + 8 * i) 2)
def offAt (s : List UInt8) (i : Nat) : Int := fld s (8 + 8 * i) 4
def can (s : List UInt8) (i b : Nat) : Bool := decide (b < good s i) && decide (offAt s i + 2 ≤ s.length) && fmt (fld s (offAt s i).toNat 2)
def pick (s : List UInt8) : Nat → Nat × Int
  | 0 => (0, 0)
  | n + 1 => if can s n (pick s n).1 = true then (good s n, offAt s n) else pick s n
def get (s : List UInt8) : List Span × Int :=
  if s.length < 4 then ([], 4)
  else if fld s 0 2 ≠ 0 then ([], 5)
  else if 64 < fld s 2 2 then ([], 7)
  else if (s.length : Int) < 4 + 8 * fld s 2 2 then ([], 4)
  else if (pick s (fld s 2 2).toNat).1 = 0 then ([], 6)
  else read (s.drop (pick s (fld s 2 2).toNat).2.toNat)
def write (l : List Span) (n : Int) : List UInt8 × Int :=
  if n = 0 then putSmall l else if n = 6 then putTrimmed l else if n = 4 then Sg.put l else Gp.put l n
def recFor (n : Int) : List UInt8 := if n = 0 then [0, 1, 0, 0, 0, 0, 0, 12] else if n = 4 ∨ n = 6 then [0, 3, 0, 1, 0, 0, 0, 12] else [0, 3, 0, 10, 0, 0, 0, 12]
def put (l : List Span) (n : Int) : List UInt8 × Int :=
  if fmt n = false then ([], 1) else if (write l n).2 ≠ 0 then ([], (write l n).2) else ([0, 0, 0, 1] ++ recFor n ++ (write l n).1, 0)
def glyph (l : List Span) (c g : Int) : Int × Int := if isL l = false then (0, 1) else if look l c = 0 ∨ g ≤ look l c then (0, 10) else (look l c, 0)

theorem ch_fmt {s : List UInt8} (h : (Ch.get s).2 = 0) : 4 ≤ s.length ∧ (fld s 0 2 = 0 ∨ fld s 0 2 = 6) := by
  unfold Ch.get at h
  by_cases c1 : s.length < 4
  · rw [if_pos c1] at h; cases h
  · rw [if_neg c1] at h
    by_cases c2 : fld s 0 2 = 0
    · exact ⟨by omega, .inl c2⟩
    · rw [if_neg c2] at h
      by_cases c3 : fld s 0 2 ≠ 6
      · rw [if_pos c3] at h; cases h
      · exact ⟨by omega, .inr (by simpa using c3)⟩
theorem sg_fmt {s : List UInt8} (h : (Sg.get s).2 = 0) : 14 ≤ s.length ∧ fld s 0 2 = 4 := by
  unfold Sg.get at h
  by_cases c1 : s.length < 14
  · rw [if_pos c1] at h; cases h
  · rw [if_neg c1] at h
    by_cases c2 : Sg.word s 0 ≠ 4 ∨ Sg.word s 6 % 2 = 1 ∨ Sg.many s = 0
    · rw [if_pos c2] at h; cases h
    · have : Sg.word s 0 = 4 := by
        rcases Decidable.em (Sg.word s 0 = 4) with e | e
        · exact e
        · exact absurd (.inl e) c2
      exact ⟨by omega, this⟩
theorem read_ch {s : List UInt8} (h : (Ch.get s).2 = 0) : read s = Ch.get s ∧ fmt (fld s 0 2) = true ∧ 2 ≤ s.length := by
  obtain ⟨h1, h2⟩ := ch_fmt h
  refine ⟨?_, (fmt_iff _).2 (by omega), by omega⟩
  unfold read
  rw [if_neg (by omega), if_pos h2]
theorem read_sg {s : List UInt8} (h : (Sg.get s).2 = 0) : read s = Sg.get s ∧ fmt (fld s 0 2) = true ∧ 2 ≤ s.length := by
  obtain ⟨h1, h2⟩ := sg_fmt h
  refine ⟨?_, (fmt_iff _).2 (by omega), by omega⟩
  unfold read
  rw [if_neg (by omega), if_neg (by omega), if_pos h2]
theorem read_gp {s : List UInt8} (h : (Gp.get s).2 = 0) : read s = Gp.get s ∧ fmt (fld s 0 2) = true ∧ 2 ≤ s.length := by
  obtain ⟨h1, _, _, h4⟩ := Gp.get_ok h
  refine ⟨?_, (fmt_iff _).2 (by omega), by omega⟩
  unfold read
  rw [if_neg (by omega), if_neg (by omega), if_neg (by omega), if_pos h1]
/-- What a format puts is read, and tells the same glyphs. -/
theorem read_write {l : List Span} {n : Int} (h : (write l n).2 = 0) : (read (write l n).1).2 = 0 ∧ isL (read (write l n).1).1 = true ∧ (∀ c, look (read (write l n).1).1 c = look l c) ∧ fmt (fld (write l n).1 0 2) = true ∧ 2 ≤ (write l n).1.length := by
  unfold write at *
  by_cases c0 : n = 0
  · rw [if_pos c0] at h ⊢
    obtain ⟨a, b, c⟩ := get_small h
    obtain ⟨e, f, g⟩ := read_ch a
    rw [e]; exact ⟨a, b, c, f, g⟩
  · rw [if_neg c0] at h ⊢
    by_cases c6 : n = 6
    · rw [if_pos c6] at h ⊢
      obtain ⟨a, b, c⟩ := look_trimmed h
      obtain ⟨e, f, g⟩ := read_ch a
      rw [e]; exact ⟨a, b, c, f, g⟩
    · rw [if_neg c6] at h ⊢
      by_cases c4 : n = 4
      · rw [if_pos c4] at h ⊢
        obtain ⟨a, b, c, _, _⟩ := Sg.get_put h []
        rw [List.append_nil] at a b c
        obtain ⟨e, f, g⟩ := read_sg a
        rw [e]; exact ⟨a, b, c, f, g⟩
      · rw [if_neg c4] at h ⊢
        obtain ⟨a, c⟩ := Gp.get_put h []
        rw [List.append_nil] at a
        have a2 : (Gp.get (Gp.put l n).1).2 = 0 := by rw [a]
        obtain ⟨e, f, g⟩ := read_gp a2
        have hl := (Gp.get_ok a2).2.1
        rw [e]
        exact ⟨a2, hl, fun x => by rw [a]; exact c x, f, g⟩
theorem fld_head (A ws : List UInt8) (p : Nat) (size : Int) (h : p + size.natAbs ≤ A.length) : fld (A ++ ws) p size = fld A p size := by
  unfold fld
  rw [List.drop_append_of_le_length (by omega), List.take_append_of_le_length (by rw [List.length_drop]; omega)]
theorem put_ok {l : List Span} {n : Int} (h : (put l n).2 = 0) : fmt n = true ∧ (write l n).2 = 0 ∧ (put l n).1 = [0, 0, 0, 1] ++ recFor n ++ (write l n).1 := by
  unfold put at *
  cases e : fmt n with
  | false => rw [if_pos e] at h; cases h
  | true =>
    rw [if_neg (by rw [e]; simp)] at h
    rw [if_neg (by simp)]
    by_cases c : (write l n).2 ≠ 0
    · rw [if_pos c] at h; exact absurd h c
    · rw [if_neg c]; exact ⟨rfl, by simpa using c, rfl⟩
theorem put_no {l : List Span} {n : Int} (h : (put l n).2 ≠ 0) : (put l n).1 = [] := by
  unfold put at *
  by_cases c0 : fmt n = false
  · rw [if_pos c0]
  · rw [if_neg c0] at h ⊢
    by_cases c : (write l n).2 ≠ 0
    · rw [if_pos c]
    · rw [if_neg c] at h; exact absurd rfl h
theorem recFor_len (n : Int) : (recFor n).length = 8 := by
  unfold recFor
  by_cases c0 : n = 0
  · rw [if_pos c0]; rfl
  · rw [if_neg c0]
    by_cases c1 : n = 4 ∨ n = 6
    · rw [if_pos c1]; rfl
    · rw [if_neg c1]; rfl
theorem recFor_is (n : Int) : best (fld ([0, 0, 0, 1] ++ recFor n) 4 2) (fld ([0, 0, 0, 1] ++ recFor n) 6 2) ≠ 0 ∧ fld ([0, 0, 0, 1] ++ recFor n) 8 4 = 12 ∧ fld ([0, 0, 0, 1] ++ recFor n) 0 2 = 0 ∧ fld ([0, 0, 0, 1] ++ recFor n) 2 2 = 1 := by
  unfold recFor
  by_cases c0 : n = 0
  · rw [if_pos c0]; decide +kernel
  · rw [if_neg c0]
    by_cases c1 : n = 4 ∨ n = 6
    · rw [if_pos c1]; decide +kernel
    · rw [if_neg c1]; decide +kernel
/-- What is put is got, by its format alone, too. -/
theorem get_put {l : List Span} {n : Int} (h : (put l n).2 = 0) : 12 ≤ (put l n).1.length ∧ get (put l n).1 = read ((put l n).1.drop 12) ∧ (read ((put l n).1.drop 12)).2 = 0 ∧ isL (read ((put l n).1.drop 12)).1 = true ∧ ∀ c, look (read ((put l n).1.drop 12)).1 c = look l c := by
  obtain ⟨_, hw, e⟩ := put_ok h
  obtain ⟨r1, r2, r3, r4, r5⟩ := read_write hw
  rw [e]
  generalize (write l n).1 = s at *
  have hA : ([0, 0, 0, 1] ++ recFor n : List UInt8).length = 12 := by rw [List.length_append, recFor_len]; rfl
  obtain ⟨g1, g2, g3, g4⟩ := recFor_is n
  generalize ([0, 0, 0, 1] ++ recFor n : List UInt8) = A at *
  have hd : (A ++ s).drop 12 = s := by rw [← hA, List.drop_left]
  have hl : (A ++ s).length = 12 + s.length := by rw [List.length_append, hA]
  have f : ∀ p (size : Int), p + size.natAbs ≤ 12 → fld (A ++ s) p size = fld A p size := fun p size hp => fld_head A s p size (by omega)
  have ft : fld (A ++ s) 12 2 = fld s 0 2 := by have := Gp.fld_tail A s 0 2; rwa [hA] at this
  have hgood : good (A ++ s) 0 ≠ 0 := by
    unfold good
    rw [f _ 2 (by simp), f _ 2 (by simp)]; exact g1
  have hoff : offAt (A ++ s) 0 = 12 := by unfold offAt; rw [f _ 4 (by simp)]; exact g2
  have hpick : pick (A ++ s) 1 = (good (A ++ s) 0, 12) := by
    have hc : can (A ++ s) 0 0 = true := by
      unfold can
      rw [hoff, show (12 : Int).toNat = 12 from rfl, ft, r4]
      simp only [Bool.and_eq_true, decide_eq_true_eq, and_true]
      exact ⟨by omega, by omega⟩
    show (if can (A ++ s) 0 (pick (A ++ s) 0).1 = true then _ else _) = _
    rw [show (pick (A ++ s) 0).1 = 0 from rfl, if_pos hc, hoff]
  rw [hd]
  refine ⟨by omega, ?_, r1, r2, r3⟩
  unfold get
  rw [f 0 2 (by decide), f 2 2 (by decide), g3, g4, if_neg (by omega), if_neg (by simp), if_neg (by omega), if_neg (by omega), show (1 : Int).toNat = 1 from rfl, hpick, if_neg hgood, show (12 : Int).toNat = 12 from rfl, hd]
theorem glyph_same {l m : List Span} (hl : isL l = true) (hm : isL m = true) (h : ∀ c, look l c = look m c) (c g : Int) : glyph l c g = glyph m c g := by
  unfold glyph
  rw [hl, hm, h c]
end Cm
/-
  Facts on records and formats, as a walk meets them one after another (layer 11), with nothing of the program. No conditions beyond those stated.
-/
namespace Cm
open Bn He Ch
theorem bestOf_hit {p q : Int} : ∀ (l : List (Int × Int)) (i j : Nat) (x : Int × Int), l[j]? = some x → x.1 = p → x.2 = q → (∀ k y, k < j → l[k]? = some y → ¬ (y.1 = p ∧ y.2 = q)) → bestOf p q l i = i + j + 1
  | [], _, _, _, h, _, _, _ => by simp at h
  | y :: r, i, 0, x, h, h1, h2, _ => by
    simp only [List.getElem?_cons_zero, Option.some.injEq] at h
    subst h
    rw [bestOf, if_pos ⟨h1, h2⟩]
  | y :: r, i, j + 1, x, h, h1, h2, h3 => by
    rw [bestOf, if_neg (h3 0 y (by omega) rfl), bestOf_hit r (i + 1) j x (by simpa using h) h1 h2 (fun k z hk hz => h3 (k + 1) z (by omega) (by simpa using hz))]
    omega
theorem bestOf_none {p q : Int} : ∀ (l : List (Int × Int)) (i : Nat), (∀ y ∈ l, ¬ (y.1 = p ∧ y.2 = q)) → bestOf p q l i = 0
  | [], _, _ => rfl
  | y :: r, i, h => by rw [bestOf, if_neg (h y (by simp)), bestOf_none r (i + 1) fun z hz => h z (by simp [hz])]
/-- The first row that is this pair tells the rank. -/
theorem best_hit {p q : Int} {j : Nat} {x : Int × Int} (h : bests[j]? = some x) (h1 : x.1 = p) (h2 : x.2 = q) (h3 : ∀ k y, k < j → bests[k]? = some y → ¬ (y.1 = p ∧ y.2 = q)) : best p q = j + 1 := by
  unfold best; rw [bestOf_hit bests 0 j x h h1 h2 h3]; omega
theorem best_none {p q : Int} (h : ∀ y ∈ bests, ¬ (y.1 = p ∧ y.2 = q)) : best p q = 0 := bestOf_none _ _ h
theorem best_le (p q : Int) : best p q ≤ 9 := by
  by_cases h : ∀ y ∈ bests, ¬ (y.1 = p ∧ y.2 = q)
  · rw [best_none h]; omega
  · simp only [bests, List.mem_cons, List.not_mem_nil, or_false, forall_eq_or_imp, forall_eq, not_and, Classical.not_forall, Decidable.not_not] at h
    unfold best bests
    simp only [bestOf]
    repeat' split
    all_goals omega
/-- The rank, case by case. -/
theorem best_eq (p q : Int) : best p q = if p = 1 ∧ q = 0 then 1 else if p = 0 ∧ q = 0 then 2 else if p = 0 ∧ q = 1 then 3 else if p = 0 ∧ q = 2 then 4 else if p = 0 ∧ q = 3 then 5 else if p = 3 ∧ q = 1 then 6 else if p = 0 ∧ q = 4 then 7 else if p = 0 ∧ q = 6 then 8 else if p = 3 ∧ q = 10 then 9 else 0 := by
  unfold best bests
  simp only [bestOf, eq_comm]
/-- A record more. -/
theorem pick_step (s : List UInt8) (n : Nat) : pick s (n + 1) = if can s n (pick s n).1 = true then (good s n, offAt s n) else pick s n := rfl
theorem pick_zero (s : List UInt8) : pick s 0 = (0, 0) := rfl
theorem offAt_bound (s : List UInt8) (i : Nat) : 0 ≤ offAt s i := Gp.long_bound s _
theorem pick_bound (s : List UInt8) : ∀ n, (pick s n).1 ≤ 9 ∧ 0 ≤ (pick s n).2 ∧ ((pick s n).1 ≠ 0 → (pick s n).2 + 2 ≤ s.length)
  | 0 => ⟨by simp [pick], by simp [pick], fun h => absurd rfl h⟩
  | n + 1 => by
    rw [pick_step]
    by_cases c : can s n (pick s n).1 = true
    · rw [if_pos c]
      unfold can at c
      simp only [Bool.and_eq_true, decide_eq_true_eq] at c
      exact ⟨best_le _ _, offAt_bound s n, fun _ => c.1.2⟩
    · rw [if_neg c]; exact pick_bound s n
theorem get_more {s : List UInt8} (h : s.length < 4) : get s = ([], 4) := by unfold get; rw [if_pos h]
theorem get_form {s : List UInt8} (h : 4 ≤ s.length) (h0 : fld s 0 2 ≠ 0) : get s = ([], 5) := by unfold get; rw [if_neg (by omega), if_pos h0]
theorem get_long {s : List UInt8} (h : 4 ≤ s.length) (h0 : fld s 0 2 = 0) (h2 : 64 < fld s 2 2) : get s = ([], 7) := by unfold get; rw [if_neg (by omega), if_neg (by omega), if_pos h2]
theorem get_short {s : List UInt8} (h : 4 ≤ s.length) (h0 : fld s 0 2 = 0) (h2 : fld s 2 2 ≤ 64) (h3 : (s.length : Int) < 4 + 8 * fld s 2 2) : get s = ([], 4) := by unfold get; rw [if_neg (by omega), if_neg (by omega), if_neg (by omega), if_pos h3]
theorem get_none {s : List UInt8} (h : 4 ≤ s.length) (h0 : fld s 0 2 = 0) (h2 : fld s 2 2 ≤ 64) (h3 : 4 + 8 * fld s 2 2 ≤ (s.length : Int)) (h4 : (pick s (fld s 2 2).toNat).1 = 0) : get s = ([], 6) := by
  unfold get; rw [if_neg (by omega), if_neg (by omega), if_neg (by omega), if_neg (by omega), if_pos h4]
theorem get_some {s : List UInt8} (h : 4 ≤ s.length) (h0 : fld s 0 2 = 0) (h2 : fld s 2 2 ≤ 64) (h3 : 4 + 8 * fld s 2 2 ≤ (s.length : Int)) (h4 : (pick s (fld s 2 2).toNat).1 ≠ 0) : get s = read (s.drop (pick s (fld s 2 2).toNat).2.toNat) := by
  unfold get; rw [if_neg (by omega), if_neg (by omega), if_neg (by omega), if_neg (by omega), if_neg h4]
theorem read_more {s : List UInt8} (h : s.length < 2) : read s = ([], 4) := by unfold read; rw [if_pos h]
theorem read_08 {s : List UInt8} (h : 2 ≤ s.length) (h0 : fld s 0 2 = 0 ∨ fld s 0 2 = 6) : read s = Ch.get s := by unfold read; rw [if_neg (by omega), if_pos h0]
theorem read_09 {s : List UInt8} (h : 2 ≤ s.length) (h0 : fld s 0 2 = 4) : read s = Sg.get s := by unfold read; rw [if_neg (by omega), if_neg (by omega), if_pos h0]
theorem read_10 {s : List UInt8} (h : 2 ≤ s.length) (h0 : fld s 0 2 = 12 ∨ fld s 0 2 = 13) : read s = Gp.get s := by unfold read; rw [if_neg (by omega), if_neg (by omega), if_neg (by omega), if_pos h0]
theorem read_no {s : List UInt8} (h : 2 ≤ s.length) (h0 : fmt (fld s 0 2) = false) : read s = ([], 5) := by
  have hn : ¬ (fld s 0 2 = 0 ∨ fld s 0 2 = 4 ∨ fld s 0 2 = 6 ∨ fld s 0 2 = 12 ∨ fld s 0 2 = 13) := fun k => by rw [(fmt_iff _).2 k] at h0; cases h0
  unfold read; rw [if_neg (by omega), if_neg (by omega), if_neg (by omega), if_neg (by omega)]
end Cm
