/-
  Plain functions on bytes (layer 10, group), with nothing of the program: spans of runes, parted, got and put by formats 12 and 13; facts on them. No conditions beyond those stated.
-/
import Derived.Test.YtnlifmedkkboaaaPlain
namespace Ch
theorem look_app_zero : ∀ (A R : List Span) (c : Int), look R c = 0 → look (A ++ R) c = look A c
  | [], R, c, h => h
  | x :: r, R, c, h => by rw [List.cons_append, look, look, look_app_zero r R c h]
theorem look_app_miss : ∀ (A R : List Span) (c : Int), (∀ y ∈ A, ¬ (y.fr ≤ c ∧ c ≤ y.to)) → look (A ++ R) c = look R c
  | [], R, c, _ => rfl
  | x :: r, R, c, h => by rw [List.cons_append, look, if_neg (h x (by simp)), look_app_miss r R c fun y hy => h y (by simp [hy])]
theorem chain_fr : ∀ (l : List Span) (p : Int), chain p l = true → ∀ y ∈ l, p < y.fr
  | [], _, _, y, hy => by simp at hy
  | x :: r, p, h, y, hy => by
    simp only [chain, Bool.and_eq_true, decide_eq_true_eq] at h
    obtain ⟨a1, a2, _⟩ := (okSpan_iff x).1 h.1.1
    rcases List.mem_cons.1 hy with rfl | hy
    · exact h.1.2
    · have := chain_fr r x.to h.2 y hy; omega
theorem look_memG : ∀ (l : List Span) (p : Int), chain p l = true → ∀ y ∈ l, ∀ c, y.fr ≤ c → c ≤ y.to → look l c = glyphOf y c
  | [], _, _, y, hy, _, _, _ => by simp at hy
  | x :: r, p, h, y, hy, c, h1, h2 => by
    simp only [chain, Bool.and_eq_true, decide_eq_true_eq] at h
    rw [look]
    rcases List.mem_cons.1 hy with rfl | hy
    · rw [if_pos ⟨h1, h2⟩]
    · have := chain_fr r x.to h.2 y hy
      rw [if_neg (by omega)]
      exact look_memG r x.to h.2 y hy c h1 h2
end Ch
namespace Gp
open Bn He Ch Sg

def setSt (step : Int) (x : Span) : Span := ⟨x.fr, x.to, x.gl, step⟩
/-- A span, parted into those of a step. -/
def part (step : Int) (x : Span) : List Span :=
  if x.st = step ∨ x.fr = x.to then (if hasGl x = true then [setSt step x] else [])
  else (spansOf (look [x]) x.fr (x.to - x.fr + 1).toNat).map (setSt step)
def parts (step : Int) (l : List Span) : List Span := l.flatMap (part step)
def split (l : List Span) (step : Int) : List Span × Int :=
  if isL l = false ∨ step < 0 ∨ 1 < step then ([], 1)
  else if 65536 < (parts step l).length then ([], 7)
  else (parts step l, 0)

theorem chain_setSt {step : Int} (h0 : 0 ≤ step) (h1 : step ≤ 1) : ∀ (l : List Span) (p : Int), chain p l = true → (∀ x ∈ l, x.to = x.fr) → chain p (l.map (setSt step)) = true
  | [], _, _, _ => rfl
  | x :: r, p, h, hs => by
    simp only [chain, Bool.and_eq_true, decide_eq_true_eq] at h
    have hx := hs x (by simp)
    obtain ⟨a1, a2, a3, a4, a5, a6, a7, a8⟩ := (okSpan_iff x).1 h.1.1
    have ho : okSpan (setSt step x) = true := (okSpan_iff _).2 ⟨a1, a2, a3, h0, h1, a6, a7, by show x.gl + step * (x.to - x.fr) ≤ 65535; rw [hx]; simp; exact a7⟩
    rw [List.map_cons, chain, ho]
    simp only [Bool.true_and, Bool.and_eq_true, decide_eq_true_eq]
    exact ⟨h.1.2, chain_setSt h0 h1 r x.to h.2 fun y hy => hs y (by simp [hy])⟩
theorem look_setSt {step : Int} : ∀ (l : List Span), (∀ x ∈ l, x.to = x.fr) → ∀ c, look (l.map (setSt step)) c = look l c
  | [], _, _ => rfl
  | x :: r, hs, c => by
    have hx := hs x (by simp)
    rw [List.map_cons, look, look, look_setSt r (fun y hy => hs y (by simp [hy])) c]
    show (if x.fr ≤ c ∧ c ≤ x.to then glyphOf (setSt step x) c else look r c) = _
    by_cases h : x.fr ≤ c ∧ c ≤ x.to
    · rw [if_pos h, if_pos h]
      unfold glyphOf setSt
      simp only
      rw [show c = x.fr by omega]; simp
    · rw [if_neg h, if_neg h]
theorem part_chain {step p : Int} {x : Span} (h0 : 0 ≤ step) (h1 : step ≤ 1) (hx : okSpan x = true) (hp : p < x.fr) : chain p (part step x) = true ∧ (∀ y ∈ part step x, x.fr ≤ y.fr ∧ y.to ≤ x.to ∧ y.st = step ∧ hasGl y = true) := by
  obtain ⟨a1, a2, a3, a4, a5, a6, a7, a8⟩ := (okSpan_iff x).1 hx
  have hc1 : chain (x.fr - 1) [x] = true := by rw [chain, hx, chain]; simp; omega
  unfold part
  by_cases h : x.st = step ∨ x.fr = x.to
  · rw [if_pos h]
    by_cases hg : hasGl x = true
    · rw [if_pos hg]
      have hb : x.gl + step * (x.to - x.fr) ≤ 65535 := by
        rcases h with h | h
        · rw [← h]; exact a8
        · rw [h]; simp; exact a7
      have ho : okSpan (setSt step x) = true := (okSpan_iff _).2 ⟨a1, a2, a3, h0, h1, a6, a7, hb⟩
      refine ⟨by rw [chain, ho, chain, Bool.true_and, Bool.and_true]; exact decide_eq_true hp, fun y hy => ?_⟩
      simp only [List.mem_singleton] at hy
      subst hy
      refine ⟨Int.le_refl _, Int.le_refl _, rfl, ?_⟩
      unfold hasGl at hg ⊢
      simp only [Bool.or_eq_true, Bool.and_eq_true, decide_eq_true_eq] at hg ⊢
      rcases hg with hg | hg
      · exact .inl hg
      · refine .inr ⟨?_, hg.2⟩
        show step = 1
        rcases h with h | h
        · rw [← h]; exact hg.1
        · omega
    · rw [if_neg hg]; exact ⟨rfl, fun y hy => by simp at hy⟩
  · rw [if_neg h]
    have hlb := look_bound [x] _ hc1
    refine ⟨chain_setSt h0 h1 _ _ (chain_spansOf _ hlb _ _ p hp a1 (by omega)) (fun y hy => (spansOf_mem _ _ _ y hy).2.2.1), fun y hy => ?_⟩
    obtain ⟨z, hz, rfl⟩ := List.mem_map.1 hy
    obtain ⟨m1, m2, m3, m4, _⟩ := spansOf_mem _ _ _ z hz
    have hz0 := (okSpan_iff z).1 (chain_all (P := fun x => okSpan x = true) (fun _ h => h) _ _ (chain_spansOf _ hlb _ _ (x.fr - 1) (by omega) a1 (by omega)) z hz)
    refine ⟨m1, by show z.to ≤ x.to; omega, rfl, ?_⟩
    unfold hasGl setSt
    simp only [Bool.or_eq_true, decide_eq_true_eq]
    omega
theorem look_part {step : Int} {x : Span} (hx : okSpan x = true) {c : Int} (h1 : x.fr ≤ c) (h2 : c ≤ x.to) : look (part step x) c = glyphOf x c := by
  obtain ⟨a1, a2, a3, a4, a5, a6, a7, a8⟩ := (okSpan_iff x).1 hx
  unfold part
  by_cases h : x.st = step ∨ x.fr = x.to
  · rw [if_pos h]
    by_cases hg : hasGl x = true
    · rw [if_pos hg, look]
      show (if x.fr ≤ c ∧ c ≤ x.to then glyphOf (setSt step x) c else look [] c) = _
      rw [if_pos ⟨h1, h2⟩]
      unfold glyphOf setSt
      simp only
      rcases h with h | h
      · rw [h]
      · rw [show c = x.fr by omega]; simp
    · rw [if_neg hg, noGl hx (by simpa using hg) h1 h2]; rfl
  · rw [if_neg h, look_setSt _ (fun y hy => (spansOf_mem _ _ _ y hy).2.2.1), look_spansOf, if_pos (by omega), look, if_pos ⟨h1, h2⟩]
theorem parts_chain {step : Int} (h0 : 0 ≤ step) (h1 : step ≤ 1) : ∀ (l : List Span) (p : Int), chain p l = true → chain p (parts step l) = true ∧ (∀ y ∈ parts step l, y.st = step ∧ hasGl y = true) ∧ ∀ c, look (parts step l) c = look l c
  | [], _, _ => ⟨rfl, fun y hy => by simp [parts] at hy, fun _ => rfl⟩
  | x :: r, p, h => by
    simp only [chain, Bool.and_eq_true, decide_eq_true_eq] at h
    obtain ⟨i1, i2, i3⟩ := parts_chain h0 h1 r x.to h.2
    obtain ⟨j1, j2⟩ := part_chain h0 h1 h.1.1 h.1.2
    obtain ⟨a1, a2, _⟩ := (okSpan_iff x).1 h.1.1
    have e : parts step (x :: r) = part step x ++ parts step r := by unfold parts; rw [List.flatMap_cons]
    rw [e]
    refine ⟨chain_append _ _ _ j1 (q := x.to) (by omega) (fun y hy => (j2 y hy).2.1) i1, fun y hy => ?_, fun c => ?_⟩
    · rcases List.mem_append.1 hy with hy | hy
      · exact (j2 y hy).2.2
      · exact i2 y hy
    · rw [look]
      by_cases hc : x.fr ≤ c ∧ c ≤ x.to
      · rw [if_pos hc, look_app_zero _ _ _ (look_low _ _ i1 c hc.2), look_part h.1.1 hc.1 hc.2]
      · rw [if_neg hc, look_app_miss _ _ _ (fun y hy => by have := j2 y hy; omega), i3 c]
theorem parts_again {step : Int} : ∀ (l : List Span), (∀ y ∈ l, y.st = step ∧ hasGl y = true) → parts step l = l
  | [], _ => rfl
  | x :: r, h => by
    obtain ⟨h1, h2⟩ := h x (by simp)
    have e : parts step (x :: r) = part step x ++ parts step r := by unfold parts; rw [List.flatMap_cons]
    rw [e, parts_again r fun y hy => h y (by simp [hy])]
    unfold part
    rw [if_pos (.inl h1), if_pos h2]
    cases x
    simp only at h1
    simp [setSt, h1]
theorem parts_kept {step : Int} : ∀ (l : List Span), (∀ y ∈ l, y.st = step) → parts step l = kept l
  | [], _ => rfl
  | x :: r, h => by
    have h1 := h x (by simp)
    have e : parts step (x :: r) = part step x ++ parts step r := by unfold parts; rw [List.flatMap_cons]
    rw [e, parts_kept r fun y hy => h y (by simp [hy])]
    unfold part kept
    rw [if_pos (.inl h1)]
    by_cases hg : hasGl x = true
    · rw [if_pos hg, List.filter_cons_of_pos hg]
      cases x
      simp only at h1
      simp [setSt, h1]
    · rw [if_neg hg, List.filter_cons_of_neg hg, List.nil_append]
theorem split_ok {l : List Span} {step : Int} (h : (split l step).2 = 0) : isL l = true ∧ (0 ≤ step ∧ step ≤ 1) ∧ (split l step).1 = parts step l ∧ (parts step l).length ≤ 65536 := by
  unfold split at *
  by_cases c1 : isL l = false ∨ step < 0 ∨ 1 < step
  · rw [if_pos c1] at h; cases h
  · rw [if_neg c1] at h ⊢
    by_cases c2 : 65536 < (parts step l).length
    · rw [if_pos c2] at h; cases h
    · rw [if_neg c2]
      refine ⟨?_, by omega, rfl, by omega⟩
      cases e : isL l with
      | true => rfl
      | false => exact absurd (.inl e) c1
theorem split_no {l : List Span} {step : Int} (h : (split l step).2 ≠ 0) : (split l step).1 = [] ∧ ((split l step).2 = 1 ↔ isL l = false ∨ step < 0 ∨ 1 < step) := by
  unfold split at *
  by_cases c1 : isL l = false ∨ step < 0 ∨ 1 < step
  · rw [if_pos c1]; exact ⟨rfl, ⟨fun _ => c1, fun _ => rfl⟩⟩
  · rw [if_neg c1] at h ⊢
    by_cases c2 : 65536 < (parts step l).length
    · rw [if_pos c2]; exact ⟨rfl, ⟨fun h2 => absurd h2 (by simp), fun h2 => absurd h2 c1⟩⟩
    · rw [if_neg c2] at h; exact absurd rfl h
/-- What is parted is right, of its step alone, each span with a glyph; parted again it stays; it tells the same. -/
theorem split_right {l : List Span} {step : Int} (h : (split l step).2 = 0) : isL (split l step).1 = true ∧ (∀ y ∈ (split l step).1, y.st = step ∧ look (split l step).1 y.to ≠ 0) ∧ split (split l step).1 step = ((split l step).1, 0) ∧ ∀ c, look (split l step).1 c = look l c := by
  obtain ⟨hl, ⟨h0, h1⟩, e, hn⟩ := split_ok h
  obtain ⟨i1, i2, i3⟩ := parts_chain h0 h1 l (-1) (isL_links hl)
  rw [e]
  have hr : isL (parts step l) = true := by unfold isL; rw [i1]; simpa using hn
  refine ⟨hr, fun y hy => ⟨(i2 y hy).1, ?_⟩, ?_, i3⟩
  · have ho := isL_ok hr hy
    obtain ⟨a1, a2, a3, a4, a5, a6, a7, a8⟩ := (okSpan_iff y).1 ho
    rw [look_memG _ _ i1 y hy y.to a2 (Int.le_refl _)]
    have hg := (i2 y hy).2
    unfold hasGl at hg
    simp only [Bool.or_eq_true, Bool.and_eq_true, decide_eq_true_eq] at hg
    unfold glyphOf
    rcases (show y.st = 0 ∨ y.st = 1 by omega) with e | e
    · rw [e]; omega
    · rw [e]; omega
  · unfold split
    rw [parts_again _ i2, hr, if_neg (by simp; omega), if_neg (by omega)]

/-! Formats 12 and 13. -/
def long (s : List UInt8) (p : Nat) : Int := fld s p 4
theorem long_bound (s : List UInt8) (p : Nat) : 0 ≤ long s p := by
  unfold long fld one
  rw [if_neg (by omega)]
  omega
def row (s : List UInt8) (i : Nat) : Span := ⟨long s (16 + 12 * i), long s (20 + 12 * i), long s (24 + 12 * i), 13 - fld s 0 2⟩
def rows (s : List UInt8) : List Span := (List.range (long s 12).toNat).map (row s)
def get (s : List UInt8) : List Span × Int :=
  if s.length < 16 then ([], 4)
  else if fld s 0 2 ≠ 12 ∧ fld s 0 2 ≠ 13 then ([], 5)
  else if 65536 < long s 12 then ([], 7)
  else if long s 4 ≠ 16 + 12 * long s 12 then ([], 5)
  else if (s.length : Int) < 16 + 12 * long s 12 then ([], 4)
  else if isL (rows s) = false then ([], 5)
  else (rows s, 0)
def nums : List Span → List Int
  | [] => []
  | x :: r => x.fr :: x.to :: x.gl :: nums r
def file (x : List Span) (format : Int) : List UInt8 := bytes format 2 ++ [0, 0] ++ bytes ((16 + 12 * x.length : Nat) : Int) 4 ++ [0, 0, 0, 0] ++ bytes ((x.length : Nat) : Int) 4 ++ flat 4 (nums x)
def put (l : List Span) (format : Int) : List UInt8 × Int :=
  if format ≠ 12 ∧ format ≠ 13 then ([], 1)
  else if (split l (13 - format)).2 ≠ 0 then ([], (split l (13 - format)).2)
  else (file (split l (13 - format)).1 format, 0)
theorem nums_len : ∀ x : List Span, (nums x).length = 3 * x.length
  | [] => rfl
  | x :: r => by rw [nums, List.length_cons, List.length_cons, List.length_cons, nums_len r, List.length_cons]; omega
theorem nums_at : ∀ (x : List Span) (i : Nat), i < x.length → (nums x).getD (3 * i) 0 = (at1 x i).fr ∧ (nums x).getD (3 * i + 1) 0 = (at1 x i).to ∧ (nums x).getD (3 * i + 2) 0 = (at1 x i).gl
  | [], i, h => by simp at h
  | x :: r, 0, _ => ⟨rfl, rfl, rfl⟩
  | x :: r, i + 1, h => by
    have := nums_at r i (by simpa using h)
    rw [nums, show 3 * (i + 1) = 3 * i + 1 + 1 + 1 by omega]
    exact this
theorem file_len (x : List Span) (format : Int) : (file x format).length = 16 + 12 * x.length := by
  unfold file
  simp only [List.length_append, bytes_len, flat_len, nums_len, List.length_cons, List.length_nil]
  show _ + 4 * _ = _
  omega
theorem fld_tail (A ws : List UInt8) (p : Nat) (size : Int) : fld (A ++ ws) (A.length + p) size = fld ws p size := by
  unfold fld
  rw [← List.drop_drop, List.drop_left]
theorem fits4 {v : Int} (h0 : 0 ≤ v) (h1 : v ≤ 4294967295) : fits v 4 = true := by
  unfold fits; rw [if_neg (by omega)]; simp; omega
/-- What is put is got, whatever stands behind. -/
theorem get_file {x : List Span} {format : Int} (hf : format = 12 ∨ format = 13) (hr : isL x = true) (hs : ∀ y ∈ x, y.st = 13 - format) (more : List UInt8) : get (file x format ++ more) = (x, 0) := by
  have hn : x.length ≤ 65536 := by unfold isL at hr; simp only [Bool.and_eq_true, decide_eq_true_eq] at hr; exact hr.2
  have hlen := file_len x format
  have f0 : fld (file x format ++ more) 0 2 = format := fld_at [] ([0, 0] ++ (bytes ((16 + 12 * x.length : Nat) : Int) 4 ++ ([0, 0, 0, 0] ++ (bytes ((x.length : Nat) : Int) 4 ++ (flat 4 (nums x) ++ more))))) _ 2 0 (by unfold file; simp only [List.append_assoc]; rfl) rfl (by decide) (fits2 (by omega) (by omega))
  have f4 : long (file x format ++ more) 4 = ((16 + 12 * x.length : Nat) : Int) := fld_at (bytes format 2 ++ [0, 0]) ([0, 0, 0, 0] ++ (bytes ((x.length : Nat) : Int) 4 ++ (flat 4 (nums x) ++ more))) _ 4 4 (by unfold file; simp only [List.append_assoc]; rfl) (by simp [bytes_len]) (by decide) (fits4 (by omega) (by omega))
  have f12 : long (file x format ++ more) 12 = ((x.length : Nat) : Int) := fld_at (bytes format 2 ++ [0, 0] ++ bytes ((16 + 12 * x.length : Nat) : Int) 4 ++ [0, 0, 0, 0]) (flat 4 (nums x) ++ more) _ 4 12 (by unfold file; simp only [List.append_assoc]; rfl) (by simp [bytes_len]) (by decide) (fits4 (by omega) (by omega))
  have hat : ∀ j v, j < (nums x).length → (nums x).getD j 0 = v → 0 ≤ v → v ≤ 4294967295 → long (file x format ++ more) (16 + 4 * j) = v := by
    intro j v a b c d
    have e : file x format ++ more = (bytes format 2 ++ [0, 0] ++ bytes ((16 + 12 * x.length : Nat) : Int) 4 ++ [0, 0, 0, 0] ++ bytes ((x.length : Nat) : Int) 4) ++ (flat 4 (nums x) ++ more) := by unfold file; simp only [List.append_assoc]
    have h16 : (bytes format 2 ++ [0, 0] ++ bytes ((16 + 12 * x.length : Nat) : Int) 4 ++ [0, 0, 0, 0] ++ bytes ((x.length : Nat) : Int) 4).length = 16 := by simp [bytes_len]
    have := fld_tail (bytes format 2 ++ [0, 0] ++ bytes ((16 + 12 * x.length : Nat) : Int) 4 ++ [0, 0, 0, 0] ++ bytes ((x.length : Nat) : Int) 4) (flat 4 (nums x) ++ more) (4 * j) 4
    rw [h16] at this
    unfold long
    rw [e, this]
    have h2 := flat_at (size := 4) (by decide) (xs := nums x) (i := j) a (by rw [b]; exact fits4 c d) more
    rw [b] at h2
    exact h2
  have hrows : rows (file x format ++ more) = x := by
    unfold rows
    rw [f12, Int.toNat_natCast]
    apply List.ext_getElem
    · simp
    · intro j h1 h2
      simp only [List.getElem_map, List.getElem_range]
      have hm := at1_mem h2
      obtain ⟨a1, a2, a3, a4, a5, a6, a7, a8⟩ := (okSpan_iff _).1 (isL_ok hr hm)
      obtain ⟨n1, n2, n3⟩ := nums_at x j h2
      have hl := nums_len x
      have e1 := hat (3 * j) _ (by omega) n1 (by omega) (by omega)
      have e2 := hat (3 * j + 1) _ (by omega) n2 (by omega) (by omega)
      have e3 := hat (3 * j + 2) _ (by omega) n3 (by omega) (by omega)
      rw [show 16 + 4 * (3 * j) = 16 + 12 * j by omega] at e1
      rw [show 16 + 4 * (3 * j + 1) = 20 + 12 * j by omega] at e2
      rw [show 16 + 4 * (3 * j + 2) = 24 + 12 * j by omega] at e3
      unfold row
      rw [e1, e2, e3, f0, ← hs _ hm]
      show at1 x j = x[j]
      simp [at1, List.getD, List.getElem?_eq_getElem h2]
  unfold get
  rw [hrows, f0, f4, f12, hr, if_neg (by rw [List.length_append, hlen]; omega), if_neg (by omega), if_neg (by omega), if_neg (by omega), if_neg (by rw [List.length_append, hlen]; omega), if_neg (by simp)]
theorem put_ok {l : List Span} {format : Int} (h : (put l format).2 = 0) : (format = 12 ∨ format = 13) ∧ (split l (13 - format)).2 = 0 ∧ (put l format).1 = file (split l (13 - format)).1 format := by
  unfold put at *
  by_cases c1 : format ≠ 12 ∧ format ≠ 13
  · rw [if_pos c1] at h; cases h
  · rw [if_neg c1] at h ⊢
    by_cases c2 : (split l (13 - format)).2 ≠ 0
    · rw [if_pos c2] at h; exact absurd h c2
    · rw [if_neg c2]; exact ⟨by omega, by simpa using c2, rfl⟩
theorem put_no {l : List Span} {format : Int} (h : (put l format).2 ≠ 0) : (put l format).1 = [] := by
  unfold put at *
  by_cases c1 : format ≠ 12 ∧ format ≠ 13
  · rw [if_pos c1]
  · rw [if_neg c1] at h ⊢
    by_cases c2 : (split l (13 - format)).2 ≠ 0
    · rw [if_pos c2]
    · rw [if_neg c2] at h; exact absurd rfl h
theorem get_put {l : List Span} {format : Int} (h : (put l format).2 = 0) (more : List UInt8) : get ((put l format).1 ++ more) = ((split l (13 - format)).1, 0) ∧ ∀ c, look (split l (13 - format)).1 c = look l c := by
  obtain ⟨hf, h2, e⟩ := put_ok h
  obtain ⟨r1, r2, _, r4⟩ := split_right h2
  rw [e]
  exact ⟨get_file hf r1 (fun y hy => (r2 y hy).1) more, r4⟩
theorem get_ok {s : List UInt8} (h : (get s).2 = 0) : (fld s 0 2 = 12 ∨ fld s 0 2 = 13) ∧ isL (get s).1 = true ∧ (get s).1 = rows s ∧ 16 + 12 * (rows s).length ≤ s.length := by
  have hb := long_bound s 12
  unfold get at *
  by_cases c1 : s.length < 16
  · rw [if_pos c1] at h; cases h
  · rw [if_neg c1] at h ⊢
    by_cases c2 : fld s 0 2 ≠ 12 ∧ fld s 0 2 ≠ 13
    · rw [if_pos c2] at h; cases h
    · rw [if_neg c2] at h ⊢
      by_cases c3 : 65536 < long s 12
      · rw [if_pos c3] at h; cases h
      · rw [if_neg c3] at h ⊢
        by_cases c4 : long s 4 ≠ 16 + 12 * long s 12
        · rw [if_pos c4] at h; cases h
        · rw [if_neg c4] at h ⊢
          by_cases c5 : (s.length : Int) < 16 + 12 * long s 12
          · rw [if_pos c5] at h; cases h
          · rw [if_neg c5] at h ⊢
            by_cases c6 : isL (rows s) = false
            · rw [if_pos c6] at h; cases h
            · rw [if_neg c6]
              refine ⟨by omega, by simpa using c6, rfl, ?_⟩
              unfold rows
              rw [List.length_map, List.length_range]
              omega
theorem get_no {s : List UInt8} (h : (get s).2 ≠ 0) : (get s).1 = [] := by
  unfold get at *
  by_cases c1 : s.length < 16
  · rw [if_pos c1]
  · rw [if_neg c1] at h ⊢
    by_cases c2 : fld s 0 2 ≠ 12 ∧ fld s 0 2 ≠ 13
    · rw [if_pos c2]
    · rw [if_neg c2] at h ⊢
      by_cases c3 : 65536 < long s 12
      · rw [if_pos c3]
      · rw [if_neg c3] at h ⊢
        by_cases c4 : long s 4 ≠ 16 + 12 * long s 12
        · rw [if_pos c4]
        · rw [if_neg c4] at h ⊢
          by_cases c5 : (s.length : Int) < 16 + 12 * long s 12
          · rw [if_pos c5]
          · rw [if_neg c5] at h ⊢
            by_cases c6 : isL (rows s) = false
            · rw [if_pos c6]
            · rw [if_neg c6] at h; exact absurd rfl h
theorem fld_front (s more : List UInt8) (p : Nat) (size : Int) (h : p + size.natAbs ≤ s.length) : fld (s ++ more) p size = fld s p size := by
  unfold fld
  rw [List.drop_append_of_le_length (by omega), List.take_append_of_le_length (by rw [List.length_drop]; omega)]
/-- Bytes behind play no part, but where bytes were missing. -/
theorem get_more {s more : List UInt8} (h : (get s).2 ≠ 4) : get (s ++ more) = get s := by
  have hb := long_bound s 12
  unfold get at *
  by_cases c1 : s.length < 16
  · rw [if_pos c1] at h; exact absurd rfl h
  · have l1 : ¬ (s ++ more).length < 16 := by rw [List.length_append]; omega
    have e0 : fld (s ++ more) 0 2 = fld s 0 2 := fld_front s more 0 2 (by simp; omega)
    have e4 : long (s ++ more) 4 = long s 4 := fld_front s more 4 4 (by simp; omega)
    have e12 : long (s ++ more) 12 = long s 12 := fld_front s more 12 4 (by simp; omega)
    rw [if_neg c1] at h
    rw [if_neg c1, if_neg l1, e0, e4, e12]
    by_cases c2 : fld s 0 2 ≠ 12 ∧ fld s 0 2 ≠ 13
    · rw [if_pos c2, if_pos c2]
    · rw [if_neg c2] at h
      rw [if_neg c2, if_neg c2]
      by_cases c3 : 65536 < long s 12
      · rw [if_pos c3, if_pos c3]
      · rw [if_neg c3] at h
        rw [if_neg c3, if_neg c3]
        by_cases c4 : long s 4 ≠ 16 + 12 * long s 12
        · rw [if_pos c4, if_pos c4]
        · rw [if_neg c4] at h
          rw [if_neg c4, if_neg c4]
          by_cases c5 : (s.length : Int) < 16 + 12 * long s 12
          · rw [if_pos c5] at h; exact absurd rfl h
          · have l5 : ¬ ((s ++ more).length : Int) < 16 + 12 * long s 12 := by rw [List.length_append]; omega
            have er : rows (s ++ more) = rows s := by
              unfold rows
              rw [e12]
              apply List.map_congr_left
              intro i hi
              have hi' := List.mem_range.1 hi
              unfold row
              rw [e0]
              have g1 : long (s ++ more) (16 + 12 * i) = long s (16 + 12 * i) := fld_front s more _ 4 (by simp; omega)
              have g2 : long (s ++ more) (20 + 12 * i) = long s (20 + 12 * i) := fld_front s more _ 4 (by simp; omega)
              have g3 : long (s ++ more) (24 + 12 * i) = long s (24 + 12 * i) := fld_front s more _ 4 (by simp; omega)
              rw [g1, g2, g3]
            rw [if_neg c5, if_neg l5, er]
/-- What is got is put in no more bytes, and tells the same. -/
theorem get_again {s : List UInt8} (h : (get s).2 = 0) {format : Int} (hf : format = 12 ∨ format = 13) (hst : ∀ y ∈ (get s).1, y.st = 13 - format) : (put (get s).1 format).2 = 0 ∧ (put (get s).1 format).1.length ≤ s.length ∧ (get (put (get s).1 format).1).2 = 0 ∧ ∀ c, look (get (put (get s).1 format).1).1 c = look (get s).1 c := by
  obtain ⟨_, hr, e, hlen⟩ := get_ok h
  have hkl : (kept (get s).1).length ≤ (get s).1.length := List.length_filter_le _ _
  have hn : (get s).1.length ≤ 65536 := by unfold isL at hr; simp only [Bool.and_eq_true, decide_eq_true_eq] at hr; exact hr.2
  have hsp : split (get s).1 (13 - format) = (kept (get s).1, 0) := by
    unfold split
    rw [parts_kept _ hst, hr, if_neg (by simp; omega), if_neg (by omega)]
  have hp : put (get s).1 format = (file (kept (get s).1) format, 0) := by
    unfold put
    rw [hsp, if_neg (by omega), if_neg (by simp)]
  have h0 : (put (get s).1 format).2 = 0 := by rw [hp]
  obtain ⟨g1, g2⟩ := get_put h0 []
  rw [List.append_nil] at g1
  refine ⟨h0, ?_, by rw [g1], fun c => ?_⟩
  · rw [hp]
    show (file (kept (get s).1) format).length ≤ s.length
    rw [file_len]
    rw [e] at hkl ⊢
    omega
  · rw [g1]; exact g2 c
theorem rows_st {s : List UInt8} {y : Span} (h : y ∈ rows s) : y.st = 13 - fld s 0 2 := by
  obtain ⟨i, _, rfl⟩ := List.mem_map.1 h
  rfl
end Gp
