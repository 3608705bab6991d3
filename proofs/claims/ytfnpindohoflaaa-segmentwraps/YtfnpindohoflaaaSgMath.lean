/-
  Plain functions on bytes (layer 9, segment), with nothing of the program: spans of runes, got and put by format 4; facts on them. No conditions beyond those stated.
-/
import Derived.Test.YtfnpindohoflaaaChMath
namespace Ch
/-- More on chains of spans. -/
theorem chain_lower {p q : Int} (h : q ≤ p) : ∀ l : List Span, chain p l = true → chain q l = true
  | [], _ => rfl
  | x :: r, hc => by
    simp only [chain, Bool.and_eq_true, decide_eq_true_eq] at hc ⊢
    exact ⟨⟨hc.1.1, by omega⟩, hc.2⟩
theorem chain_append {q : Int} : ∀ (A : List Span) (p : Int) (B : List Span), chain p A = true → p ≤ q → (∀ x ∈ A, x.to ≤ q) → chain q B = true → chain p (A ++ B) = true
  | [], p, B, _, hp, _, hB => chain_lower hp B hB
  | x :: r, p, B, hA, hp, hto, hB => by
    simp only [chain, Bool.and_eq_true, decide_eq_true_eq] at hA
    rw [List.cons_append, chain, hA.1.1, chain_append r x.to B hA.2 (hto x (by simp)) (fun y hy => hto y (by simp [hy])) hB]
    simp
    exact hA.1.2
theorem chain_len {M : Int} : ∀ (l : List Span) (p : Int), chain p l = true → p ≤ M → (∀ x ∈ l, x.to ≤ M) → (l.length : Int) ≤ M - p
  | [], p, _, hp, _ => by simp; omega
  | x :: r, p, h, hp, hto => by
    simp only [chain, Bool.and_eq_true, decide_eq_true_eq] at h
    obtain ⟨a1, a2, _⟩ := (okSpan_iff x).1 h.1.1
    have hx := hto x (by simp)
    have := chain_len r x.to h.2 hx (fun y hy => hto y (by simp [hy]))
    rw [List.length_cons]
    omega
theorem chain_all {P : Span → Prop} (hP : ∀ x, okSpan x = true → P x) : ∀ (l : List Span) (p : Int), chain p l = true → ∀ x ∈ l, P x
  | [], _, _, x, hx => by simp at hx
  | y :: r, p, h, x, hx => by
    simp only [chain, Bool.and_eq_true, decide_eq_true_eq] at h
    rcases List.mem_cons.1 hx with rfl | hx
    · exact hP _ h.1.1
    · exact chain_all hP r y.to h.2 x hx
theorem isL_links {l : List Span} (h : isL l = true) : chain (-1) l = true := by
  unfold isL at h; simp only [Bool.and_eq_true] at h; exact h.1
theorem isL_ok {l : List Span} (h : isL l = true) {x : Span} (hx : x ∈ l) : okSpan x = true := chain_all (P := fun x => okSpan x = true) (fun _ h => h) l (-1) (isL_links h) x hx
theorem look_beyond {M : Int} : ∀ (l : List Span), (∀ x ∈ l, x.to ≤ M) → ∀ c, M < c → look l c = 0
  | [], _, _, _ => rfl
  | x :: r, h, c, hc => by
    have := h x (by simp)
    rw [look, if_neg (by omega)]
    exact look_beyond r (fun y hy => h y (by simp [hy])) c hc
theorem look_neg {l : List Span} (h : isL l = true) {c : Int} (hc : c < 0) : look l c = 0 := look_low l (-1) (isL_links h) c (by omega)
end Ch
namespace Sg
open Bn He Ch

def word (s : List UInt8) (p : Nat) : Int := fld s p 2
theorem word_bound (s : List UInt8) (p : Nat) : 0 ≤ word s p ∧ word s p ≤ 65535 := fld_bound s p
def plane (n : Int) : Int := if 65536 ≤ n then n - 65536 else n
/-- Spans of a segment of offset 0. -/
def near (fr to delta : Int) : List Span :=
  if plane (fr + delta) + to - fr ≤ 65535 then [⟨fr, to, plane (fr + delta), 1⟩]
  else [⟨fr, fr + 65535 - plane (fr + delta), plane (fr + delta), 1⟩, ⟨fr + 65535 - plane (fr + delta) + 1, to, 0, 1⟩]
def gl1 (v delta : Int) : Int := if 0 < v ∧ 0 < plane (v + delta) then plane (v + delta) else 0
/-- Spans of another one, whose own offset stands at a place. -/
def far (s : List UInt8) (fr to delta : Int) (pos : Nat) : List Span × Int :=
  if (s.length : Int) < pos + word s pos + 2 * (to - fr) + 2 then ([], 4)
  else (spansOf (fun c => gl1 (word s (pos + (word s pos).toNat + 2 * (c - fr).toNat)) delta) fr (to - fr + 1).toNat, 0)
def sTo (s : List UInt8) (i : Nat) : Int := word s (14 + 2 * i)
def sFr (s : List UInt8) (n i : Nat) : Int := word s (16 + 2 * n + 2 * i)
def sDe (s : List UInt8) (n i : Nat) : Int := word s (16 + 4 * n + 2 * i)
def sOf (s : List UInt8) (n i : Nat) : Int := word s (16 + 6 * n + 2 * i)
def last (s : List UInt8) (i : Nat) : Int := if i = 0 then -1 else sTo s (i - 1)
def bad (s : List UInt8) (n i : Nat) : Bool := decide (sTo s i < sFr s n i) || decide (sFr s n i ≤ last s i) || decide (sOf s n i % 2 = 1)
def seg (s : List UInt8) (n i : Nat) : List Span × Int :=
  if sOf s n i = 0 then (near (sFr s n i) (sTo s i) (sDe s n i), 0) else far s (sFr s n i) (sTo s i) (sDe s n i) (16 + 6 * n + 2 * i)
def body (s : List UInt8) (n : Nat) : List Span × Int :=
  if (List.range n).any (fun i => bad s n i) = true ∨ last s n ≠ 65535 then ([], 5)
  else if Sf.scan (fun i => (seg s n i).2) 0 n ≠ 0 then ([], Sf.scan (fun i => (seg s n i).2) 0 n)
  else ((List.range n).flatMap fun i => (seg s n i).1, 0)
def many (s : List UInt8) : Nat := (word s 6 / 2).toNat
def get (s : List UInt8) : List Span × Int :=
  if s.length < 14 then ([], 4)
  else if word s 0 ≠ 4 ∨ word s 6 % 2 = 1 ∨ many s = 0 then ([], 5)
  else if (s.length : Int) < word s 2 then ([], 4)
  else if word s 2 < 16 + 8 * (many s : Nat) then ([], 5)
  else body (s.take (word s 2).toNat) (many s)

/-! What is got is right. -/
theorem plane_bound {n : Int} (h0 : 0 ≤ n) (h1 : n < 131072) : 0 ≤ plane n ∧ plane n ≤ 65535 := by
  unfold plane
  by_cases h : 65536 ≤ n
  · rw [if_pos h]; omega
  · rw [if_neg h]; omega
theorem near_chain {fr to delta p : Int} (h0 : 0 ≤ fr) (h1 : fr ≤ to) (h2 : to ≤ 65535) (h3 : 0 ≤ delta) (h4 : delta ≤ 65535) (hp : p < fr) : chain p (near fr to delta) = true ∧ ∀ x ∈ near fr to delta, x.to ≤ to := by
  obtain ⟨g0, g1⟩ := plane_bound (n := fr + delta) (by omega) (by omega)
  unfold near
  generalize plane (fr + delta) = g at *
  by_cases h : g + to - fr ≤ 65535
  · rw [if_pos h]
    refine ⟨?_, fun x hx => ?_⟩
    · have : okSpan ⟨fr, to, g, 1⟩ = true := (okSpan_iff _).2 ⟨h0, h1, by simp only; omega, by simp, by simp, g0, g1, by simp only; omega⟩
      rw [chain, this, chain]; simp; exact hp
    · simp only [List.mem_singleton] at hx; subst hx; exact Int.le_refl _
  · rw [if_neg h]
    refine ⟨?_, fun x hx => ?_⟩
    · have o1 : okSpan ⟨fr, fr + 65535 - g, g, 1⟩ = true := (okSpan_iff _).2 ⟨h0, by simp only; omega, by simp only; omega, by simp, by simp, g0, g1, by simp only; omega⟩
      have o2 : okSpan ⟨fr + 65535 - g + 1, to, 0, 1⟩ = true := (okSpan_iff _).2 ⟨by simp only; omega, by simp only; omega, by simp only; omega, by simp, by simp, by simp, by simp, by simp only; omega⟩
      rw [chain, o1, chain, o2, chain]; simp; omega
    · simp only [List.mem_cons, List.not_mem_nil, or_false] at hx
      rcases hx with rfl | rfl
      · simp only; omega
      · exact Int.le_refl _
theorem gl1_bound {v delta : Int} (h0 : 0 ≤ v) (h1 : v ≤ 65535) (h3 : 0 ≤ delta) (h4 : delta ≤ 65535) : 0 ≤ gl1 v delta ∧ gl1 v delta ≤ 65535 := by
  obtain ⟨g0, g1⟩ := plane_bound (n := v + delta) (by omega) (by omega)
  unfold gl1
  by_cases h : 0 < v ∧ 0 < plane (v + delta)
  · rw [if_pos h]; exact ⟨g0, g1⟩
  · rw [if_neg h]; omega
theorem seg_chain {s : List UInt8} {n i : Nat} {p : Int} (h1 : sFr s n i ≤ sTo s i) (hp : p < sFr s n i) : chain p (seg s n i).1 = true ∧ ∀ x ∈ (seg s n i).1, x.to ≤ sTo s i := by
  have b1 := word_bound s (14 + 2 * i)
  have b2 := word_bound s (16 + 2 * n + 2 * i)
  have b3 := word_bound s (16 + 4 * n + 2 * i)
  unfold seg
  by_cases h : sOf s n i = 0
  · rw [if_pos h]; exact near_chain b2.1 h1 b1.2 b3.1 b3.2 hp
  · rw [if_neg h]
    unfold far
    by_cases hm : (s.length : Int) < ((16 + 6 * n + 2 * i : Nat) : Int) + word s (16 + 6 * n + 2 * i) + 2 * (sTo s i - sFr s n i) + 2
    · rw [if_pos hm]; exact ⟨rfl, fun x hx => by simp at hx⟩
    · rw [if_neg hm]
      have e1 : 0 ≤ sFr s n i := b2.1
      have e2 : sTo s i ≤ 65535 := b1.2
      refine ⟨chain_spansOf _ (fun c => gl1_bound (word_bound _ _).1 (word_bound _ _).2 b3.1 b3.2) _ _ p hp b2.1 (by omega), fun x hx => ?_⟩
      have := (spansOf_mem _ _ _ x hx).2.1
      omega
theorem last_step (s : List UInt8) (i : Nat) : last s (i + 1) = sTo s i := by unfold last; rw [if_neg (by omega)]; rfl
theorem rows_chain {s : List UInt8} {n : Nat} (hb : ∀ i, i < n → bad s n i = false) : ∀ k, k ≤ n → chain (-1) ((List.range k).flatMap fun i => (seg s n i).1) = true ∧ (∀ x ∈ (List.range k).flatMap fun i => (seg s n i).1, x.to ≤ last s k) ∧ -1 ≤ last s k
  | 0, _ => by simp [chain, last]
  | k + 1, hk => by
    obtain ⟨i1, i2, i3⟩ := rows_chain hb k (by omega)
    have hbk := hb k (by omega)
    unfold bad at hbk
    simp only [Bool.or_eq_false_iff, decide_eq_false_iff_not] at hbk
    obtain ⟨⟨c1, c2⟩, _⟩ := hbk
    obtain ⟨j1, j2⟩ := seg_chain (s := s) (n := n) (i := k) (p := last s k) (by omega) (by omega)
    rw [List.range_succ, List.flatMap_append, last_step]
    simp only [List.flatMap_cons, List.flatMap_nil, List.append_nil]
    refine ⟨chain_append _ _ _ i1 (q := last s k) i3 i2 j1, fun x hx => ?_, by omega⟩
    rcases List.mem_append.1 hx with hx | hx
    · have := i2 x hx; omega
    · exact j2 x hx
theorem body_ok {s : List UInt8} {n : Nat} (h : (body s n).2 = 0) : (∀ i, i < n → bad s n i = false) ∧ last s n = 65535 ∧ (∀ i, i < n → (seg s n i).2 = 0) ∧ (body s n).1 = (List.range n).flatMap fun i => (seg s n i).1 := by
  unfold body at *
  by_cases c1 : (List.range n).any (fun i => bad s n i) = true ∨ last s n ≠ 65535
  · rw [if_pos c1] at h; cases h
  · rw [if_neg c1] at h ⊢
    by_cases c2 : Sf.scan (fun i => (seg s n i).2) 0 n ≠ 0
    · rw [if_pos c2] at h; exact absurd h c2
    · rw [if_neg c2]
      refine ⟨fun i hi => ?_, ?_, fun i hi => Sf.scan_all _ _ _ (by simpa using c2) i (by omega) (by omega), rfl⟩
      · cases e : bad s n i with
        | false => rfl
        | true => exact absurd (.inl (List.any_eq_true.2 ⟨i, List.mem_range.2 hi, e⟩)) c1
      · by_cases e : last s n = 65535
        · exact e
        · exact absurd (.inr e) c1
theorem get_body {s : List UInt8} (h : (get s).2 = 0) : get s = body (s.take (word s 2).toNat) (many s) := by
  unfold get at *
  by_cases c1 : s.length < 14
  · rw [if_pos c1] at h; cases h
  · rw [if_neg c1] at h ⊢
    by_cases c2 : word s 0 ≠ 4 ∨ word s 6 % 2 = 1 ∨ many s = 0
    · rw [if_pos c2] at h; cases h
    · rw [if_neg c2] at h ⊢
      by_cases c3 : (s.length : Int) < word s 2
      · rw [if_pos c3] at h; cases h
      · rw [if_neg c3] at h ⊢
        by_cases c4 : word s 2 < 16 + 8 * (many s : Nat)
        · rw [if_pos c4] at h; cases h
        · rw [if_neg c4]
theorem body_none {s : List UInt8} {n : Nat} (h : (body s n).2 ≠ 0) : (body s n).1 = [] := by
  unfold body at *
  by_cases c1 : (List.range n).any (fun i => bad s n i) = true ∨ last s n ≠ 65535
  · rw [if_pos c1]
  · rw [if_neg c1] at h ⊢
    by_cases c2 : Sf.scan (fun i => (seg s n i).2) 0 n ≠ 0
    · rw [if_pos c2]
    · rw [if_neg c2] at h; exact absurd rfl h
theorem get_none {s : List UInt8} (h : (get s).2 ≠ 0) : (get s).1 = [] := by
  unfold get at *
  by_cases c1 : s.length < 14
  · rw [if_pos c1]
  · rw [if_neg c1] at h ⊢
    by_cases c2 : word s 0 ≠ 4 ∨ word s 6 % 2 = 1 ∨ many s = 0
    · rw [if_pos c2]
    · rw [if_neg c2] at h ⊢
      by_cases c3 : (s.length : Int) < word s 2
      · rw [if_pos c3]
      · rw [if_neg c3] at h ⊢
        by_cases c4 : word s 2 < 16 + 8 * (many s : Nat)
        · rw [if_pos c4]
        · rw [if_neg c4] at h ⊢; exact body_none h
/-- What is got is right, and up to 65535. -/
theorem get_right {s : List UInt8} (h : (get s).2 = 0) : isL (get s).1 = true ∧ ∀ x ∈ (get s).1, x.to ≤ 65535 := by
  have e := get_body h
  rw [e] at h ⊢
  obtain ⟨h1, h2, _, h4⟩ := body_ok h
  obtain ⟨i1, i2, _⟩ := rows_chain h1 (many s) (Nat.le_refl _)
  rw [h4]
  rw [h2] at i2
  have := chain_len _ (-1) i1 (M := 65535) (by omega) i2
  refine ⟨?_, i2⟩
  unfold isL
  rw [i1]
  simp only [Bool.true_and, decide_eq_true_eq]
  omega
theorem look_out {s : List UInt8} (h : (get s).2 = 0) {c : Int} (hc : c < 0 ∨ 65535 < c) : look (get s).1 c = 0 := by
  obtain ⟨h1, h2⟩ := get_right h
  rcases hc with hc | hc
  · exact look_neg h1 hc
  · exact look_beyond _ h2 c hc
end Sg
