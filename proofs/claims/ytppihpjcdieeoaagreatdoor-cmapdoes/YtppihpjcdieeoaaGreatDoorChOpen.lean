/-
  An argument that is a slice of spans, or a span, opened: it reads as a list of spans, or as one. No conditions beyond those stated.
-/
import Derived.Test.YtppihpjcdieeoaaGreatDoorPart04
import Derived.Deep.Slices
import Derived.Deep.Fields
import Derived.OpenShut
namespace Go.Proofs.YtppihpjcdieeoaaGreatDoor
open Go.RowKit Go.ChangeShapes Go.WideShapes Go.Deep

theorem list_makeS (P : Nat → Ch.Span → Prop) : ∀ (n : Nat), (∀ i, i < n → ∃ x, P i x) → ∃ l : List Ch.Span, l.length = n ∧ ∀ i x, l[i]? = some x → P i x
  | 0, _ => ⟨[], rfl, by simp⟩
  | n + 1, h => by
    obtain ⟨l, hl, hp⟩ := list_makeS P n fun i hi => h i (by omega)
    obtain ⟨x, hx⟩ := h n (by omega)
    refine ⟨l ++ [x], by simp [hl], fun i y hy => ?_⟩
    rcases Nat.lt_or_ge i l.length with hlt | hge
    · rw [List.getElem?_append_left hlt] at hy; exact hp i y hy
    · rw [List.getElem?_append_right hge] at hy
      have : i - l.length < 1 := (List.getElem?_eq_some_iff.1 hy).1
      have hi : i = n := by omega
      rw [show i - l.length = 0 by omega] at hy
      simp at hy
      subst hy
      rw [hi]; exact hx

theorem add_plain' (b off i : Nat) : (⟨b, off, none⟩ : Addr).add i = ⟨b, off + i, none⟩ := by unfold Addr.add; split <;> simp_all

set_option maxRecDepth 100000 in
theorem open_spans {H : Type} {enc : TypeId × Value → H} {W : World} {a : Option Addr} {len cap : Nat} {d : DataW H} {p : List MemPlace}
    (h : DataW.Trod enc Tryz.prog W 0 (fun _ => true) true 22 (.slice a len cap) d p) :
    ∃ l : List Ch.Span, SRow W (.slice a len cap) l := by
  obtain ⟨fuel, hf⟩ := h
  have ce : Tryz.prog.cellsOf 63 = 4 := by kernel_rfl
  have ci : Tryz.prog.cellsOf 3 = 1 := by kernel_rfl
  rcases open_slice Tryz.underlying22 hf with ⟨hcs, _⟩ | ⟨x, len', cap', m, n, D, Pl, hcs, _, hl, hm, hmm, _, hi⟩
  · simp [Value.cells] at hcs
    obtain ⟨rfl, rfl, rfl⟩ := hcs
    exact ⟨[], .inl ⟨_, _, rfl, fun _ => rfl, rfl⟩⟩
  · simp [Value.cells] at hcs
    obtain ⟨rfl, rfl, rfl⟩ := hcs
    simp only [if_true] at hmm
    subst hmm
    by_cases h0 : len = 0
    · subst h0; exact ⟨[], .inl ⟨_, _, rfl, fun h => (by cases h), rfl⟩⟩
    · obtain ⟨b, off, spot⟩ := x
      have each : ∀ i, i < m → ∃ y : Ch.Span, ∀ j, j < 4 → W.cell? ((⟨b, off, spot⟩ : Addr).add (i * 4 + j)) = (encS y)[j]? := by
        intro i him
        obtain ⟨cs, h1, h2⟩ := hi i him
        rw [ce] at h1
        obtain ⟨_, hlen, hcell⟩ := World.cells?_some h1
        obtain ⟨ys, k, hk, hy, hlen2, hyl, hfld⟩ := DataW.trod_struct Tryz.underlying63 h2
        match cs, hlen with
        | [c0, c1, c2, c3], _ =>
          match ys, hyl with
          | [y0, y1, y2, y3], _ =>
            have g0 := hfld 0 _ rfl
            have g1 := hfld 1 _ rfl
            have g2 := hfld 2 _ rfl
            have g3 := hfld 3 _ rfl
            simp [ci] at g0 g1 g2 g3
            obtain ⟨n0, e0, _, _⟩ := DataW.trod_int Tryz.underlying3 g0
            obtain ⟨n1, e1, _, _⟩ := DataW.trod_int Tryz.underlying3 g1
            obtain ⟨n2, e2, _, _⟩ := DataW.trod_int Tryz.underlying3 g2
            obtain ⟨n3, e3, _, _⟩ := DataW.trod_int Tryz.underlying3 g3
            simp only [List.cons.injEq, and_true] at e0 e1 e2 e3
            subst e0 e1 e2 e3
            refine ⟨⟨n0, n1, n2, n3⟩, fun j hj => ?_⟩
            have q := hcell j hj
            rw [add_add] at q
            rw [q]
            obtain rfl | rfl | rfl | rfl : j = 0 ∨ j = 1 ∨ j = 2 ∨ j = 3 := by omega
            all_goals rfl
      have hspot : spot = none := by
        obtain ⟨y, hy⟩ := each 0 (by omega)
        have q : W.cell? ((⟨b, off, spot⟩ : Addr).add (0 * 4 + 0)) = some (.int .i64 y.fr) := hy 0 (by omega)
        simpa [Addr.add] using World.cell?_spot q
      subst hspot
      obtain ⟨l, hll, hlp⟩ := list_makeS (fun i y => ∀ j, j < 4 → W.cell? ((⟨b, off, none⟩ : Addr).add (i * 4 + j)) = (encS y)[j]?) len (fun i hil => each i (by omega))
      refine ⟨l, .inr ⟨b, off, m, by rw [hll], by unfold maxLen at hm; omega, by omega, ?_, ?_⟩⟩
      · have hx : l[0]? = some l[0] := List.getElem?_eq_getElem (by omega)
        have q : W.cell? ((⟨b, off, none⟩ : Addr).add (0 * 4 + 0)) = some (.int .i64 l[0].fr) := hlp 0 _ hx 0 (by omega)
        rw [add_plain'] at q
        exact World.block_lt_of_cell? W _ q
      · intro i x hx j hj
        have q := hlp i x hx j hj
        rw [add_plain', ← Nat.add_assoc] at q
        exact q
set_option maxRecDepth 100000 in
theorem open_span {H : Type} {enc : TypeId × Value → H} {W : World} {r : Reach} {b0 : Nat} {v : Value} {d : DataW H} {p : List MemPlace}
    (hv : Value.okWide Tryz.prog W r b0 63 v) (h : DataW.Trod enc Tryz.prog W 0 (fun _ => true) true 63 v d p) : ∃ x : Ch.Span, v = aggS x := by
  obtain ⟨cs, rfl, hsz⟩ := okWide_struct Tryz.underlying63 hv
  obtain ⟨fuel, hf⟩ := h
  obtain ⟨ys, n, hn, hy, hlen, hyl, hfld⟩ := DataW.trod_struct Tryz.underlying63 hf
  have hc : Tryz.prog.cellsOf 63 = 4 := by kernel_rfl
  have ci : Tryz.prog.cellsOf 3 = 1 := by kernel_rfl
  obtain ⟨l⟩ := cs
  match l, hsz.trans hc with
  | [c0, c1, c2, c3], _ =>
    match ys, hyl with
    | [y0, y1, y2, y3], _ =>
      have g0 := hfld 0 _ rfl
      have g1 := hfld 1 _ rfl
      have g2 := hfld 2 _ rfl
      have g3 := hfld 3 _ rfl
      simp [ci, Value.cells] at g0 g1 g2 g3
      obtain ⟨n0, e0, _, _⟩ := DataW.trod_int Tryz.underlying3 g0
      obtain ⟨n1, e1, _, _⟩ := DataW.trod_int Tryz.underlying3 g1
      obtain ⟨n2, e2, _, _⟩ := DataW.trod_int Tryz.underlying3 g2
      obtain ⟨n3, e3, _, _⟩ := DataW.trod_int Tryz.underlying3 g3
      simp only [List.cons.injEq, and_true] at e0 e1 e2 e3
      subst e0 e1 e2 e3
      exact ⟨⟨n0, n1, n2, n3⟩, rfl⟩
end Go.Proofs.YtppihpjcdieeoaaGreatDoor
