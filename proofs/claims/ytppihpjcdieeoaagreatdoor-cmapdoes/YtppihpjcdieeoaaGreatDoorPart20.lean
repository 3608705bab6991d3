/-
  Facts that the walks rest on: SgSt, SgBuild. No conditions beyond those stated.
-/
import Derived.Test.YtppihpjcdieeoaaGreatDoorPart05
import Derived.Test.YtppihpjcdieeoaaGreatDoorPart19
import Derived.Test.YtppihpjcdieeoaaGreatDoorPart06
import Derived.Deep.RegionHeld3
/-
  What lies in memory while segments are built: the array, the table's box, the two counters. No conditions beyond those stated.
-/
namespace Go.Proofs.YtppihpjcdieeoaaGreatDoor
open Go.RowKit

structure St (B ty : Nat) (xs : List Int) (T I X : Nat) (t0 t1 t2 t3 t4 : Value) (i nx : Int) (w0 W : World) : Prop where
  arr : ArrAt W B ty xs
  tab : W.heap[T]? = some (.cells #[t0, t1, t2, t3, t4] 106 (0, 0))
  ii : ArrAt W I 3 [i]
  nn : ArrAt W X 3 [nx]
  lo : Lo w0 W
  hB : w0.heap.size ≤ B
  hI : w0.heap.size ≤ I
  hX : w0.heap.size ≤ X
  d1 : T ≠ B
  d2 : I ≠ B
  d3 : X ≠ B
  d4 : T ≠ I
  d5 : T ≠ X
  d6 : I ≠ X
variable {B ty T I X : Nat} {xs : List Int} {t0 t1 t2 t3 t4 : Value} {i nx : Int} {w0 W W' : World}
theorem St.to (h : St B ty xs T I X t0 t1 t2 t3 t4 i nx w0 W) (l : Lo W W') : St B ty xs T I X t0 t1 t2 t3 t4 i nx w0 W' :=
  { h with arr := h.arr.lo l, tab := lo_block l h.tab, ii := h.ii.lo l, nn := h.nn.lo l, lo := h.lo.trans l }
theorem St.setB (h : St B ty xs T I X t0 t1 t2 t3 t4 i nx w0 W) (k : Nat) (z : Int) : St B ty (xs.set k z) T I X t0 t1 t2 t3 t4 i nx w0 (W.setCell ⟨B, k, none⟩ (.int .i64 z)) :=
  { h with
    arr := h.arr.set k z
    tab := by rw [set_other h.d1]; exact h.tab
    ii := by unfold ArrAt; rw [set_other h.d2]; exact h.ii
    nn := by unfold ArrAt; rw [set_other h.d3]; exact h.nn
    lo := h.lo.set h.hB _ }
theorem St.setI (h : St B ty xs T I X t0 t1 t2 t3 t4 i nx w0 W) (z : Int) : St B ty xs T I X t0 t1 t2 t3 t4 z nx w0 (W.setCell ⟨I, 0, none⟩ (.int .i64 z)) :=
  { h with
    arr := by unfold ArrAt; rw [set_other (Ne.symm h.d2)]; exact h.arr
    tab := by rw [set_other h.d4]; exact h.tab
    ii := h.ii.set 0 z
    nn := by unfold ArrAt; rw [set_other (Ne.symm h.d6)]; exact h.nn
    lo := h.lo.set h.hI _ }
theorem St.setX (h : St B ty xs T I X t0 t1 t2 t3 t4 i nx w0 W) (z : Int) : St B ty xs T I X t0 t1 t2 t3 t4 i z w0 (W.setCell ⟨X, 0, none⟩ (.int .i64 z)) :=
  { h with
    arr := by unfold ArrAt; rw [set_other (Ne.symm h.d3)]; exact h.arr
    tab := by rw [set_other h.d5]; exact h.tab
    ii := by unfold ArrAt; rw [set_other h.d6]; exact h.ii
    nn := h.nn.set 0 z
    lo := h.lo.set h.hX _ }
/-- Another array, all else as it was. -/
theorem St.other (h : St B ty xs T I X t0 t1 t2 t3 t4 i nx w0 W) {ys : List Int} (h1 : ArrAt W' B ty ys) (h2 : ∀ w0, Lo w0 W → w0.heap.size ≤ B → Lo w0 W') (h3 : ∀ T, T ≠ B → W'.heap[T]? = W.heap[T]?) : St B ty ys T I X t0 t1 t2 t3 t4 i nx w0 W' :=
  { h with
    arr := h1
    tab := by rw [h3 _ h.d1]; exact h.tab
    ii := by unfold ArrAt; rw [h3 _ h.d2]; exact h.ii
    nn := by unfold ArrAt; rw [h3 _ h.d3]; exact h.nn
    lo := h2 _ h.lo h.hB }
theorem St.i0 (h : St B ty xs T I X t0 t1 t2 t3 t4 i nx w0 W) : W.cell? ⟨I, 0, none⟩ = some (.int .i64 i) ∧ W.frozen? ⟨I, 0, none⟩ = false := ⟨h.ii.cell (i := 0) (by simp), h.ii.frozen 0⟩
theorem St.x0 (h : St B ty xs T I X t0 t1 t2 t3 t4 i nx w0 W) : W.cell? ⟨X, 0, none⟩ = some (.int .i64 nx) ∧ W.frozen? ⟨X, 0, none⟩ = false := ⟨h.nn.cell (i := 0) (by simp), h.nn.frozen 0⟩
theorem St.b0 (h : St B ty xs T I X t0 t1 t2 t3 t4 i nx w0 W) {k : Nat} (hk : k < xs.length) : W.cell? ⟨B, k, none⟩ = some (.int .i64 (xs.getD k 0)) ∧ W.frozen? ⟨B, k, none⟩ = false := ⟨h.arr.cell hk, h.arr.frozen k⟩

/-- And a span in a box of its own. -/
structure Sx (x : Ch.Span) (S B ty : Nat) (xs : List Int) (T I X : Nat) (t0 t1 t2 t3 t4 : Value) (i nx : Int) (w0 W : World) : Prop where
  st : St B ty xs T I X t0 t1 t2 t3 t4 i nx w0 W
  sx : W.heap[S]? = some (.cells #[.int .i64 x.fr, .int .i64 x.to, .int .i64 x.gl, .int .i64 x.st] 63 (0, 0))
  e1 : S ≠ B
  e2 : S ≠ I
  e3 : S ≠ X
variable {x : Ch.Span} {S : Nat}
theorem Sx.to (h : Sx x S B ty xs T I X t0 t1 t2 t3 t4 i nx w0 W) (l : Lo W W') : Sx x S B ty xs T I X t0 t1 t2 t3 t4 i nx w0 W' := { h with st := h.st.to l, sx := lo_block l h.sx }
theorem Sx.setB (h : Sx x S B ty xs T I X t0 t1 t2 t3 t4 i nx w0 W) (k : Nat) (z : Int) : Sx x S B ty (xs.set k z) T I X t0 t1 t2 t3 t4 i nx w0 (W.setCell ⟨B, k, none⟩ (.int .i64 z)) :=
  { h with st := h.st.setB k z, sx := by rw [set_other h.e1]; exact h.sx }
theorem Sx.setX (h : Sx x S B ty xs T I X t0 t1 t2 t3 t4 i nx w0 W) (z : Int) : Sx x S B ty xs T I X t0 t1 t2 t3 t4 i z w0 (W.setCell ⟨X, 0, none⟩ (.int .i64 z)) :=
  { h with st := h.st.setX z, sx := by rw [set_other h.e3]; exact h.sx }
theorem Sx.other (h : Sx x S B ty xs T I X t0 t1 t2 t3 t4 i nx w0 W) {ys : List Int} (h1 : ArrAt W' B ty ys) (h2 : ∀ w0, Lo w0 W → w0.heap.size ≤ B → Lo w0 W') (h3 : ∀ T, T ≠ B → W'.heap[T]? = W.heap[T]?) : Sx x S B ty ys T I X t0 t1 t2 t3 t4 i nx w0 W' :=
  { h with st := h.st.other h1 h2 h3, sx := by rw [h3 _ h.e1]; exact h.sx }

/-- The number at a cell. -/
def valAt (B k : Nat) (W : World) : Int := match W.cell? ⟨B, k, none⟩ with
  | some (.int _ z) => z
  | _ => 0
theorem valAt_is {k : Nat} {ys : List Int} (h : ArrAt W B ty ys) (hk : k < ys.length) : W.cell? ⟨B, k, none⟩ = some (.int .i64 (valAt B k W)) := by
  have := h.cell hk
  unfold valAt
  rw [this]
/-- The cells that the first region loads, and that two may be written. -/
abbrev R1 (x : Ch.Span) (S B ty : Nat) (xs : List Int) (T I X : Nat) (t0 t1 t2 t3 t4 : Value) (i nx : Int) (w0 : World) (k1 k2 : Nat) (W : World) : Prop :=
  W.cell? ⟨T, 1, none⟩ = some t1 ∧ W.cell? ⟨T, 2, none⟩ = some t2 ∧ W.cell? ⟨I, 0, none⟩ = some (.int .i64 i) ∧ W.cell? ⟨S, 0, none⟩ = some (.int .i64 x.fr) ∧ W.cell? ⟨S, 1, none⟩ = some (.int .i64 x.to) ∧
    W.frozen? ⟨B, k1, none⟩ = false ∧ W.frozen? ⟨B, k2, none⟩ = false ∧ W.cell? ⟨B, k1, none⟩ = some (.int .i64 (valAt B k1 W)) ∧ W.cell? ⟨B, k2, none⟩ = some (.int .i64 (valAt B k2 W)) ∧ Hid (∃ ys, ys.length = xs.length ∧ Sx x S B ty ys T I X t0 t1 t2 t3 t4 i nx w0 W)
theorem R1.of {k1 k2 : Nat} {ys : List Int} (h : Sx x S B ty ys T I X t0 t1 t2 t3 t4 i nx w0 W) (hl : ys.length = xs.length) (h1 : k1 < xs.length) (h2 : k2 < xs.length) : R1 x S B ty xs T I X t0 t1 t2 t3 t4 i nx w0 k1 k2 W := by
  obtain ⟨⟨a0, a1, a2, a3, a4⟩, _⟩ := five_at h.st.tab
  obtain ⟨⟨c0, c1, c2, c3⟩, _⟩ := four_at h.sx
  exact ⟨a1, a2, h.st.i0.1, c0, c1, h.st.arr.frozen _, h.st.arr.frozen _, valAt_is h.st.arr (by omega), valAt_is h.st.arr (by omega), Lib.hid ⟨ys, hl, h⟩⟩
theorem R1.setB {k1 k2 : Nat} (h : R1 x S B ty xs T I X t0 t1 t2 t3 t4 i nx w0 k1 k2 W) (h1 : k1 < xs.length) (h2 : k2 < xs.length) (k : Nat) (z : Int) : R1 x S B ty xs T I X t0 t1 t2 t3 t4 i nx w0 k1 k2 (W.setCell ⟨B, k, none⟩ (.int .i64 z)) := by
  obtain ⟨ys, hl, hh⟩ := h.2.2.2.2.2.2.2.2.2.out
  exact R1.of (hh.setB k z) (by simpa using hl) h1 h2
theorem R1.drew {k1 k2 : Nat} (h : R1 x S B ty xs T I X t0 t1 t2 t3 t4 i nx w0 k1 k2 W) (h1 : k1 < xs.length) (h2 : k2 < xs.length) : R1 x S B ty xs T I X t0 t1 t2 t3 t4 i nx w0 k1 k2 W.drew := by
  obtain ⟨ys, hl, hh⟩ := h.2.2.2.2.2.2.2.2.2.out
  exact R1.of (hh.to (Lo.drew (Lo.refl _))) hl h1 h2
/-- The cells that the region of the listed glyphs loads. -/
abbrev R5 (x : Ch.Span) (S B ty : Nat) (T I X : Nat) (t0 t1 t2 t3 t4 : Value) (i nx : Int) (w0 W : World) : Prop :=
  W.cell? ⟨T, 4, none⟩ = some t4 ∧ W.cell? ⟨X, 0, none⟩ = some (.int .i64 nx) ∧ W.cell? ⟨S, 2, none⟩ = some (.int .i64 x.gl) ∧ Hid (∃ ys, Sx x S B ty ys T I X t0 t1 t2 t3 t4 i nx w0 W)
theorem R5.of (h : Sx x S B ty xs T I X t0 t1 t2 t3 t4 i nx w0 W) : R5 x S B ty T I X t0 t1 t2 t3 t4 i nx w0 W := by
  obtain ⟨⟨a0, a1, a2, a3, a4⟩, _⟩ := five_at h.st.tab
  obtain ⟨⟨c0, c1, c2, c3⟩, _⟩ := four_at h.sx
  exact ⟨a4, h.st.x0.1, c2, Lib.hid ⟨xs, h⟩⟩
end Go.Proofs.YtppihpjcdieeoaaGreatDoor
/-
  Contracts of segment.builder and of the closure that it makes: a span laid into the arrays as the next segment. No conditions beyond those stated.
-/
namespace Go.Proofs.YtppihpjcdieeoaaGreatDoor
open Go.RowKit

/-- The array behind one more span: its ends, and its offset with its glyphs or its delta. -/
def lay1 (x : Ch.Span) (n i nx : Nat) (xs : List Int) : List Int :=
  if Sg.isRow x = true then
    let ys := ((xs.set (8 + n + i) x.fr).set (7 + i) x.to).set (8 + 3 * n + i) (2 * ((nx : Int) - i))
    ys.take (8 + 3 * n + nx) ++ List.replicate (Sg.wid x) x.gl ++ ys.drop (8 + 3 * n + nx + Sg.wid x)
  else ((xs.set (8 + n + i) x.fr).set (7 + i) x.to).set (8 + 2 * n + i) ((x.gl - x.fr) % 65536)

set_option maxRecDepth 100000 in
set_option maxHeartbeats 3200000 in
theorem add_any {x : Ch.Span} (hok : Ch.okSpan x = true) (B ty T I X n m i nx : Nat) (xs : List Int) (w0 w : World) (hi : i < n) (hnx : nx + Sg.wid x ≤ m) (hxs : xs.length = 8 + 3 * n + m) (hnm : n ≤ nx) (hm : m ≤ 1000000)
    (hst : St B ty xs T I X (.slice (some ⟨B, 0, none⟩) 7 7) (.slice (some ⟨B, 7, none⟩) n n) (.slice (some ⟨B, 8 + n, none⟩) n n) (.slice (some ⟨B, 8 + 2 * n, none⟩) n n) (.slice (some ⟨B, 8 + 3 * n, none⟩) m m) i nx w0 w) :
    Calls Tryz.prog 127 #[aggS x, .pointer (some ⟨T, 0, none⟩), .pointer (some ⟨I, 0, none⟩), .pointer (some ⟨X, 0, none⟩)] w fun e w' => e = .returned (.tuple #[]) ∧
      St B ty (lay1 x n i nx xs) T I X (.slice (some ⟨B, 0, none⟩) 7 7) (.slice (some ⟨B, 7, none⟩) n n) (.slice (some ⟨B, 8 + n, none⟩) n n) (.slice (some ⟨B, 8 + 2 * n, none⟩) n n) (.slice (some ⟨B, 8 + 3 * n, none⟩) m m) ((i : Int) + 1) (((nx + Sg.wid x : Nat) : Int)) w0 w' := by
  have HLg := Lib.hid (fun W => listedGlyphs_any hok W)
  have hok2 := (Ch.okSpan_iff x).1 hok
  have HOk := Lib.hid hok2
  have hrowI : Sg.isRow x = true ↔ 0 < Sg.wid x := by
    unfold Sg.wid
    by_cases h : Sg.isRow x = true
    · rw [if_pos h]
      obtain ⟨_, a2, _⟩ := hok2
      constructor
      · intro _; omega
      · intro _; exact h
    · rw [if_neg h]
      constructor
      · intro h2; exact absurd h2 h
      · intro h2; omega
  have HSx0 : Hid (Sx x w.heap.size B ty xs T I X (.slice (some ⟨B, 0, none⟩) 7 7) (.slice (some ⟨B, 7, none⟩) n n) (.slice (some ⟨B, 8 + n, none⟩) n n) (.slice (some ⟨B, 8 + 2 * n, none⟩) n n) (.slice (some ⟨B, 8 + 3 * n, none⟩) m m) i nx w0 (w.alloc (.cells #[.int .i64 x.fr, .int .i64 x.to, .int .i64 x.gl, .int .i64 x.st] 63))) := Lib.hid
    ⟨hst.to ((Lo.refl _).alloc _), new_block w _, by have := hst.arr.lt; omega, by have := hst.ii.lt; omega, by have := hst.nn.lt; omega⟩
  have HR1 := Lib.hid (R1.of HSx0.out rfl (k1 := 7 + i) (k2 := 8 + n + i) (by omega) (by omega))
  have hl1 : 7 + i < xs.length := by omega
  have hl2 : 8 + n + i < xs.length := by omega
  have hhd := hst.arr.lt
  unfold aggS at HLg ⊢
  generalize hS : w.heap.size = S at *
  have HLay : Hid (lay1 x n i nx xs = if Sg.isRow x = true then
    (((xs.set (8 + n + i) x.fr).set (7 + i) x.to).set (8 + 3 * n + i) (2 * ((nx : Int) - i))).take (8 + 3 * n + nx) ++ List.replicate (Sg.wid x) x.gl ++ (((xs.set (8 + n + i) x.fr).set (7 + i) x.to).set (8 + 3 * n + i) (2 * ((nx : Int) - i))).drop (8 + 3 * n + nx + Sg.wid x)
    else ((xs.set (8 + n + i) x.fr).set (7 + i) x.to).set (8 + 2 * n + i) ((x.gl - x.fr) % 65536)) := Lib.hid rfl
  generalize lay1 x n i nx xs = ys at *
  generalize Sg.wid x = wd at *
  go_enter Tryz.func127, Tryz.ntmps127
  go_wp2_with fail
  generalize World.alloc w (.cells #[.int .i64 x.fr, .int .i64 x.to, .int .i64 x.gl, .int .i64 x.st] 63) = W0 at *
  go_region_held3 (fun W => R1 x S B ty xs T I X (.slice (some ⟨B, 0, none⟩) 7 7) (.slice (some ⟨B, 7, none⟩) n n) (.slice (some ⟨B, 8 + n, none⟩) n n) (.slice (some ⟨B, 8 + 2 * n, none⟩) n n) (.slice (some ⟨B, 8 + 3 * n, none⟩) m m) i nx w0 (7 + i) (8 + n + i) W) (first | assumption | exact R1.drew HR1.out hl1 hl2 | exact R1.drew (R1.setB HR1.out hl1 hl2 _ _) hl1 hl2 | exact R1.drew (R1.setB (R1.setB HR1.out hl1 hl2 _ _) hl1 hl2 _ _) hl1 hl2) (fail)
  have HSx1 : Hid (Sx x S B ty ((xs.set (8 + n + i) x.fr).set (7 + i) x.to) T I X (.slice (some ⟨B, 0, none⟩) 7 7) (.slice (some ⟨B, 7, none⟩) n n) (.slice (some ⟨B, 8 + n, none⟩) n n) (.slice (some ⟨B, 8 + 2 * n, none⟩) n n) (.slice (some ⟨B, 8 + 3 * n, none⟩) m m) i nx w0 ((W0.setCell ⟨B, 8 + n + i, none⟩ (.int .i64 x.fr)).setCell ⟨B, 7 + i, none⟩ (.int .i64 x.to)).drew) := Lib.hid (((HSx0.out.setB _ _).setB _ _).to (Lo.drew (Lo.refl _)))
  have hl3 : ((xs.set (8 + n + i) x.fr).set (7 + i) x.to).length = 8 + 3 * n + m := by simp only [List.length_set]; exact hxs
  generalize World.drew _ = W1 at *
  generalize (xs.set (8 + n + i) x.fr).set (7 + i) x.to = xs1 at *
  clear HSx0 HR1 hl1 hl2 hst hS hhd
  obtain ⟨⟨c0, c1, c2, c3⟩, _⟩ := four_at HSx1.out.sx
  go_wp2_with fail
  refine (HLg.out _).mono ?_
  rintro e W2 ⟨rfl, lo⟩
  have HSx2 := Lib.hid (HSx1.out.to lo)
  clear lo HLg HSx1 c0 c1 c2 c3
  obtain ⟨⟨c0, c1, c2, c3⟩, _⟩ := four_at HSx2.out.sx
  obtain ⟨⟨a0, a1, a2, a3, a4⟩, _⟩ := five_at HSx2.out.st.tab
  obtain ⟨i0, i1⟩ := HSx2.out.st.i0
  obtain ⟨x0, x1⟩ := HSx2.out.st.x0
  cases hr : Sg.isRow x with
  | true =>
    have hw : 0 < wd := hrowI.1 hr
    have HE := HLay.out
    rw [hr, if_pos rfl] at HE
    have HLay := Lib.hid HE
    clear HE hr hrowI
    obtain ⟨b0, b1⟩ := HSx2.out.st.b0 (k := 8 + 3 * n + i) (by rw [hl3]; omega)
    have HSx3 : Hid (Sx x S B ty (xs1.set (8 + 3 * n + i) (2 * ((nx : Int) - i))) T I X (.slice (some ⟨B, 0, none⟩) 7 7) (.slice (some ⟨B, 7, none⟩) n n) (.slice (some ⟨B, 8 + n, none⟩) n n) (.slice (some ⟨B, 8 + 2 * n, none⟩) n n) (.slice (some ⟨B, 8 + 3 * n, none⟩) m m) i nx w0 (W2.setCell ⟨B, 8 + 3 * n + i, none⟩ (.int .i64 (2 * ((nx : Int) - i))))) := Lib.hid (HSx2.out.setB _ _)
    have hl4 : (xs1.set (8 + 3 * n + i) (2 * ((nx : Int) - i))).length = 8 + 3 * n + m := by simp only [List.length_set]; exact hl3
    generalize hX2 : xs1.set (8 + 3 * n + i) (2 * ((nx : Int) - i)) = xs2 at *
    go_wp2_with fail
    generalize World.setCell W2 ⟨B, 8 + 3 * n + i, none⟩ (.int .i64 (2 * ((nx : Int) - i))) = W3 at *
    have HR5 := Lib.hid (R5.of (HSx3.out.to (Lo.drew (Lo.refl _))))
    have HSx4 := Lib.hid (HSx3.out.to (Lo.drew (Lo.refl _)))
    have hwd : wd ≤ 1000000 := by omega
    have HRep : Hid (Calls Tryz.prog 96 #[.int .i64 x.gl, .int .i64 ((wd : Nat) : Int)] W3.drew fun e w' => ∃ bq oq cq, e = .returned (.slice (some ⟨bq, oq, none⟩) (wd) cq) ∧ R5 x S B ty T I X (.slice (some ⟨B, 0, none⟩) 7 7) (.slice (some ⟨B, 7, none⟩) n n) (.slice (some ⟨B, 8 + n, none⟩) n n) (.slice (some ⟨B, 8 + 2 * n, none⟩) n n) (.slice (some ⟨B, 8 + 3 * n, none⟩) m m) i nx w0 w' ∧
        Hid (Sx x S B ty xs2 T I X (.slice (some ⟨B, 0, none⟩) 7 7) (.slice (some ⟨B, 7, none⟩) n n) (.slice (some ⟨B, 8 + n, none⟩) n n) (.slice (some ⟨B, 8 + 2 * n, none⟩) n n) (.slice (some ⟨B, 8 + 3 * n, none⟩) m m) i nx w0 w') ∧
        Hid (∀ j, j < wd → w'.cell? ⟨bq, oq + j, none⟩ = some (.int .i64 ((List.replicate (wd) x.gl).getD j 0)))) :=
      Lib.hid ((srepeated_any x.gl (wd) W3.drew hwd).mono fun e w' ⟨p, c, h1, h2, h3⟩ => by
        obtain ⟨b, o, rfl, hc⟩ := h2.at_ hw
        have hs := HSx4.out.to h3
        refine ⟨b, o, c, h1, R5.of hs, Lib.hid hs, Lib.hid fun j hj => ?_⟩
        obtain ⟨b', o', e', hc'⟩ := h2.at_ hj
        injection e' with e'
        injection e' with e1 e2
        subst e1 e2
        exact hc')
    have hsl := fun W => slice_from' B (8 + 3 * n) m m nx (nx : Int) rfl (by omega) W
    rw [if_neg (by omega)] at hsl
    have hfit : 8 + 3 * n + nx + (m - nx) ≤ xs2.length := by omega
    have hle : wd ≤ m - nx := by omega
    clear c0 c1 c2 c3 a0 a1 a2 a3 a4 i0 i1 x0 x1 b0 b1 HSx3
    go_region_held3 (fun W => R5 x S B ty T I X (.slice (some ⟨B, 0, none⟩) 7 7) (.slice (some ⟨B, 7, none⟩) n n) (.slice (some ⟨B, 8 + n, none⟩) n n) (.slice (some ⟨B, 8 + 2 * n, none⟩) n n) (.slice (some ⟨B, 8 + 3 * n, none⟩) m m) i nx w0 W) (first | assumption | exact HR5.out)
      (first
        | (go_at_call 96; refine HRep.out.mono ?_; rintro e W5 ⟨bq, oq, cq, rfl, hR5, HSx5, HCl⟩)
        | (refine step_cp rfl (.tmp 33) (.tmp 37) rfl B ty (8 + 3 * n + nx) (m - nx) (m - nx) bq oq wd cq xs2 (List.replicate wd x.gl) rfl rfl HSx5.out.st.arr HCl.out List.length_replicate hle hfit ?_; intro W6 hA6 hF6 hG6; have HSx6 := Lib.hid (HSx5.out.other hA6 hF6 hG6); have hR6 := R5.of HSx6.out; clear hA6 hF6 hG6))
    have HSx7 : Hid (Sx x S B ty ys T I X (.slice (some ⟨B, 0, none⟩) 7 7) (.slice (some ⟨B, 7, none⟩) n n) (.slice (some ⟨B, 8 + n, none⟩) n n) (.slice (some ⟨B, 8 + 2 * n, none⟩) n n) (.slice (some ⟨B, 8 + 3 * n, none⟩) m m) i nx w0 W6) := Lib.hid (by rw [HLay.out]; exact HSx6.out)
    have HSx8 := Lib.hid (HSx7.out.setX ((nx : Int) + wd))
    have HSt9 := Lib.hid (HSx8.out.st.setI ((i : Int) + 1))
    obtain ⟨x0, x1⟩ := HSx7.out.st.x0
    obtain ⟨i0, i1⟩ := HSx8.out.st.i0
    clear HSx5 HSx6 hR5 hR6 HSx4 HRep HR5 hsl HCl
    go_wp2_with fail
    go_end0
    refine ⟨rfl, ?_⟩
    rw [Int.natCast_add]
    exact HSt9.out
  | false =>
    have hw : wd = 0 := by
      rcases Nat.eq_zero_or_pos (wd) with h | h
      · exact h
      · rw [hrowI.2 h] at hr; cases hr
    have HE := HLay.out
    rw [hr, if_neg (by simp)] at HE
    have HLay := Lib.hid HE
    clear HE hr hrowI
    rw [hw]
    obtain ⟨b0, b1⟩ := HSx2.out.st.b0 (k := 8 + 2 * n + i) (by rw [hl3]; omega)
    have HW := Lib.hid (fun W => wrapped_any (x.gl - x.fr) W)
    have HSx3 := Lib.hid (HSx2.out.to (Lo.drew (Lo.refl _)))
    go_wp2_with fail
    refine wp_region_still_tail 9 (by kernel_rfl) (by kernel_rfl) ?_
    simp only [List.take_succ_cons, List.take_zero, List.drop_succ_cons, List.drop_zero]
    change wpStill _ _ W2.drew _ _ _
    have hwr : IntKind.i64.wrap (x.gl - x.fr) = x.gl - x.fr := IntWalk.i64_in _ (by omega)
    repeat still_step
    still_call ((HW.out _).mono fun e w' h => ⟨h.1, h.2.symm⟩)
    repeat still_step
    refine wpStill_nil ?_
    change wpList _ _ _ _ _ W2.drew
    have HSx4 : Hid (Sx x S B ty ys T I X (.slice (some ⟨B, 0, none⟩) 7 7) (.slice (some ⟨B, 7, none⟩) n n) (.slice (some ⟨B, 8 + n, none⟩) n n) (.slice (some ⟨B, 8 + 2 * n, none⟩) n n) (.slice (some ⟨B, 8 + 3 * n, none⟩) m m) i nx w0 ((W2.drew).setCell ⟨B, 8 + 2 * n + i, none⟩ (.int .i64 ((x.gl - x.fr) % 65536)))) := Lib.hid (by rw [HLay.out]; exact HSx3.out.setB _ _)
    have HSt5 := Lib.hid (HSx4.out.st.setI ((i : Int) + 1))
    generalize hW4 : World.drew W2 = W4 at *
    obtain ⟨b0, b1⟩ := HSx3.out.st.b0 (k := 8 + 2 * n + i) (by rw [hl3]; omega)
    obtain ⟨i0, i1⟩ := HSx4.out.st.i0
    clear hW4 HSx2 HSx3 HW hwr c0 c1 c2 c3 a0 a1 a2 a3 a4 x0 x1
    go_wp2_with fail
    go_end0
    refine ⟨rfl, ?_⟩
    rw [hw, Nat.add_zero]
    exact HSt5.out

/-- The box's second cell, and nothing old has turned. -/
abbrev R2 (T : Nat) (t1 : Value) (W0 W : World) : Prop := W.cell? ⟨T, 1, none⟩ = some t1 ∧ Hid (Lo W0 W)
theorem R2.of {T : Nat} {t0 t1 t2 t3 t4 : Value} {W0 W : World} (hT : W0.heap[T]? = some (.cells #[t0, t1, t2, t3, t4] 106 (0, 0))) (l : Lo W0 W) : R2 T t1 W0 W := by
  obtain ⟨⟨a0, a1, a2, a3, a4⟩, _⟩ := five_at (lo_block l hT)
  exact ⟨a1, Lib.hid l⟩

theorem two_new {T : Nat} {W0 : World} (h : W0.heap.size = T + 1) (a b : Int) :
    ArrAt (((W0.alloc (.cells #[.int .i64 a] 3)).alloc (.cells #[.int .i64 b] 3)).drew) (T + 1) 3 [a] ∧ ArrAt (((W0.alloc (.cells #[.int .i64 a] 3)).alloc (.cells #[.int .i64 b] 3)).drew) (T + 1 + 1) 3 [b] := by
  constructor
  · have h1 := new_block W0 (.cells #[.int .i64 a] 3)
    rw [h] at h1
    exact lo_block (Lo.drew ((Lo.refl _).alloc _)) h1
  · have h1 := new_block (W0.alloc (.cells #[.int .i64 a] 3)) (.cells #[.int .i64 b] 3)
    rw [show (W0.alloc (.cells #[.int .i64 a] 3)).heap.size = T + 1 + 1 by simp [h]] at h1
    exact lo_block (Lo.drew (Lo.refl _)) h1

set_option maxRecDepth 100000 in
set_option maxHeartbeats 1600000 in
theorem builder_any (B ty n m : Nat) (xs : List Int) (w0 w : World) (h0 : Lo w0 w) (hB : w0.heap.size ≤ B) (harr : ArrAt w B ty xs) :
    Calls Tryz.prog 95 #[.agg #[.slice (some ⟨B, 0, none⟩) 7 7, .slice (some ⟨B, 7, none⟩) n n, .slice (some ⟨B, 8 + n, none⟩) n n, .slice (some ⟨B, 8 + 2 * n, none⟩) n n, .slice (some ⟨B, 8 + 3 * n, none⟩) m m]] w fun e w' => ∃ T I X, e = .returned (.func (.func 127) #[] #[.pointer (some ⟨T, 0, none⟩), .pointer (some ⟨I, 0, none⟩), .pointer (some ⟨X, 0, none⟩)]) ∧
      St B ty xs T I X (.slice (some ⟨B, 0, none⟩) 7 7) (.slice (some ⟨B, 7, none⟩) n n) (.slice (some ⟨B, 8 + n, none⟩) n n) (.slice (some ⟨B, 8 + 2 * n, none⟩) n n) (.slice (some ⟨B, 8 + 3 * n, none⟩) m m) 0 n w0 w' := by
  have hlt := harr.lt
  have HA := Lib.hid harr
  have H0 := Lib.hid h0
  have HB := Lib.hid hB
  clear harr h0 hB
  go_enter Tryz.func95, Tryz.ntmps95
  go_wp2_with fail
  have HT := Lib.hid (new_block w (.cells #[.slice (some ⟨B, 0, none⟩) 7 7, .slice (some ⟨B, 7, none⟩) n n, .slice (some ⟨B, 8 + n, none⟩) n n, .slice (some ⟨B, 8 + 2 * n, none⟩) n n, .slice (some ⟨B, 8 + 3 * n, none⟩) m m] 106))
  have HL := Lib.hid ((Lo.refl w).alloc (.cells #[.slice (some ⟨B, 0, none⟩) 7 7, .slice (some ⟨B, 7, none⟩) n n, .slice (some ⟨B, 8 + n, none⟩) n n, .slice (some ⟨B, 8 + 2 * n, none⟩) n n, .slice (some ⟨B, 8 + 3 * n, none⟩) m m] 106))
  have hsz : (w.alloc (.cells #[.slice (some ⟨B, 0, none⟩) 7 7, .slice (some ⟨B, 7, none⟩) n n, .slice (some ⟨B, 8 + n, none⟩) n n, .slice (some ⟨B, 8 + 2 * n, none⟩) n n, .slice (some ⟨B, 8 + 3 * n, none⟩) m m] 106)).heap.size = w.heap.size + 1 := by simp
  generalize World.alloc w _ = W0 at *
  generalize hTT : w.heap.size = T at *
  have HS0 := Lib.hid (R2.of HT.out (Lo.drew (Lo.refl _)))
  go_region_held3 (fun W => R2 T (.slice (some ⟨B, 7, none⟩) n n) W0 W) (first | assumption | exact HS0.out | exact R2.of HT.out (by (repeat (first | exact Lo.refl _ | refine Lo.alloc ?_ _ | refine Lo.drew ?_ | refine Lo.set ?_ (by simp) _))))
    (fail)
  · obtain ⟨hI, hX⟩ := two_new hsz 0 (n : Int)
    have HI := Lib.hid hI
    have HX := Lib.hid hX
    have HLw : Hid (Lo w (((W0.alloc (.cells #[.int .i64 0] 3)).alloc (.cells #[.int .i64 (n : Int)] 3)).drew)) := Lib.hid ((((HL.out).alloc _).alloc _).drew)
    have HTw : Hid ((((W0.alloc (.cells #[.int .i64 0] 3)).alloc (.cells #[.int .i64 (n : Int)] 3)).drew).heap[T]? = _) := Lib.hid (lo_block (((Lo.refl W0).alloc _).alloc _).drew HT.out)
    clear hI hX HS0 HT HL
    generalize World.drew _ = W5 at *
    have hw0 := H0.out.size
    have hmf : ∀ (fn : Fn) (first cap : Array Value) (w : World), (Instr.makeFunc fn first cap).run Tryz.prog w = .ok (.func fn first cap) w := fun _ _ _ _ => rfl
    go_wp2_with fail
    go_ret
    exact ⟨T, T + 1, T + 1 + 1, rfl, ⟨HA.out.lo HLw.out, HTw.out, HI.out, HX.out, H0.out.trans HLw.out, HB.out, by omega, by omega, by omega, by omega, by omega, by omega, by omega, by omega⟩⟩
  · obtain ⟨hX, hI⟩ := two_new hsz (n : Int) 0
    have HI := Lib.hid hI
    have HX := Lib.hid hX
    have HLw : Hid (Lo w (((W0.alloc (.cells #[.int .i64 (n : Int)] 3)).alloc (.cells #[.int .i64 0] 3)).drew)) := Lib.hid ((((HL.out).alloc _).alloc _).drew)
    have HTw : Hid ((((W0.alloc (.cells #[.int .i64 (n : Int)] 3)).alloc (.cells #[.int .i64 0] 3)).drew).heap[T]? = _) := Lib.hid (lo_block (((Lo.refl W0).alloc _).alloc _).drew HT.out)
    clear hI hX HS0 HT HL
    generalize World.drew _ = W5 at *
    have hw0 := H0.out.size
    have hmf : ∀ (fn : Fn) (first cap : Array Value) (w : World), (Instr.makeFunc fn first cap).run Tryz.prog w = .ok (.func fn first cap) w := fun _ _ _ _ => rfl
    go_wp2_with fail
    go_ret
    exact ⟨T, T + 1 + 1, T + 1, rfl, ⟨HA.out.lo HLw.out, HTw.out, HI.out, HX.out, H0.out.trans HLw.out, HB.out, by omega, by omega, by omega, by omega, by omega, by omega, by omega, by omega⟩⟩
end Go.Proofs.YtppihpjcdieeoaaGreatDoor
