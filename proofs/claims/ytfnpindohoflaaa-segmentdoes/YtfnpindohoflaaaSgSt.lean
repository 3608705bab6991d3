/-
  What lies in memory while segments are built: the array, the table's box, the two counters. No conditions beyond those stated.
-/
import Derived.Test.YtfnpindohoflaaaSgCut
import Derived.Test.YtfnpindohoflaaaGkCopy
namespace Go.Proofs.Ytfnpindohoflaaa
open Go.RowKit

structure St (B ty : Nat) (xs : List Int) (T I X : Nat) (t0 t1 t2 t3 t4 : Value) (i nx : Int) (w0 W : World) : Prop where
  arr : ArrAt W B ty xs
  tab : W.heap[T]? = some (.cells #[t0, t1, t2, t3, t4] 44 (0, 0))
  ii : ArrAt W I 3 [i]
  nn : ArrAt W X 3 [nx]
  lo : Lo w0 W
  hB : w0.heap.size ≤ B
  hI : w0.heap.size ≤ I
  hX : w0.heap.size ≤ X
  d1 : T ≠ B
  d2 : I ≠ B
  d3 : X ≠ B
  d4 : T ≠ I
  d5 : T ≠ X
  d6 : I ≠ X
variable {B ty T I X : Nat} {xs : List Int} {t0 t1 t2 t3 t4 : Value} {i nx : Int} {w0 W W' : World}
theorem St.to (h : St B ty xs T I X t0 t1 t2 t3 t4 i nx w0 W) (l : Lo W W') : St B ty xs T I X t0 t1 t2 t3 t4 i nx w0 W' :=
  { h with arr := h.arr.lo l, tab := lo_block l h.tab, ii := h.ii.lo l, nn := h.nn.lo l, lo := h.lo.trans l }
theorem St.setB (h : St B ty xs T I X t0 t1 t2 t3 t4 i nx w0 W) (k : Nat) (z : Int) : St B ty (xs.set k z) T I X t0 t1 t2 t3 t4 i nx w0 (W.setCell ⟨B, k, none⟩ (.int .i64 z)) :=
  { h with
    arr := h.arr.set k z
    tab := by rw [set_other h.d1]; exact h.tab
    ii := by unfold ArrAt; rw [set_other h.d2]; exact h.ii
    nn := by unfold ArrAt; rw [set_other h.d3]; exact h.nn
    lo := h.lo.set h.hB _ }
theorem St.setI (h : St B ty xs T I X t0 t1 t2 t3 t4 i nx w0 W) (z : Int) : St B ty xs T I X t0 t1 t2 t3 t4 z nx w0 (W.setCell ⟨I, 0, none⟩ (.int .i64 z)) :=
  { h with
    arr := by unfold ArrAt; rw [set_other (Ne.symm h.d2)]; exact h.arr
    tab := by rw [set_other h.d4]; exact h.tab
    ii := h.ii.set 0 z
    nn := by unfold ArrAt; rw [set_other (Ne.symm h.d6)]; exact h.nn
    lo := h.lo.set h.hI _ }
theorem St.setX (h : St B ty xs T I X t0 t1 t2 t3 t4 i nx w0 W) (z : Int) : St B ty xs T I X t0 t1 t2 t3 t4 i z w0 (W.setCell ⟨X, 0, none⟩ (.int .i64 z)) :=
  { h with
    arr := by unfold ArrAt; rw [set_other (Ne.symm h.d3)]; exact h.arr
    tab := by rw [set_other h.d5]; exact h.tab
    ii := by unfold ArrAt; rw [set_other h.d6]; exact h.ii
    nn := h.nn.set 0 z
    lo := h.lo.set h.hX _ }
/-- Another array, all else as it was. -/
theorem St.other (h : St B ty xs T I X t0 t1 t2 t3 t4 i nx w0 W) {ys : List Int} (h1 : ArrAt W' B ty ys) (h2 : ∀ w0, Lo w0 W → w0.heap.size ≤ B → Lo w0 W') (h3 : ∀ T, T ≠ B → W'.heap[T]? = W.heap[T]?) : St B ty ys T I X t0 t1 t2 t3 t4 i nx w0 W' :=
  { h with
    arr := h1
    tab := by rw [h3 _ h.d1]; exact h.tab
    ii := by unfold ArrAt; rw [h3 _ h.d2]; exact h.ii
    nn := by unfold ArrAt; rw [h3 _ h.d3]; exact h.nn
    lo := h2 _ h.lo h.hB }
theorem St.i0 (h : St B ty xs T I X t0 t1 t2 t3 t4 i nx w0 W) : W.cell? ⟨I, 0, none⟩ = some (.int .i64 i) ∧ W.frozen? ⟨I, 0, none⟩ = false := ⟨h.ii.cell (i := 0) (by simp), h.ii.frozen 0⟩
theorem St.x0 (h : St B ty xs T I X t0 t1 t2 t3 t4 i nx w0 W) : W.cell? ⟨X, 0, none⟩ = some (.int .i64 nx) ∧ W.frozen? ⟨X, 0, none⟩ = false := ⟨h.nn.cell (i := 0) (by simp), h.nn.frozen 0⟩
theorem St.b0 (h : St B ty xs T I X t0 t1 t2 t3 t4 i nx w0 W) {k : Nat} (hk : k < xs.length) : W.cell? ⟨B, k, none⟩ = some (.int .i64 (xs.getD k 0)) ∧ W.frozen? ⟨B, k, none⟩ = false := ⟨h.arr.cell hk, h.arr.frozen k⟩

/-- And a span in a box of its own. -/
structure Sx (x : Ch.Span) (S B ty : Nat) (xs : List Int) (T I X : Nat) (t0 t1 t2 t3 t4 : Value) (i nx : Int) (w0 W : World) : Prop where
  st : St B ty xs T I X t0 t1 t2 t3 t4 i nx w0 W
  sx : W.heap[S]? = some (.cells #[.int .i64 x.fr, .int .i64 x.to, .int .i64 x.gl, .int .i64 x.st] 41 (0, 0))
  e1 : S ≠ B
  e2 : S ≠ I
  e3 : S ≠ X
variable {x : Ch.Span} {S : Nat}
theorem Sx.to (h : Sx x S B ty xs T I X t0 t1 t2 t3 t4 i nx w0 W) (l : Lo W W') : Sx x S B ty xs T I X t0 t1 t2 t3 t4 i nx w0 W' := { h with st := h.st.to l, sx := lo_block l h.sx }
theorem Sx.setB (h : Sx x S B ty xs T I X t0 t1 t2 t3 t4 i nx w0 W) (k : Nat) (z : Int) : Sx x S B ty (xs.set k z) T I X t0 t1 t2 t3 t4 i nx w0 (W.setCell ⟨B, k, none⟩ (.int .i64 z)) :=
  { h with st := h.st.setB k z, sx := by rw [set_other h.e1]; exact h.sx }
theorem Sx.setX (h : Sx x S B ty xs T I X t0 t1 t2 t3 t4 i nx w0 W) (z : Int) : Sx x S B ty xs T I X t0 t1 t2 t3 t4 i z w0 (W.setCell ⟨X, 0, none⟩ (.int .i64 z)) :=
  { h with st := h.st.setX z, sx := by rw [set_other h.e3]; exact h.sx }
theorem Sx.other (h : Sx x S B ty xs T I X t0 t1 t2 t3 t4 i nx w0 W) {ys : List Int} (h1 : ArrAt W' B ty ys) (h2 : ∀ w0, Lo w0 W → w0.heap.size ≤ B → Lo w0 W') (h3 : ∀ T, T ≠ B → W'.heap[T]? = W.heap[T]?) : Sx x S B ty ys T I X t0 t1 t2 t3 t4 i nx w0 W' :=
  { h with st := h.st.other h1 h2 h3, sx := by rw [h3 _ h.e1]; exact h.sx }

/-- The number at a cell. -/
def valAt (B k : Nat) (W : World) : Int := match W.cell? ⟨B, k, none⟩ with
  | some (.int _ z) => z
  | _ => 0
theorem valAt_is {k : Nat} {ys : List Int} (h : ArrAt W B ty ys) (hk : k < ys.length) : W.cell? ⟨B, k, none⟩ = some (.int .i64 (valAt B k W)) := by
  have := h.cell hk
  unfold valAt
  rw [this]
/-- The cells that the first region loads, and that two may be written. -/
abbrev R1 (x : Ch.Span) (S B ty : Nat) (xs : List Int) (T I X : Nat) (t0 t1 t2 t3 t4 : Value) (i nx : Int) (w0 : World) (k1 k2 : Nat) (W : World) : Prop :=
  W.cell? ⟨T, 1, none⟩ = some t1 ∧ W.cell? ⟨T, 2, none⟩ = some t2 ∧ W.cell? ⟨I, 0, none⟩ = some (.int .i64 i) ∧ W.cell? ⟨S, 0, none⟩ = some (.int .i64 x.fr) ∧ W.cell? ⟨S, 1, none⟩ = some (.int .i64 x.to) ∧
    W.frozen? ⟨B, k1, none⟩ = false ∧ W.frozen? ⟨B, k2, none⟩ = false ∧ W.cell? ⟨B, k1, none⟩ = some (.int .i64 (valAt B k1 W)) ∧ W.cell? ⟨B, k2, none⟩ = some (.int .i64 (valAt B k2 W)) ∧ Hid (∃ ys, ys.length = xs.length ∧ Sx x S B ty ys T I X t0 t1 t2 t3 t4 i nx w0 W)
theorem R1.of {k1 k2 : Nat} {ys : List Int} (h : Sx x S B ty ys T I X t0 t1 t2 t3 t4 i nx w0 W) (hl : ys.length = xs.length) (h1 : k1 < xs.length) (h2 : k2 < xs.length) : R1 x S B ty xs T I X t0 t1 t2 t3 t4 i nx w0 k1 k2 W := by
  obtain ⟨⟨a0, a1, a2, a3, a4⟩, _⟩ := five_at h.st.tab
  obtain ⟨⟨c0, c1, c2, c3⟩, _⟩ := four_at h.sx
  exact ⟨a1, a2, h.st.i0.1, c0, c1, h.st.arr.frozen _, h.st.arr.frozen _, valAt_is h.st.arr (by omega), valAt_is h.st.arr (by omega), Lib.hid ⟨ys, hl, h⟩⟩
theorem R1.setB {k1 k2 : Nat} (h : R1 x S B ty xs T I X t0 t1 t2 t3 t4 i nx w0 k1 k2 W) (h1 : k1 < xs.length) (h2 : k2 < xs.length) (k : Nat) (z : Int) : R1 x S B ty xs T I X t0 t1 t2 t3 t4 i nx w0 k1 k2 (W.setCell ⟨B, k, none⟩ (.int .i64 z)) := by
  obtain ⟨ys, hl, hh⟩ := h.2.2.2.2.2.2.2.2.2.out
  exact R1.of (hh.setB k z) (by simpa using hl) h1 h2
theorem R1.drew {k1 k2 : Nat} (h : R1 x S B ty xs T I X t0 t1 t2 t3 t4 i nx w0 k1 k2 W) (h1 : k1 < xs.length) (h2 : k2 < xs.length) : R1 x S B ty xs T I X t0 t1 t2 t3 t4 i nx w0 k1 k2 W.drew := by
  obtain ⟨ys, hl, hh⟩ := h.2.2.2.2.2.2.2.2.2.out
  exact R1.of (hh.to (Lo.drew (Lo.refl _))) hl h1 h2
/-- The cells that the region of the listed glyphs loads. -/
abbrev R5 (x : Ch.Span) (S B ty : Nat) (T I X : Nat) (t0 t1 t2 t3 t4 : Value) (i nx : Int) (w0 W : World) : Prop :=
  W.cell? ⟨T, 4, none⟩ = some t4 ∧ W.cell? ⟨X, 0, none⟩ = some (.int .i64 nx) ∧ W.cell? ⟨S, 2, none⟩ = some (.int .i64 x.gl) ∧ Hid (∃ ys, Sx x S B ty ys T I X t0 t1 t2 t3 t4 i nx w0 W)
theorem R5.of (h : Sx x S B ty xs T I X t0 t1 t2 t3 t4 i nx w0 W) : R5 x S B ty T I X t0 t1 t2 t3 t4 i nx w0 W := by
  obtain ⟨⟨a0, a1, a2, a3, a4⟩, _⟩ := five_at h.st.tab
  obtain ⟨⟨c0, c1, c2, c3⟩, _⟩ := four_at h.sx
  exact ⟨a4, h.st.x0.1, c2, Lib.hid ⟨xs, h⟩⟩
end Go.Proofs.Ytfnpindohoflaaa
