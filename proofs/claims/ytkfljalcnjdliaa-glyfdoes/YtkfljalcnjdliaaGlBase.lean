/-
  Contracts of package glyf's small functions: rises, Is, offsetForm; extents in memory. No conditions beyond those stated.
-/
import Derived.Test.YtkfljalcnjdliaaGkCells2
import Derived.Test.YtkfljalcnjdliaaGlFacts
namespace Gl
/-- Both are numbers of an extent, the low one first. -/
def rise (a b : Int) : Bool := decide (-32768 ≤ a) && decide (a ≤ b) && decide (b ≤ 32767)
theorem isExt_rise (x0 y0 x1 y1 : Int) : isExt ⟨true, x0, y0, x1, y1⟩ = (rise x0 x1 && rise y0 y1) := by
  unfold isExt rise He.short
  rw [if_pos rfl, Bool.eq_iff_iff]
  simp only [Bool.and_eq_true, decide_eq_true_eq]
  omega
end Gl
namespace Go.Proofs.Ytkfljalcnjdliaa
open Go.RowKit

/-- An extent's cells. -/
def encE (x : Gl.Ext) : List Value := [.bool x.any, .int .i64 x.x0, .int .i64 x.y0, .int .i64 x.x1, .int .i64 x.y1]
def aggE (x : Gl.Ext) : Value := .agg #[.bool x.any, .int .i64 x.x0, .int .i64 x.y0, .int .i64 x.x1, .int .i64 x.y1]
theorem encE_len (x : Gl.Ext) : (encE x).length = 5 := rfl
theorem encE_one (x : Gl.Ext) : ∀ u ∈ encE x, u.oneCell' = true := by
  intro u hu
  simp only [encE, List.mem_cons, List.not_mem_nil, or_false] at hu
  rcases hu with rfl | rfl | rfl | rfl | rfl <;> rfl
abbrev ERow (w : World) (v : Value) (l : List Gl.Ext) : Prop := RowK encE 5 w v l
theorem ERow.at5 {w : World} {p : Option Addr} {n c : Nat} {l : List Gl.Ext} (h : ERow w (.slice p n c) l) {i : Nat} {x : Gl.Ext} (hx : l[i]? = some x) :
    ∃ b off, p = some ⟨b, off, none⟩ ∧ w.cell? ⟨b, off + i * 5, none⟩ = some (.bool x.any) ∧ w.cell? ⟨b, off + i * 5 + 1, none⟩ = some (.int .i64 x.x0) ∧ w.cell? ⟨b, off + i * 5 + 2, none⟩ = some (.int .i64 x.y0) ∧ w.cell? ⟨b, off + i * 5 + 3, none⟩ = some (.int .i64 x.x1) ∧ w.cell? ⟨b, off + i * 5 + 4, none⟩ = some (.int .i64 x.y1) := by
  obtain ⟨b, off, h1, h2⟩ := RowK.at_ h hx
  exact ⟨b, off, h1, h2 0 (by omega), h2 1 (by omega), h2 2 (by omega), h2 3 (by omega), h2 4 (by omega)⟩
theorem ext_info : (Try.prog.info? 30).map (fun i => (i.zero, i.size, i.bytes)) = some (some (.agg #[.bool false, .int .i64 0, .int .i64 0, .int .i64 0, .int .i64 0]), 5, 40) := by kernel_rfl
abbrev OwnE (w : World) (base : Nat) (v : Value) (l : List Gl.Ext) : Prop := OwnK encE 30 5 w base v l
/-- A slice of one extent that is laid anew. -/
theorem erow1 (w : World) (B : Nat) (hB : B = w.heap.size) (x : Gl.Ext) (ty : Nat) : ERow (w.alloc (.cells #[.bool x.any, .int .i64 x.x0, .int .i64 x.y0, .int .i64 x.x1, .int .i64 x.y1] ty)) (.slice (some ⟨B, 0, none⟩) 1 1) [x] :=
  hB ▸ .inr ⟨w.heap.size, 0, 1, rfl, by simp, by simp, by simp, fun i z hz j hj => by
    have hi : i < 1 := (List.getElem?_eq_some_iff.1 hz).1
    obtain rfl : i = 0 := by omega
    simp at hz
    subst hz
    obtain rfl | rfl | rfl | rfl | rfl : j = 0 ∨ j = 1 ∨ j = 2 ∨ j = 3 ∨ j = 4 := by omega
    all_goals simp [go_sem, encE]⟩
theorem erow2 (w : World) (x y : Gl.Ext) (ty : Nat) : ERow (w.alloc (.cells #[.bool x.any, .int .i64 x.x0, .int .i64 x.y0, .int .i64 x.x1, .int .i64 x.y1, .bool y.any, .int .i64 y.x0, .int .i64 y.y0, .int .i64 y.x1, .int .i64 y.y1] ty)) (.slice (some ⟨w.heap.size, 0, none⟩) 2 2) [x, y] :=
  .inr ⟨w.heap.size, 0, 2, rfl, by simp, by simp, by simp, fun i z hz j hj => by
    have hi : i < 2 := (List.getElem?_eq_some_iff.1 hz).1
    obtain rfl | rfl : i = 0 ∨ i = 1 := by omega
    all_goals
      simp at hz
      subst hz
      obtain rfl | rfl | rfl | rfl | rfl : j = 0 ∨ j = 1 ∨ j = 2 ∨ j = 3 ∨ j = 4 := by omega
      all_goals simp [go_sem, encE]⟩

set_option maxHeartbeats 400000 in
theorem rises_any (a b : Int) (w : World) : Calls Try.prog 28 #[.int .i64 a, .int .i64 b] w fun e w' => e = .returned (.bool (Gl.rise a b)) ∧ w = w' := by
  unfold Gl.rise
  by_cases h1 : -32768 ≤ a
  · by_cases h2 : a ≤ b
    · go_enter Try.func28, Try.ntmps28
      go_wp2_with fail
      go_ret
      exact ⟨ret_bool (by simp [h1, h2]), rfl⟩
    · go_enter Try.func28, Try.ntmps28
      go_wp2_with fail
      go_ret
      exact ⟨ret_bool (by simp; omega), rfl⟩
  · go_enter Try.func28, Try.ntmps28
    go_wp2_with fail
    go_ret
    exact ⟨ret_bool (by simp; omega), rfl⟩

set_option maxHeartbeats 800000 in
theorem gis_any (x : Gl.Ext) (w : World) : Calls Try.prog 11 #[aggE x] w fun e w' => e = .returned (.bool (Gl.isExt x)) ∧ Lo w w' := by
  obtain ⟨a, x0, y0, x1, y1⟩ := x
  unfold aggE
  cases a with
  | false =>
    have HE := Lib.hid (show Gl.isExt ⟨false, x0, y0, x1, y1⟩ = (decide (x0 = 0) && decide (y0 = 0) && decide (x1 = 0) && decide (y1 = 0)) by unfold Gl.isExt; rw [if_neg (by simp)])
    generalize Gl.isExt ⟨false, x0, y0, x1, y1⟩ = y at *
    dsimp only
    go_enter Try.func11, Try.ntmps11
    go_wp2_with fail
    all_goals
      go_ret
      refine ⟨ret_bool ?_, (Lo.refl w).alloc _⟩
      rw [HE.out]
      first | rfl | (simp; done) | (simp; intros; omega) | (simp; omega)
  | true =>
    have H1 := Lib.hid (fun W => rises_any x0 x1 W)
    have H2 := Lib.hid (fun W => rises_any y0 y1 W)
    rw [Gl.isExt_rise]
    generalize Gl.rise x0 x1 = r1 at *
    generalize Gl.rise y0 y1 = r2 at *
    dsimp only
    cases r1 with
    | false =>
      go_enter Try.func11, Try.ntmps11
      go_wp2_with fail
      refine (H1.out _).mono ?_
      rintro e w1 ⟨rfl, rfl⟩
      go_wp2_with fail
      go_ret
      exact ⟨rfl, (Lo.refl w).alloc _⟩
    | true =>
      go_enter Try.func11, Try.ntmps11
      go_wp2_with fail
      refine (H1.out _).mono ?_
      rintro e w1 ⟨rfl, rfl⟩
      go_wp2_with fail
      refine (H2.out _).mono ?_
      rintro e w1 ⟨rfl, rfl⟩
      go_wp2_with fail
      go_ret
      exact ⟨rfl, (Lo.refl w).alloc _⟩

set_option maxHeartbeats 400000 in
theorem offsetForm_any (long : Bool) (w : World) : Calls Try.prog 17 #[.bool long] w fun e w' => e = .returned (.tuple #[.int .i64 ((Gl.wid long : Nat) : Int), .int .i64 (Gl.unit long)]) ∧ w = w' := by
  cases long with
  | true =>
    go_enter Try.func17, Try.ntmps17
    go_wp2_with fail
    go_ret2
    exact ⟨rfl, rfl⟩
  | false =>
    go_enter Try.func17, Try.ntmps17
    go_wp2_with fail
    go_ret2
    exact ⟨rfl, rfl⟩
end Go.Proofs.Ytkfljalcnjdliaa
