/-
  Contracts of glyf.repeated and glyf.extent: so many times a size; the extent of an outline's bytes. No conditions beyond those stated.
-/
import Derived.Test.YtkfljalcnjdliaaGlBase
import Derived.Test.YtkfljalcnjdliaaGlRepeat
import Derived.Test.YtkfljalcnjdliaaBnGet2
namespace Go.Proofs.Ytkfljalcnjdliaa
open Go.RowKit

theorem fill_row {z : Int} {n G : Nat} {w : World} (h : FillAt z n n G w) (hn : n ≤ 1000000) : Row w (.slice (some ⟨G, 0, none⟩) n n) (List.replicate n z) := by
  have hlt : G < w.heap.size := by
    rcases Nat.lt_or_ge G w.heap.size with hlt | hge
    · exact hlt
    · unfold FillAt at h; rw [Array.getElem?_eq_none hge] at h; cases h
  refine .inr ⟨G, 0, n, by rw [List.length_replicate], by rw [List.length_replicate]; omega, by rw [List.length_replicate]; omega, hlt, fun i hi => ?_⟩
  rw [List.length_replicate] at hi
  rw [Nat.zero_add]
  refine block_cell h ?_
  rw [List.getElem?_toArray, fill_at z hi]
  simp [List.getD, hi]
/-- So many times the same number, told. -/
def Many (z : Int) (n : Nat) (w : World) (e : Ending) (w' : World) : Prop := ∃ p c, e = .returned (.slice p n c) ∧ Row w' (.slice p n c) (List.replicate n z) ∧ Lo w w'

set_option maxHeartbeats 400000 in
theorem repeated_any (z : Int) (n : Nat) (w : World) (hn : n ≤ 1000000) : Calls Try.prog 19 #[.int .i64 z, .int .i64 (n : Int)] w (Many z n w) := by
  have HR := Lib.hid (fun (v : Value) (W : World) (h : Row W v [z]) => repeat_any z n v W h hn)
  unfold Many
  go_enter Try.func19, Try.ntmps19
  go_wp2_with fail
  refine (HR.out _ _ (row1 w _ rfl z)).mono ?_
  rintro e w1 ⟨G, rfl, hF, lo⟩
  have HF := Lib.hid hF
  have HL := Lib.hid (((Lo.refl w).alloc _).trans lo)
  clear hF lo HR
  go_wp2_with fail
  go_ret
  exact ⟨_, _, rfl, fill_row HF.out hn, HL.out⟩

theorem five_at {T ty : Nat} {a b c d e : Value} {w : World} (h : w.heap[T]? = some (.cells #[a, b, c, d, e] ty (0, 0))) :
    (w.cell? ⟨T, 0, none⟩ = some a ∧ w.cell? ⟨T, 1, none⟩ = some b ∧ w.cell? ⟨T, 2, none⟩ = some c ∧ w.cell? ⟨T, 3, none⟩ = some d ∧ w.cell? ⟨T, 4, none⟩ = some e) ∧
    (w.frozen? ⟨T, 0, none⟩ = false ∧ w.frozen? ⟨T, 1, none⟩ = false ∧ w.frozen? ⟨T, 2, none⟩ = false ∧ w.frozen? ⟨T, 3, none⟩ = false ∧ w.frozen? ⟨T, 4, none⟩ = false) :=
  ⟨⟨block_cell h rfl, block_cell h rfl, block_cell h rfl, block_cell h rfl, block_cell h rfl⟩, block_frozen h, block_frozen h, block_frozen h, block_frozen h, block_frozen h⟩
theorem Lo.set5 {a b : World} (h : Lo a b) {T : Nat} (hT : a.heap.size ≤ T) (u0 u1 u2 u3 u4 : Value) : Lo a (((((b.setCell ⟨T, 0, none⟩ u0).setCell ⟨T, 1, none⟩ u1).setCell ⟨T, 2, none⟩ u2).setCell ⟨T, 3, none⟩ u3).setCell ⟨T, 4, none⟩ u4) :=
  ((((h.set hT _).set hT _).set hT _).set hT _).set hT _
theorem Row.four {w : World} {p : Option Addr} {c : Nat} {x0 x1 x2 x3 : Int} (h : Row w (.slice p 4 c) [x0, x1, x2, x3]) :
    ∃ b off, p = some ⟨b, off, none⟩ ∧ w.cell? ⟨b, off, none⟩ = some (.int .i64 x0) ∧ w.cell? ⟨b, off + 1, none⟩ = some (.int .i64 x1) ∧ w.cell? ⟨b, off + 2, none⟩ = some (.int .i64 x2) ∧ w.cell? ⟨b, off + 3, none⟩ = some (.int .i64 x3) := by
  obtain ⟨b, off, rfl, h0⟩ := h.at_ (k := 0) (by omega)
  obtain ⟨b1, off1, e1, h1⟩ := h.at_ (k := 1) (by omega)
  obtain ⟨b2, off2, e2, h2⟩ := h.at_ (k := 2) (by omega)
  obtain ⟨b3, off3, e3, h3⟩ := h.at_ (k := 3) (by omega)
  simp only [Option.some.injEq, Addr.mk.injEq, and_true] at e1 e2 e3
  obtain ⟨rfl, rfl⟩ := e1
  obtain ⟨rfl, rfl⟩ := e2
  obtain ⟨rfl, rfl⟩ := e3
  exact ⟨b, off, rfl, h0, h1, h2, h3⟩

/-- An extent and an error, told. -/
def extErr (a : Gl.Ext × Int) : Ending := .returned (.tuple #[aggE a.1, .int .i64 a.2])

set_option maxRecDepth 100000 in
set_option maxHeartbeats 800000 in
theorem extent_more (s : List UInt8) (w : World) (h : s.length < 10) :
    Calls Try.prog 39 #[.string ⟨s.toArray⟩] w fun e w' => e = extErr (Gl.none, 4) ∧ Lo w w' := by
  have HG := Lib.hid (fun (W : World) (v : Value) (hr : Row W v [-2, -2, -2, -2]) => get_any s 2 v [-2, -2, -2, -2] W hr (by simp) (by omega) (by omega))
  unfold GotRow at HG
  rw [Gl.ext_two, if_pos h] at HG
  go_enter Try.func39, Try.ntmps39
  go_wp2_with fail
  refine (HG.out _ _ (row4 (w.alloc (.cells #[.bool false, .int .i64 0, .int .i64 0, .int .i64 0, .int .i64 0] 30)) _ (by simp) (-2) (-2) (-2) (-2))).mono ?_
  rintro e w1 ⟨p, c, rfl, hrow, hlo⟩
  have HL := Lib.hid ((((Lo.refl w).alloc _).alloc _).trans hlo)
  obtain ⟨⟨hd0, hd1, hd2, hd3, hd4⟩, hf0, hf1, hf2, hf3, hf4⟩ := five_at (T := w.heap.size) (lo_block (((Lo.refl _).alloc _).trans hlo) (new_block w _))
  clear hlo HG hrow
  go_wp2_with fail
  refine bodyPost_ret (v := .tuple #[aggE Gl.none, .int .i64 4]) ?_ rfl ⟨rfl, ?_⟩
  · simp [results, Try.results39, go_sem, aggE, Gl.none, hd0, hd1, hd2, hd3, hd4]
  · exact Lo.set5 HL.out (Nat.le_refl _) _ _ _ _ _

set_option maxRecDepth 100000 in
set_option maxHeartbeats 1600000 in
theorem extent_ten (s : List UInt8) (w : World) (hl : s.length ≤ 9223372036854775807) (h : 10 ≤ s.length) :
    Calls Try.prog 39 #[.string ⟨s.toArray⟩] w fun e w' => e = extErr (Gl.ext s) ∧ Lo w w' := by
  have HG := Lib.hid (fun (W : World) (v : Value) (hr : Row W v [-2, -2, -2, -2]) => get_any s 2 v [-2, -2, -2, -2] W hr (by simp) hl (by omega))
  unfold GotRow at HG
  rw [Gl.ext_two, if_neg (by omega)] at HG
  have HI := Lib.hid (fun W => gis_any (Gl.read s) W)
  have HE1 := Lib.hid (fun hx => Gl.ext_form h hx)
  have HE2 := Lib.hid (fun hx => Gl.ext_right h hx)
  unfold Gl.read at HI HE1 HE2
  generalize He.fld s 2 (-2) = x0 at *
  generalize He.fld s 4 (-2) = x1 at *
  generalize He.fld s 6 (-2) = x2 at *
  generalize He.fld s 8 (-2) = x3 at *
  generalize Gl.ext s = y at *
  unfold aggE at HI
  simp only [List.length_cons, List.length_nil, Nat.zero_add] at HG
  dsimp only at HI
  go_enter Try.func39, Try.ntmps39
  go_wp2_with fail
  refine (HG.out _ _ (row4 (w.alloc (.cells #[.bool false, .int .i64 0, .int .i64 0, .int .i64 0, .int .i64 0] 30)) _ (by simp) (-2) (-2) (-2) (-2))).mono ?_
  rintro e w1 ⟨p, c, rfl, hrow, hlo⟩
  have HL := Lib.hid ((((Lo.refl w).alloc _).alloc _).trans hlo)
  have HB := Lib.hid (lo_block (((Lo.refl _).alloc _).trans hlo) (new_block w _))
  obtain ⟨b, off, rfl, r0, r1, r2, r3⟩ := Row.four hrow
  clear hlo HG hrow
  have hb : b < w1.heap.size := World.block_lt_of_cell? w1 _ r0
  have a0 : ∀ o, (w1.alloc o).cell? ⟨b, off, none⟩ = some (.int .i64 x0) := fun o => (((Lo.refl w1).alloc o).cell hb).trans r0
  have a1 : ∀ o, (w1.alloc o).cell? ⟨b, off + 1, none⟩ = some (.int .i64 x1) := fun o => (((Lo.refl w1).alloc o).cell hb).trans r1
  have a2 : ∀ o, (w1.alloc o).cell? ⟨b, off + 2, none⟩ = some (.int .i64 x2) := fun o => (((Lo.refl w1).alloc o).cell hb).trans r2
  have a3 : ∀ o, (w1.alloc o).cell? ⟨b, off + 3, none⟩ = some (.int .i64 x3) := fun o => (((Lo.refl w1).alloc o).cell hb).trans r3
  clear hb
  go_wp2_with fail
  go_region
  all_goals
    clear a0 a1 a2 a3 r0 r1 r2 r3
    generalize hW : World.drew _ = w8
    have lo : Lo w1 w8 := by rw [← hW]; exact ((Lo.refl w1).alloc _).drew
    have HH : Hid (w8.heap[w1.heap.size]? = some (.cells #[.bool true, .int .i64 x0, .int .i64 x1, .int .i64 x2, .int .i64 x3] 30 (0, 0))) := Lib.hid (by rw [← hW]; exact new_block w1 _)
    have HL := Lib.hid (HL.out.trans lo)
    have HB := Lib.hid (lo_block lo HB.out)
    clear lo hW
    obtain ⟨⟨s0, s1, s2, s3, s4⟩, _⟩ := five_at HH.out
    go_wp2_with fail
    refine (HI.out _).mono ?_
    rintro e w9 ⟨rfl, lo⟩
    have HL := Lib.hid (HL.out.trans lo)
    have HB := Lib.hid (lo_block lo HB.out)
    have HH := Lib.hid (lo_block lo HH.out)
    clear lo HI s0 s1 s2 s3 s4
    obtain ⟨⟨r0, r1, r2, r3, r4⟩, q0, q1, q2, q3, q4⟩ := five_at HB.out
    obtain ⟨⟨s0, s1, s2, s3, s4⟩, _⟩ := five_at HH.out
    cases hi : Gl.isExt ⟨true, x0, x1, x2, x3⟩ with
    | false =>
      have HE : Hid (y = (Gl.none, 5)) := Lib.hid (HE1.out hi)
      clear hi
      go_wp2_with fail
      refine bodyPost_ret (v := .tuple #[aggE Gl.none, .int .i64 5]) ?_ rfl ⟨by rw [HE.out]; rfl, ?_⟩
      · simp [results, Try.results39, go_sem, aggE, Gl.none, r0, r1, r2, r3, r4]
      · exact Lo.set5 HL.out (Nat.le_refl _) _ _ _ _ _
    | true =>
      have HE : Hid (y = (⟨true, x0, x1, x2, x3⟩, 0)) := Lib.hid (HE2.out hi)
      clear hi
      go_wp2_with fail
      refine bodyPost_ret (v := .tuple #[aggE ⟨true, x0, x1, x2, x3⟩, .int .i64 0]) ?_ rfl ⟨by rw [HE.out]; rfl, ?_⟩
      · simp [results, Try.results39, go_sem, aggE, r0, r1, r2, r3, r4]
      · exact Lo.set5 HL.out (Nat.le_refl _) _ _ _ _ _

theorem extent_any (s : List UInt8) (w : World) (hl : s.length ≤ 9223372036854775807) (h0 : s.length ≠ 0) :
    Calls Try.prog 39 #[.string ⟨s.toArray⟩] w fun e w' => e = extErr (Gl.ext s) ∧ Lo w w' := by
  rcases Nat.lt_or_ge s.length 10 with h | h
  · rw [Gl.ext_more h0 h]; exact extent_more s w h
  · exact extent_ten s w hl h
end Go.Proofs.Ytkfljalcnjdliaa
