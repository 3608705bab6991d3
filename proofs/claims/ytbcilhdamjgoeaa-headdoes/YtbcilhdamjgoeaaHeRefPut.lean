/-
  The contract of the document's answer for layer 5, Put. No conditions beyond those stated.
-/
import Derived.Test.YtbcilhdamjgoeaaHeRef
import Derived.Deep.RegionHeld3
namespace Go.Proofs.Ytbcilhdamjgoeaa
open Go.RowKit

/-- A head's cells stand, further on. -/
abbrev HeadAt (T : Nat) (x0 x1 x2 x3 x4 : Int) (x5 : Bool) (w0 W : World) : Prop :=
  W.cell? ⟨T, 0, none⟩ = some (.int .i64 x0) ∧ W.cell? ⟨T, 1, none⟩ = some (.int .i64 x1) ∧ W.cell? ⟨T, 2, none⟩ = some (.int .i64 x2) ∧ W.cell? ⟨T, 3, none⟩ = some (.int .i64 x3) ∧ W.cell? ⟨T, 4, none⟩ = some (.int .i64 x4) ∧ W.cell? ⟨T, 5, none⟩ = some (.bool x5) ∧ Hid (Lo w0 W)
theorem HeadAt.of {T : Nat} {x0 x1 x2 x3 x4 : Int} {x5 : Bool} {w0 W : World} (h : w0.heap[T]? = some (.cells #[.int .i64 x0, .int .i64 x1, .int .i64 x2, .int .i64 x3, .int .i64 x4, .bool x5] 46 (0, 0))) (lo : Lo w0 W) : HeadAt T x0 x1 x2 x3 x4 x5 w0 W := by
  obtain ⟨⟨r0, r1, r2, r3, r4, r5⟩, _⟩ := six_at (lo_block lo h)
  exact ⟨r0, r1, r2, r3, r4, r5, Lib.hid lo⟩

set_option maxRecDepth 100000 in
set_option maxHeartbeats 800000 in
theorem rput5_no (h : He.Head) (w : World) (hh : He.isHead h = false) : Calls Try.prog 23 #[aggH h] w fun e w' => e = threeErr ([], [], [], 1) ∧ Lo w w' := by
  have HI := Lib.hid (fun W => ris5_any h W)
  rw [hh] at HI
  clear hh
  unfold aggH at *
  go_enter Try.func23, Try.ntmps23
  go_wp2_with fail
  refine (HI.out _).mono ?_
  rintro e w1 ⟨rfl, lo⟩
  have HL := Lib.hid (((Lo.refl w).alloc _).trans lo)
  clear lo
  go_wp2_with fail
  refine bodyPost_ret (v := .tuple #[.string ⟨#[]⟩, .string ⟨#[]⟩, .string ⟨#[]⟩, .int .i64 1]) ?_ rfl ⟨rfl, HL.out⟩
  simp [results, Try.results23, go_sem]
theorem add_run (a b c : List UInt8) (hc : a ++ b = c) (hl : a.length + b.length ≤ 1000) (W : World) : (Op.stringOp .add ⟨a.toArray⟩ ⟨b.toArray⟩).run Try.prog W = .ok (.string ⟨c.toArray⟩) W := by
  rw [run_string_add_sum W _ _ (by show a.length + b.length ≤ _; omega), Gk.cat_list, hc]
theorem rnoughtsI (k : Int) (W : World) (h0 : 0 ≤ k) (h1 : k ≤ 1000) : Calls Try.prog 57 #[.int .i64 k] W fun e w' => e = .returned (.string ⟨(He.nts k.toNat).toArray⟩) ∧ W = w' := by
  obtain ⟨n, rfl⟩ := Int.eq_ofNat_of_zero_le h0
  exact rnoughts_any n W (by omega)
theorem rbytesI (x z : Int) (W : World) (h : z = 4 ∧ x = 1594834165 ∨ z = 2 ∧ -32768 ≤ x ∧ x ≤ 65535) : Calls Try.prog 58 #[.int .i64 x, .int .i64 z] W fun e w' => e = .returned (.string ⟨(Bn.bytes x z.toNat).toArray⟩) ∧ Lo W w' := by
  rcases h with ⟨rfl, rfl⟩ | ⟨rfl, h1, h2⟩
  · have := rbytes_any 1594834165 4 W (by decide) (by decide)
    rw [show Int.natAbs 4 = 4 from rfl] at this
    exact this
  · rw [show Int.toNat 2 = 2 from rfl]
    by_cases h0 : 0 ≤ x
    · have := rbytes_any x 2 W (by decide) (He.fits2 h0 h2)
      rw [show Int.natAbs 2 = 2 from rfl] at this
      exact this
    · have := rbytes_any x (-2) W (by decide) (He.fits2s h1 (by omega))
      rw [show Int.natAbs (-2) = 2 from rfl] at this
      exact this

set_option maxRecDepth 100000 in
set_option maxHeartbeats 6400000 in
theorem rput5_yes0 (h : He.Head) (w : World) (hh : He.isHead h = true) (hlg : h.long = false) : Calls Try.prog 23 #[aggH h] w fun e w' => e = threeErr (He.putA h, He.putB h, He.putC h, 0) ∧ Lo w w' := by
  have HI := Lib.hid (fun W => ris5_any h W)
  rw [hh] at HI
  obtain ⟨⟨u1, u2⟩, ⟨g1, g2⟩, ⟨m1, m2⟩, ⟨a1, a2⟩, d1, d2⟩ := (He.isHead_iff h).1 hh
  have hm3 : h.metrics ≤ 65535 := by omega
  have hln : He.longN h = 0 := by unfold He.longN; rw [hlg]; rfl
  have HA : Hid (He.putA h = He.putA h) := Lib.hid rfl
  unfold He.putA He.putB He.putC
  rw [hln]
  unfold aggH at *
  rw [hlg] at *
  have l1 := He.nts_len 12
  have l2 := Bn.bytes_len 1594834165 4
  have l3 := He.nts_len 2
  have l4 := Bn.bytes_len h.upem 2
  have l5 := He.nts_len 30
  have l6 := Bn.bytes_len 0 2
  have l7 := He.nts_len 4
  have l8 := Bn.bytes_len h.asc 2
  have l9 := Bn.bytes_len h.desc 2
  have l10 := He.nts_len 26
  have l11 := Bn.bytes_len h.metrics 2
  have l12 := Bn.bytes_len h.glyphs 2
  have z1 := fun W => add_run (He.nts 12) (Bn.bytes 1594834165 4) _ rfl (by rw [l1, l2]; omega) W
  have z2 := fun W => add_run (He.nts 12 ++ Bn.bytes 1594834165 4) (He.nts 2) _ rfl (by rw [List.length_append, l1, l2, l3]; omega) W
  have z3 := fun W => add_run (He.nts 12 ++ Bn.bytes 1594834165 4 ++ He.nts 2) (Bn.bytes h.upem 2) _ rfl (by simp only [List.length_append, l1, l2, l3, l4]; omega) W
  have z4 := fun W => add_run (He.nts 12 ++ Bn.bytes 1594834165 4 ++ He.nts 2 ++ Bn.bytes h.upem 2) (He.nts 30) _ rfl (by simp only [List.length_append, l1, l2, l3, l4, l5]; omega) W
  have z5 := fun W => add_run (He.nts 12 ++ Bn.bytes 1594834165 4 ++ He.nts 2 ++ Bn.bytes h.upem 2 ++ He.nts 30) (Bn.bytes 0 2) _ rfl (by simp only [List.length_append, l1, l2, l3, l4, l5, l6]; omega) W
  have z6 := fun W => add_run (He.nts 12 ++ Bn.bytes 1594834165 4 ++ He.nts 2 ++ Bn.bytes h.upem 2 ++ He.nts 30 ++ Bn.bytes 0 2) (He.nts 2) _ rfl (by simp only [List.length_append, l1, l2, l3, l4, l5, l6]; omega) W
  have z7 := fun W => add_run (He.nts 4) (Bn.bytes h.asc 2) _ rfl (by rw [l7, l8]; omega) W
  have z8 := fun W => add_run (He.nts 4 ++ Bn.bytes h.asc 2) (Bn.bytes h.desc 2) _ rfl (by simp only [List.length_append, l7, l8, l9]; omega) W
  have z9 := fun W => add_run (He.nts 4 ++ Bn.bytes h.asc 2 ++ Bn.bytes h.desc 2) (He.nts 26) _ rfl (by simp only [List.length_append, l7, l8, l9, l10]; omega) W
  have z10 := fun W => add_run (He.nts 4 ++ Bn.bytes h.asc 2 ++ Bn.bytes h.desc 2 ++ He.nts 26) (Bn.bytes h.metrics 2) _ rfl (by simp only [List.length_append, l7, l8, l9, l10, l11]; omega) W
  have z11 := fun W => add_run (He.nts 4) (Bn.bytes h.glyphs 2) _ rfl (by rw [l7, l12]; omega) W
  generalize He.nts 12 ++ Bn.bytes 1594834165 4 ++ He.nts 2 ++ Bn.bytes h.upem 2 ++ He.nts 30 ++ Bn.bytes 0 2 ++ He.nts 2 = pa at *
  generalize He.nts 12 ++ Bn.bytes 1594834165 4 ++ He.nts 2 ++ Bn.bytes h.upem 2 ++ He.nts 30 ++ Bn.bytes 0 2 = t5 at *
  generalize He.nts 12 ++ Bn.bytes 1594834165 4 ++ He.nts 2 ++ Bn.bytes h.upem 2 ++ He.nts 30 = t4 at *
  generalize He.nts 12 ++ Bn.bytes 1594834165 4 ++ He.nts 2 ++ Bn.bytes h.upem 2 = t3 at *
  generalize He.nts 12 ++ Bn.bytes 1594834165 4 ++ He.nts 2 = t2 at *
  generalize He.nts 12 ++ Bn.bytes 1594834165 4 = t1 at *
  generalize He.nts 4 ++ Bn.bytes h.asc 2 ++ Bn.bytes h.desc 2 ++ He.nts 26 ++ Bn.bytes h.metrics 2 = pc at *
  generalize He.nts 4 ++ Bn.bytes h.asc 2 ++ Bn.bytes h.desc 2 ++ He.nts 26 = v3 at *
  generalize He.nts 4 ++ Bn.bytes h.asc 2 ++ Bn.bytes h.desc 2 = v2 at *
  generalize He.nts 4 ++ Bn.bytes h.asc 2 = v1 at *
  generalize He.nts 4 ++ Bn.bytes h.glyphs 2 = pb at *
  clear l1 l2 l3 l4 l5 l6 l7 l8 l9 l10 l11 l12 hh hlg hln HA
  have HN := Lib.hid (fun (k : Int) (W : World) (h0 : 0 ≤ k) (h1 : k ≤ 1000) => rnoughtsI k W h0 h1)
  generalize h.upem = x0 at *
  generalize h.glyphs = x1 at *
  generalize h.metrics = x2 at *
  generalize h.asc = x3 at *
  generalize h.desc = x4 at *
  go_enter Try.func23, Try.ntmps23
  go_wp2_with fail
  refine (HI.out _).mono ?_
  rintro e w1 ⟨rfl, lo⟩
  have HL := Lib.hid (((Lo.refl w).alloc _).trans lo)
  have HT := Lib.hid (lo_block lo (new_block w _))
  clear lo HI
  generalize w.heap.size = T at *
  have HS : Hid (∀ W, Lo w1 W → HeadAt T x0 x1 x2 x3 x4 false w1 W) := Lib.hid (fun W lo => HeadAt.of HT.out lo)
  have HBy : Hid (∀ (x z : Int) (W : World), (z = 4 ∧ x = 1594834165 ∨ z = 2 ∧ -32768 ≤ x ∧ x ≤ 65535) → HeadAt T x0 x1 x2 x3 x4 false w1 W → Calls Try.prog 58 #[.int .i64 x, .int .i64 z] W fun e w' => e = .returned (.string ⟨(Bn.bytes x z.toNat).toArray⟩) ∧ HeadAt T x0 x1 x2 x3 x4 false w1 w') :=
    Lib.hid (fun x z W hc hW => (rbytesI x z W hc).mono fun e w' hh => ⟨hh.1, HS.out w' (hW.2.2.2.2.2.2.out.trans hh.2)⟩)
  obtain ⟨r0, r1, r2, r3, r4, r5, _⟩ := HS.out w1 (Lo.refl _)
  go_wp2_with fail
  clear r0 r1 r2 r3 r4 r5
  go_region_held3 (fun W => HeadAt T x0 x1 x2 x3 x4 false w1 W) (first | assumption | exact HS.out _ (Lo.drew (Lo.refl _)))
    (first
      | (go_at_call 57; refine (HN.out _ _ (by omega) (by omega)).mono ?_; rintro e wN ⟨rfl, rfl⟩)
      | (go_at_call 58; refine (HBy.out _ _ _ (by omega) (by assumption)).mono ?_; rintro e w2 ⟨rfl, hSB⟩))
  have HL2 := Lib.hid hSB.2.2.2.2.2.2.out
  clear hSB z1 z2 z3 z4 z5 z6
  go_wp2_with fail
  go_region_held3 (fun W => HeadAt T x0 x1 x2 x3 x4 false w1 W) (first | assumption | exact HS.out _ (Lo.drew HL2.out))
    (first
      | (go_at_call 57; refine (HN.out _ _ (by omega) (by omega)).mono ?_; rintro e wN ⟨rfl, rfl⟩)
      | (go_at_call 58; refine (HBy.out _ _ _ (by omega) (by assumption)).mono ?_; rintro e w3 ⟨rfl, hSB⟩))
  have HL3 := Lib.hid hSB.2.2.2.2.2.2.out
  clear hSB z7 z8 z9 z10
  go_wp2_with fail
  go_region_held3 (fun W => HeadAt T x0 x1 x2 x3 x4 false w1 W) (first | assumption | exact HS.out _ (Lo.drew HL3.out))
    (first
      | (go_at_call 57; refine (HN.out _ _ (by omega) (by omega)).mono ?_; rintro e wN ⟨rfl, rfl⟩)
      | (go_at_call 58; refine (HBy.out _ _ _ (by omega) (by assumption)).mono ?_; rintro e w4 ⟨rfl, hSB⟩))
  have HL4 := Lib.hid (HL.out.trans hSB.2.2.2.2.2.2.out)
  clear hSB z11
  go_wp2_with fail
  refine bodyPost_ret (v := .tuple #[.string ⟨pa.toArray⟩, .string ⟨pb.toArray⟩, .string ⟨pc.toArray⟩, .int .i64 0]) ?_ rfl ⟨rfl, HL4.out⟩
  simp [results, Try.results23, go_sem]

set_option maxRecDepth 100000 in
set_option maxHeartbeats 6400000 in
theorem rput5_yes1 (h : He.Head) (w : World) (hh : He.isHead h = true) (hlg : h.long = true) : Calls Try.prog 23 #[aggH h] w fun e w' => e = threeErr (He.putA h, He.putB h, He.putC h, 0) ∧ Lo w w' := by
  have HI := Lib.hid (fun W => ris5_any h W)
  rw [hh] at HI
  obtain ⟨⟨u1, u2⟩, ⟨g1, g2⟩, ⟨m1, m2⟩, ⟨a1, a2⟩, d1, d2⟩ := (He.isHead_iff h).1 hh
  have hm3 : h.metrics ≤ 65535 := by omega
  have hln : He.longN h = 1 := by unfold He.longN; rw [hlg]; rfl
  have HA : Hid (He.putA h = He.putA h) := Lib.hid rfl
  unfold He.putA He.putB He.putC
  rw [hln]
  unfold aggH at *
  rw [hlg] at *
  have l1 := He.nts_len 12
  have l2 := Bn.bytes_len 1594834165 4
  have l3 := He.nts_len 2
  have l4 := Bn.bytes_len h.upem 2
  have l5 := He.nts_len 30
  have l6 := Bn.bytes_len 1 2
  have l7 := He.nts_len 4
  have l8 := Bn.bytes_len h.asc 2
  have l9 := Bn.bytes_len h.desc 2
  have l10 := He.nts_len 26
  have l11 := Bn.bytes_len h.metrics 2
  have l12 := Bn.bytes_len h.glyphs 2
  have z1 := fun W => add_run (He.nts 12) (Bn.bytes 1594834165 4) _ rfl (by rw [l1, l2]; omega) W
  have z2 := fun W => add_run (He.nts 12 ++ Bn.bytes 1594834165 4) (He.nts 2) _ rfl (by rw [List.length_append, l1, l2, l3]; omega) W
  have z3 := fun W => add_run (He.nts 12 ++ Bn.bytes 1594834165 4 ++ He.nts 2) (Bn.bytes h.upem 2) _ rfl (by simp only [List.length_append, l1, l2, l3, l4]; omega) W
  have z4 := fun W => add_run (He.nts 12 ++ Bn.bytes 1594834165 4 ++ He.nts 2 ++ Bn.bytes h.upem 2) (He.nts 30) _ rfl (by simp only [List.length_append, l1, l2, l3, l4, l5]; omega) W
  have z5 := fun W => add_run (He.nts 12 ++ Bn.bytes 1594834165 4 ++ He.nts 2 ++ Bn.bytes h.upem 2 ++ He.nts 30) (Bn.bytes 1 2) _ rfl (by simp only [List.length_append, l1, l2, l3, l4, l5, l6]; omega) W
  have z6 := fun W => add_run (He.nts 12 ++ Bn.bytes 1594834165 4 ++ He.nts 2 ++ Bn.bytes h.upem 2 ++ He.nts 30 ++ Bn.bytes 1 2) (He.nts 2) _ rfl (by simp only [List.length_append, l1, l2, l3, l4, l5, l6]; omega) W
  have z7 := fun W => add_run (He.nts 4) (Bn.bytes h.asc 2) _ rfl (by rw [l7, l8]; omega) W
  have z8 := fun W => add_run (He.nts 4 ++ Bn.bytes h.asc 2) (Bn.bytes h.desc 2) _ rfl (by simp only [List.length_append, l7, l8, l9]; omega) W
  have z9 := fun W => add_run (He.nts 4 ++ Bn.bytes h.asc 2 ++ Bn.bytes h.desc 2) (He.nts 26) _ rfl (by simp only [List.length_append, l7, l8, l9, l10]; omega) W
  have z10 := fun W => add_run (He.nts 4 ++ Bn.bytes h.asc 2 ++ Bn.bytes h.desc 2 ++ He.nts 26) (Bn.bytes h.metrics 2) _ rfl (by simp only [List.length_append, l7, l8, l9, l10, l11]; omega) W
  have z11 := fun W => add_run (He.nts 4) (Bn.bytes h.glyphs 2) _ rfl (by rw [l7, l12]; omega) W
  generalize He.nts 12 ++ Bn.bytes 1594834165 4 ++ He.nts 2 ++ Bn.bytes h.upem 2 ++ He.nts 30 ++ Bn.bytes 1 2 ++ He.nts 2 = pa at *
  generalize He.nts 12 ++ Bn.bytes 1594834165 4 ++ He.nts 2 ++ Bn.bytes h.upem 2 ++ He.nts 30 ++ Bn.bytes 1 2 = t5 at *
  generalize He.nts 12 ++ Bn.bytes 1594834165 4 ++ He.nts 2 ++ Bn.bytes h.upem 2 ++ He.nts 30 = t4 at *
  generalize He.nts 12 ++ Bn.bytes 1594834165 4 ++ He.nts 2 ++ Bn.bytes h.upem 2 = t3 at *
  generalize He.nts 12 ++ Bn.bytes 1594834165 4 ++ He.nts 2 = t2 at *
  generalize He.nts 12 ++ Bn.bytes 1594834165 4 = t1 at *
  generalize He.nts 4 ++ Bn.bytes h.asc 2 ++ Bn.bytes h.desc 2 ++ He.nts 26 ++ Bn.bytes h.metrics 2 = pc at *
  generalize He.nts 4 ++ Bn.bytes h.asc 2 ++ Bn.bytes h.desc 2 ++ He.nts 26 = v3 at *
  generalize He.nts 4 ++ Bn.bytes h.asc 2 ++ Bn.bytes h.desc 2 = v2 at *
  generalize He.nts 4 ++ Bn.bytes h.asc 2 = v1 at *
  generalize He.nts 4 ++ Bn.bytes h.glyphs 2 = pb at *
  clear l1 l2 l3 l4 l5 l6 l7 l8 l9 l10 l11 l12 hh hlg hln HA
  have HN := Lib.hid (fun (k : Int) (W : World) (h0 : 0 ≤ k) (h1 : k ≤ 1000) => rnoughtsI k W h0 h1)
  generalize h.upem = x0 at *
  generalize h.glyphs = x1 at *
  generalize h.metrics = x2 at *
  generalize h.asc = x3 at *
  generalize h.desc = x4 at *
  go_enter Try.func23, Try.ntmps23
  go_wp2_with fail
  refine (HI.out _).mono ?_
  rintro e w1 ⟨rfl, lo⟩
  have HL := Lib.hid (((Lo.refl w).alloc _).trans lo)
  have HT := Lib.hid (lo_block lo (new_block w _))
  clear lo HI
  generalize w.heap.size = T at *
  have HS : Hid (∀ W, Lo w1 W → HeadAt T x0 x1 x2 x3 x4 true w1 W) := Lib.hid (fun W lo => HeadAt.of HT.out lo)
  have HBy : Hid (∀ (x z : Int) (W : World), (z = 4 ∧ x = 1594834165 ∨ z = 2 ∧ -32768 ≤ x ∧ x ≤ 65535) → HeadAt T x0 x1 x2 x3 x4 true w1 W → Calls Try.prog 58 #[.int .i64 x, .int .i64 z] W fun e w' => e = .returned (.string ⟨(Bn.bytes x z.toNat).toArray⟩) ∧ HeadAt T x0 x1 x2 x3 x4 true w1 w') :=
    Lib.hid (fun x z W hc hW => (rbytesI x z W hc).mono fun e w' hh => ⟨hh.1, HS.out w' (hW.2.2.2.2.2.2.out.trans hh.2)⟩)
  obtain ⟨r0, r1, r2, r3, r4, r5, _⟩ := HS.out w1 (Lo.refl _)
  go_wp2_with fail
  clear r0 r1 r2 r3 r4 r5
  go_region_held3 (fun W => HeadAt T x0 x1 x2 x3 x4 true w1 W) (first | assumption | exact HS.out _ (Lo.drew (Lo.refl _)))
    (first
      | (go_at_call 57; refine (HN.out _ _ (by omega) (by omega)).mono ?_; rintro e wN ⟨rfl, rfl⟩)
      | (go_at_call 58; refine (HBy.out _ _ _ (by omega) (by assumption)).mono ?_; rintro e w2 ⟨rfl, hSB⟩))
  have HL2 := Lib.hid hSB.2.2.2.2.2.2.out
  clear hSB z1 z2 z3 z4 z5 z6
  go_wp2_with fail
  go_region_held3 (fun W => HeadAt T x0 x1 x2 x3 x4 true w1 W) (first | assumption | exact HS.out _ (Lo.drew HL2.out))
    (first
      | (go_at_call 57; refine (HN.out _ _ (by omega) (by omega)).mono ?_; rintro e wN ⟨rfl, rfl⟩)
      | (go_at_call 58; refine (HBy.out _ _ _ (by omega) (by assumption)).mono ?_; rintro e w3 ⟨rfl, hSB⟩))
  have HL3 := Lib.hid hSB.2.2.2.2.2.2.out
  clear hSB z7 z8 z9 z10
  go_wp2_with fail
  go_region_held3 (fun W => HeadAt T x0 x1 x2 x3 x4 true w1 W) (first | assumption | exact HS.out _ (Lo.drew HL3.out))
    (first
      | (go_at_call 57; refine (HN.out _ _ (by omega) (by omega)).mono ?_; rintro e wN ⟨rfl, rfl⟩)
      | (go_at_call 58; refine (HBy.out _ _ _ (by omega) (by assumption)).mono ?_; rintro e w4 ⟨rfl, hSB⟩))
  have HL4 := Lib.hid (HL.out.trans hSB.2.2.2.2.2.2.out)
  clear hSB z11
  go_wp2_with fail
  refine bodyPost_ret (v := .tuple #[.string ⟨pa.toArray⟩, .string ⟨pb.toArray⟩, .string ⟨pc.toArray⟩, .int .i64 0]) ?_ rfl ⟨rfl, HL4.out⟩
  simp [results, Try.results23, go_sem]

/-- The reference's Put. -/
theorem rput5_any (h : He.Head) (w : World) : Calls Try.prog 23 #[aggH h] w fun e w' => e = threeErr (He.put h) ∧ Lo w w' := by
  unfold He.put
  cases hh : He.isHead h with
  | false => exact rput5_no h w hh
  | true =>
    cases hl : h.long with
    | true => exact rput5_yes1 h w hh hl
    | false => exact rput5_yes0 h w hh hl
end Go.Proofs.Ytbcilhdamjgoeaa
