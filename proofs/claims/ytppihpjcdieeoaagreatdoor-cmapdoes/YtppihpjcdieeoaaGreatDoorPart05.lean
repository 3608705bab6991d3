/-
  Facts that the walks rest on: ChGet, SgBase, SgCut, BnCaughtS. No conditions beyond those stated.
-/
import Derived.Test.YtppihpjcdieeoaaGreatDoorPart04
import Derived.Test.YtppihpjcdieeoaaGreatDoorPlain
import Derived.Test.YtppihpjcdieeoaaGreatDoorGround
import Derived.StillTailTactics
import Derived.Test.YtppihpjcdieeoaaGreatDoorPart02
/-
  Contracts of chart.getSmall, getTrimmed and Get. No conditions beyond those stated.
-/
namespace Go.Proofs.YtppihpjcdieeoaaGreatDoor
open Go.RowKit

set_option maxRecDepth 100000 in
set_option maxHeartbeats 1600000 in
theorem getSmall_any (s : List UInt8) (n : Int) (w : World) (hs : s.length ≤ 9223372036854775807) : Calls Tryz.prog 81 #[.string ⟨s.toArray⟩, .int .i64 n] w (GotSp (Ch.getS s n) w) := by
  by_cases hn : n = 262
  · subst hn
    have HM := Lib.hid (fun W => repeated_any 1 256 W (by omega))
    have HG := Lib.hid (fun (W : World) (v : Value) (hr : Row W v (List.replicate 256 1)) => get_any s 6 v _ W hr (by rw [List.length_replicate]; omega) hs (by omega))
    have hb : Bn.get s 6 (List.replicate 256 1) = if s.length < 6 + 1 * 256 then ([], 4) else ((List.range 256).map fun i => He.fld s (6 + 1 * i) 1, 0) := Ch.bget_rep s 6 256 (size := 1) (by decide)
    have HSp := Lib.hid (fun (W : World) (v : Value) (gs : List Int) (hg : gs.length = 256) (hr : Row W v gs) => spans_any 0 gs v W hr (by omega) (by omega) (by omega))
    rw [hb] at HG
    unfold Many at HM
    rcases Nat.lt_or_ge s.length 262 with h | h
    · have HE : Hid (Ch.getS s 262 = ([], 4)) := Lib.hid (by unfold Ch.getS; rw [if_neg (by simp), if_pos h])
      rw [if_pos (by omega)] at HG
      generalize Ch.getS s 262 = y at *
      unfold GotRow at HG
      go_enter Tryz.func81, Tryz.ntmps81
      go_wp2_with fail
      refine (HM.out _).mono ?_
      rintro e w1 ⟨p, c, rfl, hr, lo⟩
      have HL := Lib.hid lo
      have HR := Lib.hid hr
      clear lo hr HM
      go_wp2_with fail
      refine (HG.out _ _ HR.out).mono ?_
      rintro e w2 ⟨p2, c2, rfl, _, lo⟩
      have HL := Lib.hid (HL.out.trans lo)
      clear lo HR HG
      go_wp2_with fail
      go_ret2
      rw [HE.out]
      exact GotSp.nil rfl HL.out
    · have HE : Hid (Ch.getS s 262 = (Ch.spansL 0 ((List.range 256).map fun i => He.fld s (6 + 1 * i) 1), 0)) := Lib.hid (by unfold Ch.getS; rw [if_neg (by simp), if_neg (by omega)])
      rw [if_neg (by omega)] at HG
      generalize Ch.getS s 262 = y at *
      have hgl : ((List.range 256).map fun i => He.fld s (6 + 1 * i) 1).length = 256 := by simp
      have HGL := Lib.hid hgl
      unfold GotRow at HG
      generalize (List.range 256).map (fun i => He.fld s (6 + 1 * i) 1) = gs at *
      dsimp only at HG
      rw [hgl] at HG
      clear hgl hb
      go_enter Tryz.func81, Tryz.ntmps81
      go_wp2_with fail
      refine (HM.out _).mono ?_
      rintro e w1 ⟨p, c, rfl, hr, lo⟩
      have HL := Lib.hid lo
      have HR := Lib.hid hr
      clear lo hr HM
      go_wp2_with fail
      refine (HG.out _ _ HR.out).mono ?_
      rintro e w2 ⟨p2, c2, rfl, hr, lo⟩
      have HL := Lib.hid (HL.out.trans lo)
      have HR := Lib.hid hr
      clear lo hr HG
      go_wp2_with fail
      refine (HSp.out _ _ gs HGL.out HR.out).mono ?_
      rintro e w3 ⟨p3, c3, rfl, hr, lo⟩
      have HL := Lib.hid (HL.out.trans lo)
      have HR := Lib.hid hr
      clear lo hr HSp
      go_wp2_with fail
      go_ret2
      rw [HE.out]
      exact ⟨p3, c3, rfl, HR.out, HL.out⟩
  · have HE : Hid (Ch.getS s n = ([], 5)) := Lib.hid (by unfold Ch.getS; rw [if_pos hn])
    generalize Ch.getS s n = y at *
    go_enter Tryz.func81, Tryz.ntmps81
    go_wp2_with fail
    go_ret2
    rw [HE.out]
    exact GotSp.nil rfl (Lo.refl _)

theorem Row.two' {w : World} {p : Option Addr} {c : Nat} {x0 x1 : Int} (h : Row w (.slice p 2 c) [x0, x1]) :
    ∃ b off, p = some ⟨b, off, none⟩ ∧ w.cell? ⟨b, off, none⟩ = some (.int .i64 x0) ∧ w.cell? ⟨b, off + 1, none⟩ = some (.int .i64 x1) := by
  obtain ⟨b, off, rfl, h0⟩ := h.at_ (k := 0) (by omega)
  obtain ⟨b1, off1, e1, h1⟩ := h.at_ (k := 1) (by omega)
  simp only [Option.some.injEq, Addr.mk.injEq, and_true] at e1
  obtain ⟨rfl, rfl⟩ := e1
  exact ⟨b, off, rfl, h0, h1⟩

set_option maxRecDepth 100000 in
set_option maxHeartbeats 3200000 in
theorem getTrimmed_any (s : List UInt8) (n : Int) (w : World) (hs : s.length ≤ 9223372036854775807) : Calls Tryz.prog 82 #[.string ⟨s.toArray⟩, .int .i64 n] w (GotSp (Ch.getT s n) w) := by
  have HG := Lib.hid (fun (W : World) (v : Value) (hr : Row W v [2, 2]) => get_any s 6 v _ W hr (by simp) hs (by omega))
  have hb : Bn.get s 6 [2, 2] = if s.length < 6 + 4 then ([], 4) else ([He.fld s 6 2, He.fld s (6 + 2) 2], 0) := Ch.bget_two s 6
  rw [hb] at HG
  clear hb
  unfold GotRow at HG
  rcases Nat.lt_or_ge s.length 10 with h | h
  · have HE : Hid (Ch.getT s n = ([], 4)) := Lib.hid (by unfold Ch.getT; rw [if_pos h])
    rw [if_pos (by omega)] at HG
    generalize Ch.getT s n = y at *
    go_enter Tryz.func82, Tryz.ntmps82
    go_wp2_with fail
    refine (HG.out _ _ (row2 w _ rfl 2 2)).mono ?_
    rintro e w1 ⟨p, c, rfl, _, lo⟩
    have HL := Lib.hid (((Lo.refl w).alloc _).trans lo)
    clear lo HG
    go_wp2_with fail
    go_ret2
    rw [HE.out]
    exact GotSp.nil rfl HL.out
  · rw [if_neg (by omega)] at HG
    simp only [List.length_cons, List.length_nil, Nat.zero_add] at HG
    have b6 := Ch.fld_bound s 6
    have b8 := Ch.fld_bound s 8
    have HM := Lib.hid (fun W => repeated_any 2 (He.fld s 8 2).toNat W (by omega))
    have HG2 := Lib.hid (fun (W : World) (v : Value) (hr : Row W v (List.replicate (He.fld s 8 2).toNat 2)) => get_any s 10 v _ W hr (by rw [List.length_replicate]; omega) hs (by omega))
    have hb : Bn.get s 10 (List.replicate (He.fld s 8 2).toNat 2) = if s.length < 10 + 2 * (He.fld s 8 2).toNat then ([], 4) else ((List.range (He.fld s 8 2).toNat).map fun i => He.fld s (10 + 2 * i) 2, 0) := Ch.bget_rep s 10 _ (size := 2) (by decide)
    rw [hb] at HG2
    clear hb
    have HE : Hid (Ch.getT s n = if n ≠ 10 + 2 * He.fld s 8 2 then ([], 5)
      else if s.length < 10 + 2 * (He.fld s 8 2).toNat then ([], 4)
      else if 65536 < He.fld s 6 2 + He.fld s 8 2 then ([], 5)
      else (Ch.spansL (He.fld s 6 2) ((List.range (He.fld s 8 2).toNat).map fun i => He.fld s (10 + 2 * i) 2), 0)) := Lib.hid (by unfold Ch.getT; rw [if_neg (by omega)])
    generalize Ch.getT s n = y at *
    have hgl : ((List.range (He.fld s 8 2).toNat).map fun i => He.fld s (10 + 2 * i) 2).length = (He.fld s 8 2).toNat := by simp
    generalize (List.range (He.fld s 8 2).toNat).map (fun i => He.fld s (10 + 2 * i) 2) = gs at *
    generalize He.fld s 6 2 = x0 at *
    generalize He.fld s 8 2 = x1 at *
    obtain ⟨m, rfl⟩ := Int.eq_ofNat_of_zero_le b8.1
    simp only [Int.toNat_natCast] at *
    have HSp := Lib.hid (fun (W : World) (v : Value) (hr : Row W v gs) => spans_any x0 gs v W hr (by omega) (by omega) (by omega))
    unfold Many at HM
    unfold GotRow at HG2
    by_cases h1 : n = 10 + 2 * (m : Int)
    · subst h1
      rcases Nat.lt_or_ge s.length (10 + 2 * m) with h2 | h2
      · have HE : Hid (y = ([], 4)) := Lib.hid (by rw [HE.out, if_neg (by simp), if_pos h2])
        rw [if_pos h2] at HG2
        clear HSp
        go_enter Tryz.func82, Tryz.ntmps82
        go_wp2_with fail
        refine (HG.out _ _ (row2 w _ rfl 2 2)).mono ?_
        rintro e w1 ⟨p, c, rfl, hr, lo⟩
        have HL := Lib.hid (((Lo.refl w).alloc _).trans lo)
        obtain ⟨b, off, rfl, r0, r1⟩ := Row.two' hr
        clear lo HG hr
        go_wp2_with fail
        go_quiet (fail)
        have HL := Lib.hid (HL.out.drewN nq)
        clear r0 r1
        go_wp2_with fail
        refine (HM.out _).mono ?_
        rintro e w2 ⟨p2, c2, rfl, hr, lo⟩
        have HL := Lib.hid (HL.out.trans lo)
        have HR := Lib.hid hr
        clear lo hr HM
        go_wp2_with fail
        refine (HG2.out _ _ HR.out).mono ?_
        rintro e w3 ⟨p3, c3, rfl, hr, lo⟩
        have HL := Lib.hid (HL.out.trans lo)
        clear lo hr HG2 HR
        go_wp2_with fail
        go_ret2
        rw [HE.out]
        exact GotSp.nil rfl HL.out
      · rw [if_neg (by omega)] at HG2
        dsimp only at HG2
        rw [hgl] at HG2
        by_cases h3 : 65536 < x0 + (m : Int)
        · have HE : Hid (y = ([], 5)) := Lib.hid (by rw [HE.out, if_neg (by simp), if_neg (by omega), if_pos h3])
          clear HSp
          go_enter Tryz.func82, Tryz.ntmps82
          go_wp2_with fail
          refine (HG.out _ _ (row2 w _ rfl 2 2)).mono ?_
          rintro e w1 ⟨p, c, rfl, hr, lo⟩
          have HL := Lib.hid (((Lo.refl w).alloc _).trans lo)
          obtain ⟨b, off, rfl, r0, r1⟩ := Row.two' hr
          clear lo HG hr
          go_wp2_with fail
          go_quiet (fail)
          have HL := Lib.hid (HL.out.drewN nq)
          clear r0 r1
          go_wp2_with fail
          refine (HM.out _).mono ?_
          rintro e w2 ⟨p2, c2, rfl, hr, lo⟩
          have HL := Lib.hid (HL.out.trans lo)
          have HR := Lib.hid hr
          clear lo hr HM
          go_wp2_with fail
          refine (HG2.out _ _ HR.out).mono ?_
          rintro e w3 ⟨p3, c3, rfl, hr, lo⟩
          have HL := Lib.hid (HL.out.trans lo)
          clear lo hr HG2 HR
          go_wp2_with fail
          go_ret2
          rw [HE.out]
          exact GotSp.nil rfl HL.out
        · have HE : Hid (y = (Ch.spansL x0 gs, 0)) := Lib.hid (by rw [HE.out, if_neg (by simp), if_neg (by omega), if_neg h3])
          go_enter Tryz.func82, Tryz.ntmps82
          go_wp2_with fail
          refine (HG.out _ _ (row2 w _ rfl 2 2)).mono ?_
          rintro e w1 ⟨p, c, rfl, hr, lo⟩
          have HL := Lib.hid (((Lo.refl w).alloc _).trans lo)
          obtain ⟨b, off, rfl, r0, r1⟩ := Row.two' hr
          clear lo HG hr
          go_wp2_with fail
          go_quiet (fail)
          have HL := Lib.hid (HL.out.drewN nq)
          clear r0 r1
          go_wp2_with fail
          refine (HM.out _).mono ?_
          rintro e w2 ⟨p2, c2, rfl, hr, lo⟩
          have HL := Lib.hid (HL.out.trans lo)
          have HR := Lib.hid hr
          clear lo hr HM
          go_wp2_with fail
          refine (HG2.out _ _ HR.out).mono ?_
          rintro e w3 ⟨p3, c3, rfl, hr, lo⟩
          have HL := Lib.hid (HL.out.trans lo)
          have HR := Lib.hid hr
          clear lo hr HG2
          go_wp2_with fail
          refine (HSp.out _ _ HR.out).mono ?_
          rintro e w4 ⟨p4, c4, rfl, hr, lo⟩
          have HL := Lib.hid (HL.out.trans lo)
          have HR := Lib.hid hr
          clear lo hr HSp
          go_wp2_with fail
          go_ret2
          rw [HE.out]
          exact ⟨p4, c4, rfl, HR.out, HL.out⟩
    · have HE : Hid (y = ([], 5)) := Lib.hid (by rw [HE.out, if_pos h1])
      clear HSp HG2 HM
      go_enter Tryz.func82, Tryz.ntmps82
      go_wp2_with fail
      refine (HG.out _ _ (row2 w _ rfl 2 2)).mono ?_
      rintro e w1 ⟨p, c, rfl, hr, lo⟩
      have HL := Lib.hid (((Lo.refl w).alloc _).trans lo)
      obtain ⟨b, off, rfl, r0, r1⟩ := Row.two' hr
      clear lo HG hr
      go_wp2_with fail
      go_quiet (fail)
      have HL := Lib.hid (HL.out.drewN nq)
      clear r0 r1
      go_wp2_with fail
      go_ret2
      rw [HE.out]
      exact GotSp.nil rfl HL.out

set_option maxRecDepth 100000 in
set_option maxHeartbeats 1600000 in
theorem cget_any (s : List UInt8) (w : World) (hs : s.length ≤ 9223372036854775807) : Calls Tryz.prog 47 #[.string ⟨s.toArray⟩] w (GotSp (Ch.get s) w) := by
  have HG := Lib.hid (fun (W : World) (v : Value) (hr : Row W v [2, 2]) => get_any s 0 v _ W hr (by simp) hs (by omega))
  have hb : Bn.get s 0 [2, 2] = if s.length < 0 + 4 then ([], 4) else ([He.fld s 0 2, He.fld s (0 + 2) 2], 0) := Ch.bget_two s 0
  rw [hb] at HG
  clear hb
  unfold GotRow at HG
  rcases Nat.lt_or_ge s.length 4 with h | h
  · have HE : Hid (Ch.get s = ([], 4)) := Lib.hid (Ch.get_more h)
    rw [if_pos (by omega)] at HG
    generalize Ch.get s = y at *
    go_enter Tryz.func47, Tryz.ntmps47
    go_wp2_with fail
    refine (HG.out _ _ (row2 w _ rfl 2 2)).mono ?_
    rintro e w1 ⟨p, c, rfl, _, lo⟩
    have HL := Lib.hid (((Lo.refl w).alloc _).trans lo)
    clear lo HG
    go_wp2_with fail
    go_ret2
    rw [HE.out]
    exact GotSp.nil rfl HL.out
  · rw [if_neg (by omega)] at HG
    simp only [List.length_cons, List.length_nil, Nat.zero_add] at HG
    have HS := Lib.hid (fun W => getSmall_any s (He.fld s 2 2) W hs)
    have HT := Lib.hid (fun W => getTrimmed_any s (He.fld s 2 2) W hs)
    have HE0 := Lib.hid (fun h0 => Ch.get_zero h h0)
    have HE6 := Lib.hid (fun h0 => Ch.get_six h h0)
    have HE5 := Lib.hid (fun h0 h6 => Ch.get_form5 h h0 h6)
    generalize Ch.get s = y at *
    generalize Ch.getS s (He.fld s 2 2) = y0 at *
    generalize Ch.getT s (He.fld s 2 2) = y6 at *
    generalize He.fld s 0 2 = f at *
    generalize He.fld s 2 2 = n at *
    unfold GotSp at HS HT
    by_cases h0 : f = 0
    · subst h0
      have HE := Lib.hid (HE0.out rfl)
      clear HE0 HE6 HE5 HT
      go_enter Tryz.func47, Tryz.ntmps47
      go_wp2_with fail
      refine (HG.out _ _ (row2 w _ rfl 2 2)).mono ?_
      rintro e w1 ⟨p, c, rfl, hr, lo⟩
      have HL := Lib.hid (((Lo.refl w).alloc _).trans lo)
      obtain ⟨b, off, rfl, r0, r1⟩ := Row.two' hr
      clear lo HG hr
      go_wp2_with fail
      go_quiet (fail)
      have HL := Lib.hid (HL.out.drewN nq)
      clear r0 r1
      go_wp2_with fail
      refine (HS.out _).mono ?_
      rintro e w2 ⟨p2, c2, rfl, hr, lo⟩
      have HL := Lib.hid (HL.out.trans lo)
      have HR := Lib.hid hr
      clear lo hr HS
      go_wp2_with fail
      go_ret2
      rw [HE.out]
      exact ⟨p2, c2, rfl, HR.out, HL.out⟩
    · by_cases h6 : f = 6
      · subst h6
        have HE := Lib.hid (HE6.out rfl)
        clear HE0 HE6 HE5 HS
        go_enter Tryz.func47, Tryz.ntmps47
        go_wp2_with fail
        refine (HG.out _ _ (row2 w _ rfl 2 2)).mono ?_
        rintro e w1 ⟨p, c, rfl, hr, lo⟩
        have HL := Lib.hid (((Lo.refl w).alloc _).trans lo)
        obtain ⟨b, off, rfl, r0, r1⟩ := Row.two' hr
        clear lo HG hr
        go_wp2_with fail
        go_quiet (fail)
        have HL := Lib.hid (HL.out.drewN nq)
        clear r0 r1
        go_wp2_with fail
        refine (HT.out _).mono ?_
        rintro e w2 ⟨p2, c2, rfl, hr, lo⟩
        have HL := Lib.hid (HL.out.trans lo)
        have HR := Lib.hid hr
        clear lo hr HT
        go_wp2_with fail
        go_ret2
        rw [HE.out]
        exact ⟨p2, c2, rfl, HR.out, HL.out⟩
      · have HE := Lib.hid (HE5.out h0 h6)
        clear HE0 HE6 HE5 HS HT
        go_enter Tryz.func47, Tryz.ntmps47
        go_wp2_with fail
        refine (HG.out _ _ (row2 w _ rfl 2 2)).mono ?_
        rintro e w1 ⟨p, c, rfl, hr, lo⟩
        have HL := Lib.hid (((Lo.refl w).alloc _).trans lo)
        obtain ⟨b, off, rfl, r0, r1⟩ := Row.two' hr
        clear lo HG hr
        go_wp2_with fail
        go_quiet (fail)
        have HL := Lib.hid (HL.out.drewN nq)
        clear r0 r1
        go_wp2_with fail
        go_ret2
        rw [HE.out]
        exact GotSp.nil rfl HL.out
end Go.Proofs.YtppihpjcdieeoaaGreatDoor
/-
  Contracts of package segment's small functions: wrapped, length, repeated, listedGlyphs, counted. No conditions beyond those stated.
-/
namespace Sg
/-- Spans of glyphs that rise by one, told as the program tells them. -/
def nearL (fr tt g : Int) : List Ch.Span := if tt < fr + 65536 - g then [⟨fr, tt, g, 1⟩] else [⟨fr, fr + 65536 - g - 1, g, 1⟩, ⟨fr + 65536 - g, tt, 0, 1⟩]
end Sg
namespace Go.Proofs.YtppihpjcdieeoaaGreatDoor
open Go.RowKit

set_option maxHeartbeats 400000 in
theorem wrapped_any (x : Int) (w : World) : Calls Tryz.prog 121 #[.int .i64 x] w fun e w' => e = .returned (.int .i64 (x % 65536)) ∧ w = w' := by
  go_enter Tryz.func121, Tryz.ntmps121
  go_wp2_with fail
  go_ret
  refine ⟨ret_int ?_, rfl⟩
  have e : IntKind.u16.wrap x = x % 65536 := by first | rfl | (simp [IntKind.wrap]; done) | (simp [IntKind.wrap, IntKind.bits]; done)
  rw [e, wrap_id (by omega) (by omega)]

set_option maxHeartbeats 400000 in
theorem length_any (n g : Nat) (w : World) (hn : n ≤ 10000000) (hg : g ≤ 10000000) : Calls Tryz.prog 92 #[.int .i64 (n : Int), .int .i64 (g : Int)] w fun e w' => e = .returned (.int .i64 ((16 + 8 * n + 2 * g : Nat) : Int)) ∧ w = w' := by
  go_enter Tryz.func92, Tryz.ntmps92
  go_wp2_with fail
  go_ret
  exact ⟨ret_int (by first | omega | (simp [IntKind.wrap_i64]; omega)), rfl⟩

set_option maxHeartbeats 400000 in
theorem srepeated_any (z : Int) (n : Nat) (w : World) (hn : n ≤ 1000000) : Calls Tryz.prog 96 #[.int .i64 z, .int .i64 (n : Int)] w (Many z n w) := by
  have HR := Lib.hid (fun (v : Value) (W : World) (h : Row W v [z]) => repeat_any z n v W h hn)
  unfold Many
  go_enter Tryz.func96, Tryz.ntmps96
  go_wp2_with fail
  refine (HR.out _ _ (row1 w _ rfl z)).mono ?_
  rintro e w1 ⟨G, rfl, hF, lo⟩
  have HF := Lib.hid hF
  have HL := Lib.hid (((Lo.refl w).alloc _).trans lo)
  clear hF lo HR
  go_wp2_with fail
  go_ret
  exact ⟨_, _, rfl, fill_row HF.out hn, HL.out⟩

set_option maxHeartbeats 800000 in
theorem listedGlyphs_any {x : Ch.Span} (h : Ch.okSpan x = true) (w : World) : Calls Tryz.prog 124 #[aggS x] w fun e w' => e = .returned (.int .i64 ((Sg.wid x : Nat) : Int)) ∧ Lo w w' := by
  obtain ⟨a1, a2, a3, a4, a5, a6, a7, a8⟩ := (Ch.okSpan_iff x).1 h
  clear h a8
  obtain ⟨fr, tt, gl, st⟩ := x
  unfold Sg.wid Sg.isRow aggS
  dsimp only at *
  by_cases hs : st = 1
  · subst hs
    have e : ((if (decide ((1 : Int) = 0) && decide (fr < tt)) = true then (tt - fr + 1).toNat else 0 : Nat) : Int) = 0 := by simp
    rw [e]
    clear e
    go_enter Tryz.func124, Tryz.ntmps124
    go_wp2_with fail
    go_ret
    exact ⟨rfl, (Lo.refl w).alloc _⟩
  · obtain rfl : st = 0 := by omega
    by_cases hf : fr = tt
    · subst hf
      have e : ((if (decide ((0 : Int) = 0) && decide (fr < fr)) = true then (fr - fr + 1).toNat else 0 : Nat) : Int) = 0 := by simp
      rw [e]
      clear e
      go_enter Tryz.func124, Tryz.ntmps124
      go_wp2_with fail
      go_ret
      exact ⟨rfl, (Lo.refl w).alloc _⟩
    · have e : ((if (decide ((0 : Int) = 0) && decide (fr < tt)) = true then (tt - fr + 1).toNat else 0 : Nat) : Int) = tt - fr + 1 := by
        rw [decide_eq_true rfl, Bool.true_and, decide_eq_true (by omega), if_pos rfl]
        omega
      rw [e]
      clear e
      go_enter Tryz.func124, Tryz.ntmps124
      go_wp2_with fail
      go_ret
      exact ⟨ret_int (by first | rfl | omega | (simp [IntKind.wrap_i64]; omega)), (Lo.refl w).alloc _⟩

set_option maxHeartbeats 800000 in
theorem counted_any (fr tt g : Int) (w : World) (h1 : 0 ≤ fr) (h2 : fr ≤ 65535) (h3 : 0 ≤ tt) (h4 : tt ≤ 65535) (h5 : 0 ≤ g) (h6 : g ≤ 65535) : Calls Tryz.prog 120 #[.int .i64 fr, .int .i64 tt, .int .i64 g] w (GotSpans (Sg.nearL fr tt g) w) := by
  unfold GotSpans Sg.nearL
  by_cases h : tt < fr + 65536 - g
  · rw [if_pos h]
    go_enter Tryz.func120, Tryz.ntmps120
    go_wp2_with fail
    go_ret
    exact ⟨_, _, rfl, srow1 w _ rfl ⟨fr, tt, g, 1⟩ _, (Lo.refl w).alloc _⟩
  · rw [if_neg h]
    go_enter Tryz.func120, Tryz.ntmps120
    go_wp2_with fail
    go_ret
    exact ⟨_, _, rfl, srow2 w ⟨fr, fr + 65536 - g - 1, g, 1⟩ ⟨fr + 65536 - g, tt, 0, 1⟩ _, (Lo.refl w).alloc _⟩
end Go.Proofs.YtppihpjcdieeoaaGreatDoor
/-
  Contracts of segment.parts and segment.cut: numbers cut into arrays, one behind the other. No conditions beyond those stated.
-/
namespace Sg
/-- Where the parts of some lengths lie in a block, from a place on. -/
def partsL (b : Nat) : Nat → List Nat → List (Nat × Nat × Nat)
  | _, [] => []
  | o, n :: r => (b, o, n) :: partsL b (o + n) r
theorem partsL_len (b : Nat) : ∀ (o : Nat) (l : List Nat), (partsL b o l).length = l.length
  | _, [] => rfl
  | o, n :: r => by simp [partsL, partsL_len b (o + n) r]
theorem partsL_snoc (b : Nat) : ∀ (l : List Nat) (o n : Nat), partsL b o (l ++ [n]) = partsL b o l ++ [(b, o + l.sum, n)]
  | [], o, n => by simp [partsL]
  | x :: r, o, n => by
    rw [List.cons_append, partsL, partsL_snoc b r, partsL, List.sum_cons]
    simp [Nat.add_assoc]
theorem take_snocN {l : List Nat} {k : Nat} (h : k < l.length) : l.take (k + 1) = l.take k ++ [l.getD k 0] := by
  rw [List.take_add_one]; simp [List.getElem?_eq_getElem h, List.getD]
theorem sum_take (l : List Nat) (k : Nat) : (l.take k).sum ≤ l.sum := by
  conv => rhs; rw [← List.take_append_drop k l, List.sum_append]
  omega
theorem sum_step {l : List Nat} {k : Nat} (h : k < l.length) : (l.take (k + 1)).sum = (l.take k).sum + l.getD k 0 := by
  rw [take_snocN h]; simp
end Sg
namespace Go.Proofs.YtppihpjcdieeoaaGreatDoor
open Go.RowKit

def encP (x : Nat × Nat × Nat) : List Value := [.slice (some ⟨x.1, x.2.1, none⟩) x.2.2 x.2.2]
theorem encP_len (x : Nat × Nat × Nat) : (encP x).length = 1 := rfl
theorem encP_one (x : Nat × Nat × Nat) : ∀ u ∈ encP x, u.oneCell' = true := by
  intro u hu
  simp only [encP, List.mem_cons, List.not_mem_nil, or_false] at hu
  subst hu; rfl
theorem ints_info : (Tryz.prog.info? 52).map (fun i => (i.zero, i.size, i.bytes)) = some (some (.slice none 0 0), 1, 24) := by kernel_rfl
/-- A slice of one part that is laid anew. -/
theorem prow1 (w : World) (b o n ty : Nat) : RowK encP 1 (w.alloc (.cells #[.slice (some ⟨b, o, none⟩) n n] ty)) (.slice (some ⟨w.heap.size, 0, none⟩) 1 1) [(b, o, n)] :=
  .inr ⟨w.heap.size, 0, 1, rfl, by simp, by simp, by simp, fun i z hz j hj => by
    have hi : i < 1 := (List.getElem?_eq_some_iff.1 hz).1
    obtain rfl : i = 0 := by omega
    obtain rfl : j = 0 := by omega
    simp at hz
    subst hz
    simp [go_sem, encP]⟩
theorem slice_upto2 (b off N c k : Nat) (h : k ≤ c) (W : World) :
    (Instr.slice 52 (.slice (some ⟨b, off, none⟩) N c) none (some (.int .i64 (k : Int))) (some (.int .i64 (k : Int)))).run Tryz.prog W = .ok (.slice (some ⟨b, off, none⟩) k k) W := by
  rw [run_slice_hm (P := Tryz.prog) W 52 (some ⟨b, off, none⟩) N c (by rw [int_elem']; exact Tryz.underlying52) .i64 .i64 (k : Int) (k : Int) (by omega) (by omega) (by omega)]
  have hs : (sizeOf (Tryz.prog.elem 52)).run Tryz.prog W = .ok 1 W := by rw [int_elem']; kernel_rfl
  rw [hs, Int.toNat_natCast]
  simp [Result.andThen, sliced, Addr.add]
theorem slice_three (b off N c k m : Nat) (hm : 0 < m) (h : k + m ≤ c) (W : World) :
    (Instr.slice 52 (.slice (some ⟨b, off, none⟩) N c) (some (.int .i64 (k : Int))) (some (.int .i64 ((k : Int) + (m : Int)))) (some (.int .i64 ((k : Int) + (m : Int))))).run Tryz.prog W = .ok (.slice (some ⟨b, off + k, none⟩) m m) W := by
  rw [run_slice_lhm (P := Tryz.prog) W 52 (some ⟨b, off, none⟩) N c (by rw [int_elem']; exact Tryz.underlying52) .i64 .i64 .i64 (k : Int) ((k : Int) + (m : Int)) ((k : Int) + (m : Int)) (by omega) (by omega) (by omega) (by omega)]
  have hs : (sizeOf (Tryz.prog.elem 52)).run Tryz.prog W = .ok 1 W := by rw [int_elem']; kernel_rfl
  rw [hs, show ((k : Int) + (m : Int)).toNat = k + m by omega, Int.toNat_natCast]
  show Result.ok (sliced (some ⟨b, off, none⟩) k (k + m) (k + m) 1) W = _
  unfold sliced
  rw [if_neg (by omega), Nat.add_sub_cancel_left]
  simp [Addr.add]

set_option maxRecDepth 100000 in
set_option maxHeartbeats 1600000 in
theorem parts_any (b off N cap : Nat) (ns : List Nat) (v : Value) (w : World) (hr : Row w v (ns.map fun n : Nat => (n : Int))) (hpos : ∀ n ∈ ns, 0 < n) (hsum : ns.sum ≤ N) (hcap : N ≤ cap) (hk : ns.length ≤ 1000) :
    Calls Tryz.prog 125 #[.slice (some ⟨b, off, none⟩) N cap, v] w fun e w' => ∃ p c, e = .returned (.slice p ns.length c) ∧ RowK encP 1 w' (.slice p ns.length c) (Sg.partsL b off ns) ∧ Lo w w' := by
  obtain ⟨p, c, rfl, hlen⟩ := hr.form
  have hml : (ns.map fun n : Nat => (n : Int)).length = ns.length := by simp
  rw [hml] at hr ⊢
  have HR := Lib.hid hr
  have HPos := Lib.hid (fun (k : Nat) (h : k < ns.length) => hpos (ns.getD k 0) (by simp [List.getD, List.getElem?_eq_getElem h]))
  have HSt := Lib.hid (fun (k : Nat) (h : k < ns.length) => Sg.sum_step h)
  have HSn := Lib.hid (fun (k : Nat) (h : k < ns.length) => (show Sg.partsL b off (ns.take (k + 1)) = Sg.partsL b off (ns.take k) ++ [(b, off + (ns.take k).sum, ns.getD k 0)] by rw [Sg.take_snocN h, Sg.partsL_snoc]))
  have HLe := Lib.hid (fun (k : Nat) => Sg.sum_take ns k)
  have HPl := Lib.hid (fun (k : Nat) (h : k ≤ ns.length) => (show (Sg.partsL b off (ns.take k)).length = k by rw [Sg.partsL_len, List.length_take]; omega))
  have HGet := Lib.hid (fun (k : Nat) (h : k < ns.length) => (show (ns.map fun n : Nat => (n : Int)).getD k 0 = (ns.getD k 0 : Nat) by simp [List.getD, List.getElem?_eq_getElem h]))
  have HAll : Hid (Sg.partsL b off (ns.take ns.length) = Sg.partsL b off ns) := Lib.hid (by rw [List.take_length])
  generalize hnn : ns.length = n at *
  have HNN := Lib.hid hnn
  clear hnn hr hpos hml hlen
  go_enter Tryz.func125, Tryz.ntmps125
  go_wp2_with fail
  go_loopw [0, 5, 7, 10] (fun s0 s5 _ s10 W => ∃ (k : Nat) (L : List (Nat × Nat × Nat)) (q : Option Addr) (d A : Nat), k ≤ n ∧ s10 = .int .i64 k ∧ s5 = .slice q L.length d ∧ s0 = .slice (some ⟨b, A, none⟩) (N - (ns.take k).sum) (cap - (ns.take k).sum) ∧ (k < n → A = off + (ns.take k).sum) ∧ Hid (L = Sg.partsL b off (ns.take k)) ∧ Hid (OwnK encP 52 1 W w.heap.size (.slice q L.length d) L) ∧ Hid (Lo w W)) (fun _ _ _ s10 _ => n - (intOf s10).toNat)
  case atStart => exact ⟨0, [], none, 0, off, Nat.zero_le _, rfl, rfl, by simp, by simp, Lib.hid rfl, Lib.hid (OwnK.none _ _ _ _ _), Lib.hid (Lo.refl _)⟩
  case round =>
    obtain ⟨k, L, q, d, A, hk1, rfl, rfl, rfl, hA, HT, HO, HL⟩ := hrel
    by_cases hlt : k < n
    · obtain rfl := hA hlt
      obtain ⟨bb, oo, rfl, hcell⟩ := (HR.out.lo HL.out).at_ hlt
      rw [HGet.out k hlt] at hcell
      have hp := HPos.out k hlt
      have hst := HSt.out k hlt
      have hle := HLe.out (k + 1)
      have HT2 : Hid (L ++ [(b, off + (ns.take k).sum, ns.getD k 0)] = Sg.partsL b off (ns.take (k + 1))) := Lib.hid (by rw [HSn.out k hlt, ← HT.out])
      have hLk : L.length = k := by rw [HT.out]; exact HPl.out k hk1
      have HSZ := Lib.hid HL.out.size
      generalize hS1 : (ns.take (k + 1)).sum = S1 at *
      generalize (ns.take k).sum = S at *
      generalize ns.getD k 0 = m at *
      subst hst
      have hu := fun W => slice_upto2 b (off + S) (N - S) (cap - S) m (by omega) W
      have hf := fun W => slice_from' b (off + S) (N - S) (cap - S) m (m : Int) rfl (by omega) W
      have eN : N - S - m = N - (S + m) := by omega
      have eC : cap - S - m = cap - (S + m) := by omega
      rw [eN, eC] at hf
      have HF : Hid (∃ A', (if cap - S = m then some (⟨b, off + S, none⟩ : Addr) else some ⟨b, off + S + m, none⟩) = some ⟨b, A', none⟩ ∧ (k + 1 < n → A' = off + (S + m))) := Lib.hid (by
        by_cases h : cap - S = m
        · rw [if_pos h]
          refine ⟨_, rfl, fun h2 => ?_⟩
          have h3 := HSt.out (k + 1) h2
          have h4 := HPos.out (k + 1) h2
          have h5 := HLe.out (k + 1 + 1)
          omega
        · rw [if_neg h]
          exact ⟨_, rfl, fun _ => by omega⟩)
      obtain ⟨A', hA1, hA2⟩ := HF.out
      rw [hA1] at hf
      clear HF hA1 HT hA hle eN eC
      go_wp2_with (at_builtin; refine wpList_appK _ rfl (.tmp 14) (.tmp 19) _ rfl 52 1 24 _ Tryz.underlying65 ints_info rfl (by omega) (by omega) encP_len encP_one w.heap.size (.slice q L.length d) L rfl (OwnK.lo HO.out ((Lo.refl _).alloc _)) _ [(b, off + S, m)] rfl (prow1 _ b (off + S) m _) (by simp; omega) (by have := HSZ.out; simp; omega) ?_; intro q1 d1 w3 hown hlo; have HO3 := Lib.hid hown; have HL3 := Lib.hid (hlo w (HL.out.alloc _) (Nat.le_refl _)); clear hown hlo)
      go_roundw
      case rel => exact ⟨k + 1, L ++ [(b, off + S, m)], q1, d1, A', by omega, by go_num, by simp [hLk], by rw [hS1], by rw [hS1]; exact hA2, HT2, by simpa using HO3, HL3⟩
      case measure => simp [intOf]; omega
    · obtain rfl : k = n := by omega
      have HE : Hid (L = Sg.partsL b off ns) := Lib.hid (by rw [HT.out, HAll.out])
      have hLk : L.length = k := by rw [HT.out]; exact HPl.out k hk1
      go_wp2_with fail
      go_ret
      rw [hLk]
      exact ⟨q, d, rfl, by rw [← HE.out]; rw [hLk] at HO; exact OwnK.row encP_len HO.out, HL.out⟩

theorem rowSix (w : World) (B : Nat) (hB : B = w.heap.size) (a b c d e f : Int) : Row (w.alloc (.cells #[.int .i64 a, .int .i64 b, .int .i64 c, .int .i64 d, .int .i64 e, .int .i64 f] 3)) (.slice (some ⟨B, 0, none⟩) 6 6) [a, b, c, d, e, f] :=
  hB ▸ .inr ⟨w.heap.size, 0, 6, rfl, by simp, by simp, by simp, fun i hi => by
    obtain rfl | rfl | rfl | rfl | rfl | rfl : i = 0 ∨ i = 1 ∨ i = 2 ∨ i = 3 ∨ i = 4 ∨ i = 5 := by simp at hi; omega
    all_goals simp [go_sem]⟩
theorem PRow.six {w : World} {p : Option Addr} {c b : Nat} {o0 o1 o2 o3 o4 o5 n0 n1 n2 n3 n4 n5 : Nat} (h : RowK encP 1 w (.slice p 6 c) [(b, o0, n0), (b, o1, n1), (b, o2, n2), (b, o3, n3), (b, o4, n4), (b, o5, n5)]) :
    ∃ g off, p = some ⟨g, off, none⟩ ∧ w.cell? ⟨g, off, none⟩ = some (.slice (some ⟨b, o0, none⟩) n0 n0) ∧ w.cell? ⟨g, off + 1, none⟩ = some (.slice (some ⟨b, o1, none⟩) n1 n1) ∧ w.cell? ⟨g, off + 3, none⟩ = some (.slice (some ⟨b, o3, none⟩) n3 n3) ∧ w.cell? ⟨g, off + 4, none⟩ = some (.slice (some ⟨b, o4, none⟩) n4 n4) ∧ w.cell? ⟨g, off + 5, none⟩ = some (.slice (some ⟨b, o5, none⟩) n5 n5) := by
  rcases h with ⟨_, _, h1, _, h2⟩ | ⟨g, off, cap, h1, h2, h2b, h3, h4⟩
  · cases h2
  · injection h1 with hp _ _
    refine ⟨g, off, hp, ?_, ?_, ?_, ?_, ?_⟩
    · have := h4 0 _ rfl 0 (by omega); simpa [encP] using this
    · have := h4 1 _ rfl 0 (by omega); simpa [encP] using this
    · have := h4 3 _ rfl 0 (by omega); simpa [encP] using this
    · have := h4 4 _ rfl 0 (by omega); simpa [encP] using this
    · have := h4 5 _ rfl 0 (by omega); simpa [encP] using this

/-- A table of five parts of a block. -/
def aggT5 (b o0 o1 o2 o3 o4 n m : Nat) : Value := .agg #[.slice (some ⟨b, o0, none⟩) 7 7, .slice (some ⟨b, o1, none⟩) n n, .slice (some ⟨b, o2, none⟩) n n, .slice (some ⟨b, o3, none⟩) n n, .slice (some ⟨b, o4, none⟩) m m]

theorem six_parts {n m : Nat} (h1 : 1 ≤ n) (h2 : n ≤ m) : (∀ x ∈ [7, n, 1, n, n, m], 0 < x) ∧ [7, n, 1, n, n, m].sum = 8 + 3 * n + m := by
  refine ⟨fun x hx => ?_, ?_⟩
  · simp only [List.mem_cons, List.not_mem_nil, or_false] at hx
    omega
  · simp only [List.sum_cons, List.sum_nil]
    omega

set_option maxRecDepth 100000 in
set_option maxHeartbeats 1600000 in
theorem cut_any (b off cap n m : Nat) (w : World) (h1 : 1 ≤ n) (h2 : n ≤ m) (hcap : 8 + 3 * n + m ≤ cap) (hN : m ≤ 10000000) :
    Calls Tryz.prog 93 #[.slice (some ⟨b, off, none⟩) (8 + 3 * n + m) cap, .int .i64 (n : Int)] w fun e w' => e = .returned (aggT5 b off (off + 7) (off + (8 + n)) (off + (8 + 2 * n)) (off + (8 + 3 * n)) n m) ∧ Lo w w' := by
  obtain ⟨q1, q2⟩ := six_parts h1 h2
  have HP := Lib.hid (fun (v : Value) (W : World) (hr : Row W v [7, (n : Int), 1, (n : Int), (n : Int), (m : Int)]) => parts_any b off (8 + 3 * n + m) cap [7, n, 1, n, n, m] v W hr q1 (Nat.le_of_eq q2) hcap (by simp))
  clear q1 q2
  simp only [List.length_cons, List.length_nil, Nat.zero_add, Nat.reduceAdd, Sg.partsL] at HP
  rw [show off + 7 + n + 1 = off + (8 + n) by omega, show off + (8 + n) + n = off + (8 + 2 * n) by omega, show off + (8 + 2 * n) + n = off + (8 + 3 * n) by omega] at HP
  have em : ((8 + 3 * n + m : Nat) : Int) - 7 - 1 - 3 * (n : Int) = (m : Int) := by omega
  unfold aggT5
  generalize off + (8 + n) = o2 at *
  generalize off + (8 + 2 * n) = o3 at *
  generalize off + (8 + 3 * n) = o4 at *
  generalize hN2 : 8 + 3 * n + m = N at *
  go_enter Tryz.func93, Tryz.ntmps93
  go_wp2_with fail
  refine (HP.out _ _ (rowSix (w.alloc (.cells #[.slice none 0 0, .slice none 0 0, .slice none 0 0, .slice none 0 0, .slice none 0 0] 106)) _ (by simp) _ _ _ _ _ _)).mono ?_
  rintro e w2 ⟨p, c, rfl, hrow, lo⟩
  have HL := Lib.hid ((((Lo.refl w).alloc _).alloc _).trans lo)
  have HB := Lib.hid (lo_block (((Lo.refl _).alloc _).trans lo) (new_block w _))
  obtain ⟨g, go, rfl, r0, r1, r3, r4, r5⟩ := PRow.six hrow
  clear hrow lo HP
  go_wp2_with fail
  go_still_tail 16, (by kernel_rfl)
  change wpList _ _ _ _ _ w2.drew
  generalize hw : w2.drew = w3
  have HL2 : Hid (Lo w w3) := Lib.hid (by rw [← hw]; exact HL.out.drew)
  obtain ⟨⟨s0, s1, s2, s3, s4⟩, q0, q1, q2, q3, q4⟩ := five_at (lo_block (w' := w3) (by rw [← hw]; exact (Lo.refl w2).drew) HB.out)
  clear hw HB HL r0 r1 r3 r4 r5
  go_wp2_with fail
  refine bodyPost_ret (v := .agg #[.slice (some ⟨b, off, none⟩) 7 7, .slice (some ⟨b, off + 7, none⟩) n n, .slice (some ⟨b, o2, none⟩) n n, .slice (some ⟨b, o3, none⟩) n n, .slice (some ⟨b, o4, none⟩) m m]) ?_ rfl ⟨rfl, ?_⟩
  · simp [results, Tryz.results93, go_sem, s0, s1, s2, s3, s4]
  · exact Lo.set5 HL2.out (Nat.le_refl _) _ _ _ _ _
end Go.Proofs.YtppihpjcdieeoaaGreatDoor
/-
  caught[string]: what a call that may panic tells. No conditions beyond those stated.
-/
namespace Go.Proofs.YtppihpjcdieeoaaGreatDoor
open Go.RowKit

set_option maxHeartbeats 400000 in
theorem scatch_panicking (q : Addr) (y k : Int) (older : List PanicEntry) (w : World) (hd : w.cell? q = some (.int .i64 y)) (hy : w.frozen? q = false) :
    CallsD Tryz.prog 148 #[.pointer (some q)] (.panicking ({ v := .iface 24 (.int .i64 k), recovered := false } :: older)) w fun e u' w' =>
      e = .returned (.tuple #[]) ∧ u' = .panicking ({ v := .iface 24 (.int .i64 k), recovered := true } :: older) ∧ w' = w.setCell q (.int .i64 k) := by
  have ta := ta_hit
  refine callsD_of_wpS Tryz.func148 rfl fun c₀ cs hu => ?_
  apply wpS_seq
  apply wpS_region
  simp [wpOpsS, go_sem, recoverD, hu, Tryz.ntmps148, Exit.thenS, ta]
  apply wpS_seq
  apply wpS_region
  simp [wpOpsS, go_sem, Exit.thenS]
  refine wpS_cond (t := true) (by simp [Act.eval]) ?_
  simp only [if_true]
  apply wpS_region
  simp [wpOpsS, go_sem, hd, hy, bodyPostS, results, Tryz.results148]

set_option maxHeartbeats 400000 in
theorem scatch_idle (q : Addr) (w : World) :
    CallsD Tryz.prog 148 #[.pointer (some q)] .returning w fun e u' w' => e = .returned (.tuple #[]) ∧ u' = .returning ∧ w' = w := by
  have ta := ta_nil
  refine callsD_of_wpS Tryz.func148 rfl fun c₀ cs hu => ?_
  apply wpS_seq
  apply wpS_region
  simp [wpOpsS, go_sem, recoverD, hu, Tryz.ntmps148, Exit.thenS, ta]
  apply wpS_seq
  apply wpS_region
  simp [wpOpsS, go_sem, Exit.thenS]
  refine wpS_cond (t := false) (by simp [Act.eval]) ?_
  simp only [Bool.false_eq_true, if_false]
  refine wpS_of_wp (wp_skip ?_)
  cases c₀
  simp_all [bodyPostS, results, Tryz.results148]

set_option maxHeartbeats 400000 in
theorem scaught_ret (g : Nat) (caps : Array Value) (w : World) (R : World → Value → Prop) (hent : ∀ W : World, (callFunc g caps).run Tryz.prog W = .ok (.enter g caps) W)
    (hwork : Calls Tryz.prog g caps (boxed w) fun e w' => ∃ v, e = .returned v ∧ R w' v ∧ Lo (boxed w) w') (hR : ∀ w' v u, R w' v → R (w'.setCell ⟨w.heap.size, 0, none⟩ u) v) :
    Calls Tryz.prog 140 #[.func (.func g) #[] caps] w fun e w' => ∃ v, e = .returned (.tuple #[v, .int .i64 0]) ∧ R w' v ∧ Lo w w' := by
  have hmf : ∀ (fn : Fn) (first cap : Array Value) (w : World), (Instr.makeFunc fn first cap).run Tryz.prog w = .ok (.func fn first cap) w := fun _ _ _ _ => rfl
  have HW := Lib.hid hwork
  clear hwork
  go_enter_defers Tryz.func140, Tryz.ntmps140
  go_wp2_with fail
  refine HW.out.mono ?_
  rintro e w1 ⟨v, rfl, hr, hlo⟩
  obtain ⟨hz, hc, hsz, hlw⟩ := boxed_facts hlo
  have HR := Lib.hid hr
  clear hlo HW hr
  go_wp2_with fail
  refine leaves_cons (f := 148) (args := #[.pointer (some ⟨w.heap.size, 0, none⟩)]) (by simp) (by simp [go_sem]) ?_
  refine (scatch_idle ⟨w.heap.size, 0, none⟩ _).mono ?_
  rintro e u' w'' ⟨rfl, rfl, rfl⟩
  simp [Leaves, settle, results, Tryz.results140, go_sem, hc]
  exact ⟨hR _ _ _ HR.out, hlw.set (by simp) _⟩

set_option maxHeartbeats 400000 in
theorem scaught_raised (g : Nat) (caps : Array Value) (k : Int) (w : World) (hent : ∀ W : World, (callFunc g caps).run Tryz.prog W = .ok (.enter g caps) W)
    (hwork : Calls Tryz.prog g caps (boxed w) fun e w' => e = .panicked (raise k) ∧ Lo (boxed w) w') :
    Calls Tryz.prog 140 #[.func (.func g) #[] caps] w fun e w' => e = .returned (.tuple #[.string ⟨#[]⟩, .int .i64 k]) ∧ Lo w w' := by
  have hmf : ∀ (fn : Fn) (first cap : Array Value) (w : World), (Instr.makeFunc fn first cap).run Tryz.prog w = .ok (.func fn first cap) w := fun _ _ _ _ => rfl
  have HW := Lib.hid hwork
  clear hwork
  go_enter_defers Tryz.func140, Tryz.ntmps140
  go_wp2_with fail
  refine HW.out.mono ?_
  rintro e w1 ⟨rfl, hlo⟩
  obtain ⟨hz, hc, hsz, hlw⟩ := boxed_facts hlo
  clear hlo HW
  go_wp2_with fail
  refine leaves_cons (f := 148) (args := #[.pointer (some ⟨w.heap.size, 0, none⟩)]) (by simp) (by simp [go_sem]) ?_
  refine (scatch_panicking ⟨w.heap.size, 0, none⟩ 0 k [] _ hc hz).mono ?_
  rintro e u' w'' ⟨rfl, rfl, rfl⟩
  simp [Leaves, settle, results, Tryz.results140, go_sem, hc]
  exact hlw.set (by simp) _
end Go.Proofs.YtppihpjcdieeoaaGreatDoor
