/-
  Contracts of chart.getSmall, getTrimmed and Get. No conditions beyond those stated.
-/
import Derived.Test.YtjfobpbnofjjdaaChRep
namespace Go.Proofs.Ytjfobpbnofjjdaa
open Go.RowKit

set_option maxRecDepth 100000 in
set_option maxHeartbeats 1600000 in
theorem getSmall_any (s : List UInt8) (n : Int) (w : World) (hs : s.length ≤ 9223372036854775807) : Calls Try.prog 23 #[.string ⟨s.toArray⟩, .int .i64 n] w (GotSp (Ch.getS s n) w) := by
  by_cases hn : n = 262
  · subst hn
    have HM := Lib.hid (fun W => repeated_any 1 256 W (by omega))
    have HG := Lib.hid (fun (W : World) (v : Value) (hr : Row W v (List.replicate 256 1)) => get_any s 6 v _ W hr (by rw [List.length_replicate]; omega) hs (by omega))
    have hb : Bn.get s 6 (List.replicate 256 1) = if s.length < 6 + 1 * 256 then ([], 4) else ((List.range 256).map fun i => He.fld s (6 + 1 * i) 1, 0) := Ch.bget_rep s 6 256 (size := 1) (by decide)
    have HSp := Lib.hid (fun (W : World) (v : Value) (gs : List Int) (hg : gs.length = 256) (hr : Row W v gs) => spans_any 0 gs v W hr (by omega) (by omega) (by omega))
    rw [hb] at HG
    unfold Many at HM
    rcases Nat.lt_or_ge s.length 262 with h | h
    · have HE : Hid (Ch.getS s 262 = ([], 4)) := Lib.hid (by unfold Ch.getS; rw [if_neg (by simp), if_pos h])
      rw [if_pos (by omega)] at HG
      generalize Ch.getS s 262 = y at *
      unfold GotRow at HG
      go_enter Try.func23, Try.ntmps23
      go_wp2_with fail
      refine (HM.out _).mono ?_
      rintro e w1 ⟨p, c, rfl, hr, lo⟩
      have HL := Lib.hid lo
      have HR := Lib.hid hr
      clear lo hr HM
      go_wp2_with fail
      refine (HG.out _ _ HR.out).mono ?_
      rintro e w2 ⟨p2, c2, rfl, _, lo⟩
      have HL := Lib.hid (HL.out.trans lo)
      clear lo HR HG
      go_wp2_with fail
      go_ret2
      rw [HE.out]
      exact GotSp.nil rfl HL.out
    · have HE : Hid (Ch.getS s 262 = (Ch.spansL 0 ((List.range 256).map fun i => He.fld s (6 + 1 * i) 1), 0)) := Lib.hid (by unfold Ch.getS; rw [if_neg (by simp), if_neg (by omega)])
      rw [if_neg (by omega)] at HG
      generalize Ch.getS s 262 = y at *
      have hgl : ((List.range 256).map fun i => He.fld s (6 + 1 * i) 1).length = 256 := by simp
      have HGL := Lib.hid hgl
      unfold GotRow at HG
      generalize (List.range 256).map (fun i => He.fld s (6 + 1 * i) 1) = gs at *
      dsimp only at HG
      rw [hgl] at HG
      clear hgl hb
      go_enter Try.func23, Try.ntmps23
      go_wp2_with fail
      refine (HM.out _).mono ?_
      rintro e w1 ⟨p, c, rfl, hr, lo⟩
      have HL := Lib.hid lo
      have HR := Lib.hid hr
      clear lo hr HM
      go_wp2_with fail
      refine (HG.out _ _ HR.out).mono ?_
      rintro e w2 ⟨p2, c2, rfl, hr, lo⟩
      have HL := Lib.hid (HL.out.trans lo)
      have HR := Lib.hid hr
      clear lo hr HG
      go_wp2_with fail
      refine (HSp.out _ _ gs HGL.out HR.out).mono ?_
      rintro e w3 ⟨p3, c3, rfl, hr, lo⟩
      have HL := Lib.hid (HL.out.trans lo)
      have HR := Lib.hid hr
      clear lo hr HSp
      go_wp2_with fail
      go_ret2
      rw [HE.out]
      exact ⟨p3, c3, rfl, HR.out, HL.out⟩
  · have HE : Hid (Ch.getS s n = ([], 5)) := Lib.hid (by unfold Ch.getS; rw [if_pos hn])
    generalize Ch.getS s n = y at *
    go_enter Try.func23, Try.ntmps23
    go_wp2_with fail
    go_ret2
    rw [HE.out]
    exact GotSp.nil rfl (Lo.refl _)

theorem Row.two' {w : World} {p : Option Addr} {c : Nat} {x0 x1 : Int} (h : Row w (.slice p 2 c) [x0, x1]) :
    ∃ b off, p = some ⟨b, off, none⟩ ∧ w.cell? ⟨b, off, none⟩ = some (.int .i64 x0) ∧ w.cell? ⟨b, off + 1, none⟩ = some (.int .i64 x1) := by
  obtain ⟨b, off, rfl, h0⟩ := h.at_ (k := 0) (by omega)
  obtain ⟨b1, off1, e1, h1⟩ := h.at_ (k := 1) (by omega)
  simp only [Option.some.injEq, Addr.mk.injEq, and_true] at e1
  obtain ⟨rfl, rfl⟩ := e1
  exact ⟨b, off, rfl, h0, h1⟩

set_option maxRecDepth 100000 in
set_option maxHeartbeats 3200000 in
theorem getTrimmed_any (s : List UInt8) (n : Int) (w : World) (hs : s.length ≤ 9223372036854775807) : Calls Try.prog 24 #[.string ⟨s.toArray⟩, .int .i64 n] w (GotSp (Ch.getT s n) w) := by
  have HG := Lib.hid (fun (W : World) (v : Value) (hr : Row W v [2, 2]) => get_any s 6 v _ W hr (by simp) hs (by omega))
  have hb : Bn.get s 6 [2, 2] = if s.length < 6 + 4 then ([], 4) else ([He.fld s 6 2, He.fld s (6 + 2) 2], 0) := Ch.bget_two s 6
  rw [hb] at HG
  clear hb
  unfold GotRow at HG
  rcases Nat.lt_or_ge s.length 10 with h | h
  · have HE : Hid (Ch.getT s n = ([], 4)) := Lib.hid (by unfold Ch.getT; rw [if_pos h])
    rw [if_pos (by omega)] at HG
    generalize Ch.getT s n = y at *
    go_enter Try.func24, Try.ntmps24
    go_wp2_with fail
    refine (HG.out _ _ (row2 w _ rfl 2 2)).mono ?_
    rintro e w1 ⟨p, c, rfl, _, lo⟩
    have HL := Lib.hid (((Lo.refl w).alloc _).trans lo)
    clear lo HG
    go_wp2_with fail
    go_ret2
    rw [HE.out]
    exact GotSp.nil rfl HL.out
  · rw [if_neg (by omega)] at HG
    simp only [List.length_cons, List.length_nil, Nat.zero_add] at HG
    have b6 := Ch.fld_bound s 6
    have b8 := Ch.fld_bound s 8
    have HM := Lib.hid (fun W => repeated_any 2 (He.fld s 8 2).toNat W (by omega))
    have HG2 := Lib.hid (fun (W : World) (v : Value) (hr : Row W v (List.replicate (He.fld s 8 2).toNat 2)) => get_any s 10 v _ W hr (by rw [List.length_replicate]; omega) hs (by omega))
    have hb : Bn.get s 10 (List.replicate (He.fld s 8 2).toNat 2) = if s.length < 10 + 2 * (He.fld s 8 2).toNat then ([], 4) else ((List.range (He.fld s 8 2).toNat).map fun i => He.fld s (10 + 2 * i) 2, 0) := Ch.bget_rep s 10 _ (size := 2) (by decide)
    rw [hb] at HG2
    clear hb
    have HE : Hid (Ch.getT s n = if n ≠ 10 + 2 * He.fld s 8 2 then ([], 5)
      else if s.length < 10 + 2 * (He.fld s 8 2).toNat then ([], 4)
      else if 65536 < He.fld s 6 2 + He.fld s 8 2 then ([], 5)
      else (Ch.spansL (He.fld s 6 2) ((List.range (He.fld s 8 2).toNat).map fun i => He.fld s (10 + 2 * i) 2), 0)) := Lib.hid (by unfold Ch.getT; rw [if_neg (by omega)])
    generalize Ch.getT s n = y at *
    have hgl : ((List.range (He.fld s 8 2).toNat).map fun i => He.fld s (10 + 2 * i) 2).length = (He.fld s 8 2).toNat := by simp
    generalize (List.range (He.fld s 8 2).toNat).map (fun i => He.fld s (10 + 2 * i) 2) = gs at *
    generalize He.fld s 6 2 = x0 at *
    generalize He.fld s 8 2 = x1 at *
    obtain ⟨m, rfl⟩ := Int.eq_ofNat_of_zero_le b8.1
    simp only [Int.toNat_natCast] at *
    have HSp := Lib.hid (fun (W : World) (v : Value) (hr : Row W v gs) => spans_any x0 gs v W hr (by omega) (by omega) (by omega))
    unfold Many at HM
    unfold GotRow at HG2
    by_cases h1 : n = 10 + 2 * (m : Int)
    · subst h1
      rcases Nat.lt_or_ge s.length (10 + 2 * m) with h2 | h2
      · have HE : Hid (y = ([], 4)) := Lib.hid (by rw [HE.out, if_neg (by simp), if_pos h2])
        rw [if_pos h2] at HG2
        clear HSp
        go_enter Try.func24, Try.ntmps24
        go_wp2_with fail
        refine (HG.out _ _ (row2 w _ rfl 2 2)).mono ?_
        rintro e w1 ⟨p, c, rfl, hr, lo⟩
        have HL := Lib.hid (((Lo.refl w).alloc _).trans lo)
        obtain ⟨b, off, rfl, r0, r1⟩ := Row.two' hr
        clear lo HG hr
        go_wp2_with fail
        go_quiet (fail)
        have HL := Lib.hid (HL.out.drewN nq)
        clear r0 r1
        go_wp2_with fail
        refine (HM.out _).mono ?_
        rintro e w2 ⟨p2, c2, rfl, hr, lo⟩
        have HL := Lib.hid (HL.out.trans lo)
        have HR := Lib.hid hr
        clear lo hr HM
        go_wp2_with fail
        refine (HG2.out _ _ HR.out).mono ?_
        rintro e w3 ⟨p3, c3, rfl, hr, lo⟩
        have HL := Lib.hid (HL.out.trans lo)
        clear lo hr HG2 HR
        go_wp2_with fail
        go_ret2
        rw [HE.out]
        exact GotSp.nil rfl HL.out
      · rw [if_neg (by omega)] at HG2
        dsimp only at HG2
        rw [hgl] at HG2
        by_cases h3 : 65536 < x0 + (m : Int)
        · have HE : Hid (y = ([], 5)) := Lib.hid (by rw [HE.out, if_neg (by simp), if_neg (by omega), if_pos h3])
          clear HSp
          go_enter Try.func24, Try.ntmps24
          go_wp2_with fail
          refine (HG.out _ _ (row2 w _ rfl 2 2)).mono ?_
          rintro e w1 ⟨p, c, rfl, hr, lo⟩
          have HL := Lib.hid (((Lo.refl w).alloc _).trans lo)
          obtain ⟨b, off, rfl, r0, r1⟩ := Row.two' hr
          clear lo HG hr
          go_wp2_with fail
          go_quiet (fail)
          have HL := Lib.hid (HL.out.drewN nq)
          clear r0 r1
          go_wp2_with fail
          refine (HM.out _).mono ?_
          rintro e w2 ⟨p2, c2, rfl, hr, lo⟩
          have HL := Lib.hid (HL.out.trans lo)
          have HR := Lib.hid hr
          clear lo hr HM
          go_wp2_with fail
          refine (HG2.out _ _ HR.out).mono ?_
          rintro e w3 ⟨p3, c3, rfl, hr, lo⟩
          have HL := Lib.hid (HL.out.trans lo)
          clear lo hr HG2 HR
          go_wp2_with fail
          go_ret2
          rw [HE.out]
          exact GotSp.nil rfl HL.out
        · have HE : Hid (y = (Ch.spansL x0 gs, 0)) := Lib.hid (by rw [HE.out, if_neg (by simp), if_neg (by omega), if_neg h3])
          go_enter Try.func24, Try.ntmps24
          go_wp2_with fail
          refine (HG.out _ _ (row2 w _ rfl 2 2)).mono ?_
          rintro e w1 ⟨p, c, rfl, hr, lo⟩
          have HL := Lib.hid (((Lo.refl w).alloc _).trans lo)
          obtain ⟨b, off, rfl, r0, r1⟩ := Row.two' hr
          clear lo HG hr
          go_wp2_with fail
          go_quiet (fail)
          have HL := Lib.hid (HL.out.drewN nq)
          clear r0 r1
          go_wp2_with fail
          refine (HM.out _).mono ?_
          rintro e w2 ⟨p2, c2, rfl, hr, lo⟩
          have HL := Lib.hid (HL.out.trans lo)
          have HR := Lib.hid hr
          clear lo hr HM
          go_wp2_with fail
          refine (HG2.out _ _ HR.out).mono ?_
          rintro e w3 ⟨p3, c3, rfl, hr, lo⟩
          have HL := Lib.hid (HL.out.trans lo)
          have HR := Lib.hid hr
          clear lo hr HG2
          go_wp2_with fail
          refine (HSp.out _ _ HR.out).mono ?_
          rintro e w4 ⟨p4, c4, rfl, hr, lo⟩
          have HL := Lib.hid (HL.out.trans lo)
          have HR := Lib.hid hr
          clear lo hr HSp
          go_wp2_with fail
          go_ret2
          rw [HE.out]
          exact ⟨p4, c4, rfl, HR.out, HL.out⟩
    · have HE : Hid (y = ([], 5)) := Lib.hid (by rw [HE.out, if_pos h1])
      clear HSp HG2 HM
      go_enter Try.func24, Try.ntmps24
      go_wp2_with fail
      refine (HG.out _ _ (row2 w _ rfl 2 2)).mono ?_
      rintro e w1 ⟨p, c, rfl, hr, lo⟩
      have HL := Lib.hid (((Lo.refl w).alloc _).trans lo)
      obtain ⟨b, off, rfl, r0, r1⟩ := Row.two' hr
      clear lo HG hr
      go_wp2_with fail
      go_quiet (fail)
      have HL := Lib.hid (HL.out.drewN nq)
      clear r0 r1
      go_wp2_with fail
      go_ret2
      rw [HE.out]
      exact GotSp.nil rfl HL.out

set_option maxRecDepth 100000 in
set_option maxHeartbeats 1600000 in
theorem cget_any (s : List UInt8) (w : World) (hs : s.length ≤ 9223372036854775807) : Calls Try.prog 9 #[.string ⟨s.toArray⟩] w (GotSp (Ch.get s) w) := by
  have HG := Lib.hid (fun (W : World) (v : Value) (hr : Row W v [2, 2]) => get_any s 0 v _ W hr (by simp) hs (by omega))
  have hb : Bn.get s 0 [2, 2] = if s.length < 0 + 4 then ([], 4) else ([He.fld s 0 2, He.fld s (0 + 2) 2], 0) := Ch.bget_two s 0
  rw [hb] at HG
  clear hb
  unfold GotRow at HG
  rcases Nat.lt_or_ge s.length 4 with h | h
  · have HE : Hid (Ch.get s = ([], 4)) := Lib.hid (Ch.get_more h)
    rw [if_pos (by omega)] at HG
    generalize Ch.get s = y at *
    go_enter Try.func9, Try.ntmps9
    go_wp2_with fail
    refine (HG.out _ _ (row2 w _ rfl 2 2)).mono ?_
    rintro e w1 ⟨p, c, rfl, _, lo⟩
    have HL := Lib.hid (((Lo.refl w).alloc _).trans lo)
    clear lo HG
    go_wp2_with fail
    go_ret2
    rw [HE.out]
    exact GotSp.nil rfl HL.out
  · rw [if_neg (by omega)] at HG
    simp only [List.length_cons, List.length_nil, Nat.zero_add] at HG
    have HS := Lib.hid (fun W => getSmall_any s (He.fld s 2 2) W hs)
    have HT := Lib.hid (fun W => getTrimmed_any s (He.fld s 2 2) W hs)
    have HE0 := Lib.hid (fun h0 => Ch.get_zero h h0)
    have HE6 := Lib.hid (fun h0 => Ch.get_six h h0)
    have HE5 := Lib.hid (fun h0 h6 => Ch.get_form5 h h0 h6)
    generalize Ch.get s = y at *
    generalize Ch.getS s (He.fld s 2 2) = y0 at *
    generalize Ch.getT s (He.fld s 2 2) = y6 at *
    generalize He.fld s 0 2 = f at *
    generalize He.fld s 2 2 = n at *
    unfold GotSp at HS HT
    by_cases h0 : f = 0
    · subst h0
      have HE := Lib.hid (HE0.out rfl)
      clear HE0 HE6 HE5 HT
      go_enter Try.func9, Try.ntmps9
      go_wp2_with fail
      refine (HG.out _ _ (row2 w _ rfl 2 2)).mono ?_
      rintro e w1 ⟨p, c, rfl, hr, lo⟩
      have HL := Lib.hid (((Lo.refl w).alloc _).trans lo)
      obtain ⟨b, off, rfl, r0, r1⟩ := Row.two' hr
      clear lo HG hr
      go_wp2_with fail
      go_quiet (fail)
      have HL := Lib.hid (HL.out.drewN nq)
      clear r0 r1
      go_wp2_with fail
      refine (HS.out _).mono ?_
      rintro e w2 ⟨p2, c2, rfl, hr, lo⟩
      have HL := Lib.hid (HL.out.trans lo)
      have HR := Lib.hid hr
      clear lo hr HS
      go_wp2_with fail
      go_ret2
      rw [HE.out]
      exact ⟨p2, c2, rfl, HR.out, HL.out⟩
    · by_cases h6 : f = 6
      · subst h6
        have HE := Lib.hid (HE6.out rfl)
        clear HE0 HE6 HE5 HS
        go_enter Try.func9, Try.ntmps9
        go_wp2_with fail
        refine (HG.out _ _ (row2 w _ rfl 2 2)).mono ?_
        rintro e w1 ⟨p, c, rfl, hr, lo⟩
        have HL := Lib.hid (((Lo.refl w).alloc _).trans lo)
        obtain ⟨b, off, rfl, r0, r1⟩ := Row.two' hr
        clear lo HG hr
        go_wp2_with fail
        go_quiet (fail)
        have HL := Lib.hid (HL.out.drewN nq)
        clear r0 r1
        go_wp2_with fail
        refine (HT.out _).mono ?_
        rintro e w2 ⟨p2, c2, rfl, hr, lo⟩
        have HL := Lib.hid (HL.out.trans lo)
        have HR := Lib.hid hr
        clear lo hr HT
        go_wp2_with fail
        go_ret2
        rw [HE.out]
        exact ⟨p2, c2, rfl, HR.out, HL.out⟩
      · have HE := Lib.hid (HE5.out h0 h6)
        clear HE0 HE6 HE5 HS HT
        go_enter Try.func9, Try.ntmps9
        go_wp2_with fail
        refine (HG.out _ _ (row2 w _ rfl 2 2)).mono ?_
        rintro e w1 ⟨p, c, rfl, hr, lo⟩
        have HL := Lib.hid (((Lo.refl w).alloc _).trans lo)
        obtain ⟨b, off, rfl, r0, r1⟩ := Row.two' hr
        clear lo HG hr
        go_wp2_with fail
        go_quiet (fail)
        have HL := Lib.hid (HL.out.drewN nq)
        clear r0 r1
        go_wp2_with fail
        go_ret2
        rw [HE.out]
        exact GotSp.nil rfl HL.out
end Go.Proofs.Ytjfobpbnofjjdaa
