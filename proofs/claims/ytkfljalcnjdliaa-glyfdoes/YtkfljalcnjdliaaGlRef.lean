/-
  Contracts of the document's answers for layer 7: Is, place and one of the references. No conditions beyond those stated.
-/
import Derived.Test.YtkfljalcnjdliaaGlSame
import Derived.Test.YtkfljalcnjdliaaBnRefW
import Derived.Deep.RegionHeld3
namespace Gl
open Bn He
theorem fits_short (v : Int) : fits v (-2) = short v := by
  unfold fits short
  rw [if_pos (by decide), Bool.eq_iff_iff]
  simp
  omega
theorem isExt_no {x0 y0 x1 y1 : Int} {k : Nat} (hk : k < 4) (h : fits ([x0, y0, x1, y1].getD k 0) (-2) = false) : isExt ⟨true, x0, y0, x1, y1⟩ = false := by
  rw [fits_short] at h
  unfold isExt
  rw [if_pos rfl]
  obtain rfl | rfl | rfl | rfl : k = 0 ∨ k = 1 ∨ k = 2 ∨ k = 3 := by omega
  all_goals
    simp only [List.getD, List.getElem?_cons_zero, List.getElem?_cons_succ, Option.getD_some] at h
    rw [h]; simp
theorem isExt_yes {x0 y0 x1 y1 : Int} (h : ∀ k, k < 4 → fits ([x0, y0, x1, y1].getD k 0) (-2) = true) : isExt ⟨true, x0, y0, x1, y1⟩ = (decide (x0 ≤ x1) && decide (y0 ≤ y1)) := by
  have h0 : short x0 = true := by rw [← fits_short]; exact h 0 (by omega)
  have h1 : short y0 = true := by rw [← fits_short]; exact h 1 (by omega)
  have h2 : short x1 = true := by rw [← fits_short]; exact h 2 (by omega)
  have h3 : short y1 = true := by rw [← fits_short]; exact h 3 (by omega)
  unfold isExt
  rw [if_pos rfl, h0, h1, h2, h3]
  simp
end Gl
namespace Go.Proofs.Ytkfljalcnjdliaa
open Go.RowKit

set_option maxRecDepth 100000 in
set_option maxHeartbeats 1600000 in
theorem gris_any (x : Gl.Ext) (w : World) : Calls Try.prog 12 #[aggE x] w fun e w' => e = .returned (.bool (Gl.isExt x)) ∧ Lo w w' := by
  obtain ⟨a, x0, y0, x1, y1⟩ := x
  unfold aggE
  cases a with
  | false =>
    have HE := Lib.hid (show Gl.isExt ⟨false, x0, y0, x1, y1⟩ = (decide (x0 = 0) && decide (y0 = 0) && decide (x1 = 0) && decide (y1 = 0)) by unfold Gl.isExt; rw [if_neg (by simp)])
    generalize Gl.isExt ⟨false, x0, y0, x1, y1⟩ = y at *
    dsimp only
    go_enter Try.func12, Try.ntmps12
    go_wp2_with fail
    all_goals
      go_ret
      refine ⟨ret_bool ?_, (Lo.refl w).alloc _⟩
      rw [HE.out]
      first | rfl | (simp; done) | (simp; intros; omega) | (simp; omega)
  | true =>
    have HF := Lib.hid (fun v W => rfits_any v (-2) W (by decide))
    have HNo := Lib.hid (fun k hk => @Gl.isExt_no x0 y0 x1 y1 k hk)
    have HYes := Lib.hid (@Gl.isExt_yes x0 y0 x1 y1)
    generalize Gl.isExt ⟨true, x0, y0, x1, y1⟩ = y at *
    dsimp only
    go_enter Try.func12, Try.ntmps12
    go_wp2_with fail
    generalize hW : World.alloc _ _ = w1
    have HB : Hid (w1.heap[w.heap.size]? = some (.cells #[.bool true, .int .i64 x0, .int .i64 y0, .int .i64 x1, .int .i64 y1] 30 (0, 0))) := Lib.hid (by rw [← hW]; exact lo_block ((Lo.refl _).alloc _) (new_block w _))
    have HR : Hid (Row w1 (.slice (some ⟨w.heap.size + 1, 0, none⟩) 4 4) [x0, y0, x1, y1]) := Lib.hid (by rw [← hW]; exact row4 _ _ (by simp) x0 y0 x1 y1)
    have HL : Hid (Lo w w1) := Lib.hid (by rw [← hW]; exact ((Lo.refl w).alloc _).alloc _)
    clear hW
    go_loopw [4] (fun i W => ∃ k : Nat, k ≤ 4 ∧ i = .int .i64 k ∧ W = w1 ∧ Hid (∀ j, j < k → Bn.fits ([x0, y0, x1, y1].getD j 0) (-2) = true)) (fun i _ => 4 - (intOf i).toNat)
    case atStart => exact ⟨0, by omega, rfl, rfl, Lib.hid (by omega)⟩
    case round =>
      obtain ⟨k, hk, rfl, rfl, HP⟩ := hrel
      by_cases hlt : k < 4
      · obtain ⟨b, off, he, hc⟩ := HR.out.at_ (k := k) (by omega)
        simp only [Option.some.injEq, Addr.mk.injEq, and_true] at he
        obtain ⟨rfl, rfl⟩ := he
        rw [Nat.zero_add] at hc
        have HN := Lib.hid (HNo.out k hlt)
        have HP2 : Hid (Bn.fits ([x0, y0, x1, y1].getD k 0) (-2) = true → ∀ j, j < k + 1 → Bn.fits ([x0, y0, x1, y1].getD j 0) (-2) = true) := Lib.hid (fun h j hj => by
          rcases Nat.lt_or_ge j k with hl | hl
          · exact HP.out j hl
          · obtain rfl : j = k := by omega
            exact h)
        clear HP
        generalize [x0, y0, x1, y1].getD k 0 = z at *
        have HFz := Lib.hid (fun W => HF.out z W)
        cases hb : Bn.fits z (-2) with
        | true =>
          rw [hb] at HFz
          have HP3 := Lib.hid (HP2.out hb)
          clear hb HN HP2
          go_wp2_with fail
          refine (HFz.out _).mono ?_
          rintro e w3 ⟨rfl, rfl⟩
          go_wp2_with fail
          go_roundw
          case rel => exact ⟨k + 1, by omega, by go_num, trivial, HP3⟩
          case measure => simp [intOf]; omega
        | false =>
          rw [hb] at HFz
          have HE := Lib.hid (HN.out hb)
          clear hb HN HP2
          go_wp2_with fail
          refine (HFz.out _).mono ?_
          rintro e w3 ⟨rfl, rfl⟩
          go_wp2_with fail
          go_ret
          exact ⟨ret_bool HE.out.symm, HL.out⟩
      · obtain rfl : k = 4 := by omega
        have HE := Lib.hid (HYes.out HP.out)
        obtain ⟨⟨r0, r1, r2, r3, r4⟩, _⟩ := five_at HB.out
        rw [show ((4 : Nat) : Int) = 4 from rfl]
        by_cases c1 : x0 ≤ x1
        · go_wp2_with fail
          go_ret
          exact ⟨ret_bool (by rw [HE.out]; simp [c1]), HL.out⟩
        · go_wp2_with fail
          go_ret
          exact ⟨ret_bool (by rw [HE.out]; simp; intros; omega), HL.out⟩

set_option maxHeartbeats 800000 in
theorem rplace_any (s : List UInt8) (i : Nat) (long : Bool) (w : World) (hi : i ≤ 65535) (h : Gl.wid long * (i + 1) ≤ s.length) :
    Calls Try.prog 21 #[.string ⟨s.toArray⟩, .int .i64 (i : Int), .bool long] w fun e w' => e = .returned (.int .i64 (Gl.place s i long)) ∧ w = w' := by
  cases long with
  | true =>
    have h' : 4 * (i + 1) ≤ s.length := h
    have hx : (⟨s.toArray⟩ : ByteArray).extract (4 * i) (4 * i + 4) = ⟨((s.drop (4 * i)).take 4).toArray⟩ := by rw [Gk.extract_list, Nat.add_sub_cancel_left]
    have HO := Lib.hid (fun W => rone_any ((s.drop (4 * i)).take 4) 4 W (by simp; omega))
    rw [show Bn.one ((s.drop (4 * i)).take 4) 4 = Gl.place s i true from rfl] at HO
    generalize (s.drop (4 * i)).take 4 = sub at *
    generalize Gl.place s i true = y at *
    clear h
    go_enter Try.func21, Try.ntmps21
    go_wp2_with fail
    refine (HO.out _).mono ?_
    rintro e w1 ⟨rfl, rfl⟩
    go_wp2_with fail
    go_ret
    exact ⟨rfl, rfl⟩
  | false =>
    have h' : 2 * (i + 1) ≤ s.length := h
    have hx : (⟨s.toArray⟩ : ByteArray).extract (2 * i) (2 * i + 2) = ⟨((s.drop (2 * i)).take 2).toArray⟩ := by rw [Gk.extract_list, Nat.add_sub_cancel_left]
    have HO := Lib.hid (fun W => rone_any ((s.drop (2 * i)).take 2) 2 W (by simp; omega))
    have hbd := Gl.fld_bd s (2 * i) false
    rw [show Bn.one ((s.drop (2 * i)).take 2) 2 = He.fld s (2 * i) 2 from rfl] at HO
    rw [show ((Gl.wid false : Nat) : Int) = 2 from rfl] at hbd
    rw [show Gl.place s i false = 2 * He.fld s (2 * i) 2 from rfl]
    generalize (s.drop (2 * i)).take 2 = sub at *
    generalize He.fld s (2 * i) 2 = y at *
    obtain ⟨hb1, hb2⟩ := hbd
    clear h
    go_enter Try.func21, Try.ntmps21
    go_wp2_with fail
    refine (HO.out _).mono ?_
    rintro e w1 ⟨rfl, rfl⟩
    go_wp2_with fail
    go_ret
    exact ⟨rfl, rfl⟩

set_option maxRecDepth 100000 in
set_option maxHeartbeats 1600000 in
theorem rext_any (s : List UInt8) (w : World) (hl : s.length ≤ 9223372036854775807) :
    Calls Try.prog 22 #[.string ⟨s.toArray⟩] w fun e w' => e = extErr (Gl.ext s) ∧ Lo w w' := by
  by_cases h0 : s.length = 0
  · have HE := Lib.hid (show Gl.ext s = (Gl.none, 0) by unfold Gl.ext; rw [if_pos h0])
    generalize Gl.ext s = y at *
    go_enter Try.func22, Try.ntmps22
    go_wp2_with fail
    refine bodyPost_ret (v := .tuple #[aggE Gl.none, .int .i64 0]) ?_ rfl ⟨by rw [HE.out]; rfl, ?_⟩
    · simp [results, Try.results22, go_sem, aggE, Gl.none]
    · exact (Lo.refl w).alloc _
  · by_cases h1 : s.length < 10
    · have HE := Lib.hid (Gl.ext_more h0 h1)
      generalize Gl.ext s = y at *
      have h2 : (s.length : Int) < 10 := by omega
      have h3 : ((s.length : Int) == 0) = false := by simpa using h0
      go_enter Try.func22, Try.ntmps22
      go_wp2_with fail
      refine bodyPost_ret (v := .tuple #[aggE Gl.none, .int .i64 4]) ?_ rfl ⟨by rw [HE.out]; rfl, ?_⟩
      · simp [results, Try.results22, go_sem, aggE, Gl.none]
      · exact (Lo.refl w).alloc _
    · have h : 10 ≤ s.length := by omega
      have HE1 := Lib.hid (fun hx => Gl.ext_form h hx)
      have HE2 := Lib.hid (fun hx => Gl.ext_right h hx)
      have HI := Lib.hid (fun W => gris_any (Gl.read s) W)
      unfold Gl.read at HI HE1 HE2
      have o2 : Bn.one ((s.drop 2).take 2) (-2) = He.fld s 2 (-2) := rfl
      have k2 : ((s.drop 2).take 2).length ≤ 4 := by simp; omega
      have e2 : (⟨s.toArray⟩ : ByteArray).extract 2 4 = ⟨((s.drop 2).take 2).toArray⟩ := by rw [Gk.extract_list]
      have o4 : Bn.one ((s.drop 4).take 2) (-2) = He.fld s 4 (-2) := rfl
      have k4 : ((s.drop 4).take 2).length ≤ 4 := by simp; omega
      have e4 : (⟨s.toArray⟩ : ByteArray).extract 4 6 = ⟨((s.drop 4).take 2).toArray⟩ := by rw [Gk.extract_list]
      have o6 : Bn.one ((s.drop 6).take 2) (-2) = He.fld s 6 (-2) := rfl
      have k6 : ((s.drop 6).take 2).length ≤ 4 := by simp; omega
      have e6 : (⟨s.toArray⟩ : ByteArray).extract 6 8 = ⟨((s.drop 6).take 2).toArray⟩ := by rw [Gk.extract_list]
      have o8 : Bn.one ((s.drop 8).take 2) (-2) = He.fld s 8 (-2) := rfl
      have k8 : ((s.drop 8).take 2).length ≤ 4 := by simp; omega
      have e8 : (⟨s.toArray⟩ : ByteArray).extract 8 10 = ⟨((s.drop 8).take 2).toArray⟩ := by rw [Gk.extract_list]
      have HOne := Lib.hid (fun (l : List UInt8) (size : Int) (W : World) (h : l.length ≤ 4) => rone_any l size W h)
      generalize He.fld s 2 (-2) = x0 at *
      generalize He.fld s 4 (-2) = x1 at *
      generalize He.fld s 6 (-2) = x2 at *
      generalize He.fld s 8 (-2) = x3 at *
      generalize Gl.ext s = y at *
      generalize (s.drop 2).take 2 = l2 at *
      generalize (s.drop 4).take 2 = l4 at *
      generalize (s.drop 6).take 2 = l6 at *
      generalize (s.drop 8).take 2 = l8 at *
      unfold aggE at HI
      dsimp only at HI
      have j0 : ((s.length : Int) == 0) = false := by simpa using h0
      have j1 : ¬ (s.length : Int) < 10 := by omega
      have j2 : (4 : Int) ≤ (s.length : Int) := by omega
      have j3 : (6 : Int) ≤ (s.length : Int) := by omega
      have j4 : (8 : Int) ≤ (s.length : Int) := by omega
      have j5 : (10 : Int) ≤ (s.length : Int) := by omega
      clear h h0 h1
      go_enter Try.func22, Try.ntmps22
      go_wp2_with fail
      generalize hW : World.alloc w _ = w0
      have HL : Hid (Lo w w0) := Lib.hid (by rw [← hW]; exact (Lo.refl w).alloc _)
      have HB : Hid (w0.heap[w.heap.size]? = some (.cells #[.bool false, .int .i64 0, .int .i64 0, .int .i64 0, .int .i64 0] 30 (0, 0))) := Lib.hid (by rw [← hW]; exact new_block w _)
      clear hW
      go_region_held3 (fun W => Hid (Lo w0 W)) (first | assumption | exact Lib.hid ((Lo.refl _).drew) | exact Lib.hid (((Lo.refl _).alloc _).drew) | exact Lib.hid (((Lo.refl _).drew).alloc _) | exact Lib.hid ((Lo.refl _).alloc _))
        (first | (go_at_call 40; refine (HOne.out _ _ _ (by assumption)).mono ?_; rintro e wA ⟨rfl, rfl⟩))
      all_goals
        generalize hW : World.drew _ = w8
        have lo : Lo w0 w8 := by rw [← hW]; exact ((Lo.refl w0).alloc _).drew
        have HH : Hid (w8.heap[w0.heap.size]? = some (.cells #[.bool true, .int .i64 x0, .int .i64 x1, .int .i64 x2, .int .i64 x3] 30 (0, 0))) := Lib.hid (by rw [← hW]; exact new_block w0 _)
        have HL := Lib.hid (HL.out.trans lo)
        have HB := Lib.hid (lo_block lo HB.out)
        clear lo hW
        obtain ⟨⟨s0, s1, s2, s3, s4⟩, _⟩ := five_at HH.out
        go_wp2_with fail
        refine (HI.out _).mono ?_
        rintro e w9 ⟨rfl, lo⟩
        have HL := Lib.hid (HL.out.trans lo)
        have HB := Lib.hid (lo_block lo HB.out)
        have HH := Lib.hid (lo_block lo HH.out)
        clear lo HI s0 s1 s2 s3 s4
        obtain ⟨⟨r0, r1, r2, r3, r4⟩, q0, q1, q2, q3, q4⟩ := five_at HB.out
        obtain ⟨⟨s0, s1, s2, s3, s4⟩, _⟩ := five_at HH.out
        cases hi : Gl.isExt ⟨true, x0, x1, x2, x3⟩ with
        | false =>
          have HE : Hid (y = (Gl.none, 5)) := Lib.hid (HE1.out hi)
          clear hi
          go_wp2_with fail
          refine bodyPost_ret (v := .tuple #[aggE Gl.none, .int .i64 5]) ?_ rfl ⟨by rw [HE.out]; rfl, ?_⟩
          · simp [results, Try.results22, go_sem, aggE, Gl.none, r0, r1, r2, r3, r4]
          · exact Lo.set5 HL.out (Nat.le_refl _) _ _ _ _ _
        | true =>
          have HE : Hid (y = (⟨true, x0, x1, x2, x3⟩, 0)) := Lib.hid (HE2.out hi)
          clear hi
          go_wp2_with fail
          refine bodyPost_ret (v := .tuple #[aggE ⟨true, x0, x1, x2, x3⟩, .int .i64 0]) ?_ rfl ⟨by rw [HE.out]; rfl, ?_⟩
          · simp [results, Try.results22, go_sem, aggE, r0, r1, r2, r3, r4]
          · exact Lo.set5 HL.out (Nat.le_refl _) _ _ _ _ _
end Go.Proofs.Ytkfljalcnjdliaa
