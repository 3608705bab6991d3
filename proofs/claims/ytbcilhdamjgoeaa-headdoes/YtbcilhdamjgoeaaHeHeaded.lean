/-
  Contracts of head.Units, and of the closed row of layer 5's laws, headed: it answers true. No conditions.
-/
import Derived.Test.YtbcilhdamjgoeaaHePutW
import Derived.Test.YtbcilhdamjgoeaaFxMul
namespace He
def units (h : Head) (n size : Int) : Int × Int := if isHead h = false then (0, 1) else Go.Proofs.Ytbcilhdamjgoeaa.Fx.mulDiv n size h.upem
def oneHead : Head := ⟨1000, 3, 2, 800, -200, true⟩
theorem one_is : isHead oneHead = true := by decide
theorem zero_is : isHead zero = false := by decide
theorem one_units : units oneHead 500 655360 = (327680, 0) := by decide +kernel
theorem one_short : get (putA oneHead) (putB oneHead) [] = (zero, 4) := by unfold get; rw [if_pos (by simp)]
end He
namespace Go.Proofs.Ytbcilhdamjgoeaa
open Go.RowKit

set_option maxRecDepth 100000 in
set_option maxHeartbeats 800000 in
theorem units_any (h : He.Head) (n size : Int) (w : World) : Calls Try.prog 24 #[aggH h, .int .i64 n, .int .i64 size] w fun e w' => e = tup (He.units h n size) ∧ Lo w w' := by
  have HI := Lib.hid (fun W => his_any h W)
  have HM := Lib.hid (fun W => muldiv_any n size h.upem W)
  unfold tup at *
  unfold He.units aggH at *
  cases hh : He.isHead h with
  | false =>
    rw [hh] at HI
    simp only [if_true]
    go_enter Try.func24, Try.ntmps24
    go_wp2_with fail
    refine (HI.out _).mono ?_
    rintro e w1 ⟨rfl, lo⟩
    have HL := Lib.hid (((Lo.refl w).alloc _).trans lo)
    clear lo
    go_wp2_with fail
    go_ret2
    exact ⟨rfl, HL.out⟩
  | true =>
    rw [hh] at HI
    simp only [Bool.true_eq_false, if_false]
    generalize Fx.mulDiv n size h.upem = y at *
    go_enter Try.func24, Try.ntmps24
    go_wp2_with fail
    refine (HI.out _).mono ?_
    rintro e w1 ⟨rfl, lo⟩
    have HL := Lib.hid (((Lo.refl w).alloc _).trans lo)
    obtain ⟨⟨r0, r1, r2, r3, r4, r5⟩, _⟩ := six_at (lo_block lo (new_block w _))
    clear lo
    go_wp2_with fail
    refine (HM.out _).mono ?_
    rintro e w2 ⟨rfl, lo⟩
    have HL2 := Lib.hid (HL.out.trans lo)
    clear lo
    go_wp2_with fail
    go_ret2
    exact ⟨rfl, HL2.out⟩

set_option maxRecDepth 100000 in
set_option maxHeartbeats 3200000 in
theorem headed_any (w : World) : Calls Try.prog 26 #[] w fun e w' => e = .returned (.bool true) ∧ Lo w w' := by
  have HP := Lib.hid (fun W => hput_any He.oneHead W)
  rw [show He.put He.oneHead = (He.putA He.oneHead, He.putB He.oneHead, He.putC He.oneHead, 0) by unfold He.put; rw [if_neg (by rw [He.one_is]; simp)]] at HP
  have hlA := He.putA_len He.oneHead
  have hlB := He.putB_len He.oneHead
  have hlC := He.putC_len He.oneHead
  have HG := Lib.hid (fun W => hget_any (He.putA He.oneHead) (He.putB He.oneHead) (He.putC He.oneHead) W (by omega) (by omega) (by omega))
  rw [He.get_put He.oneHead He.one_is] at HG
  have HG2 := Lib.hid (fun W => hget_any (He.putA He.oneHead) (He.putB He.oneHead) [] W (by omega) (by omega) (by simp))
  rw [He.one_short] at HG2
  have HP2 := Lib.hid (fun W => hput_any He.zero W)
  rw [show He.put He.zero = ([], [], [], 1) by unfold He.put; rw [if_pos He.zero_is]] at HP2
  have HU := Lib.hid (fun W => units_any He.oneHead 500 655360 W)
  rw [He.one_units] at HU
  have HI := Lib.hid (fun W => his_any He.oneHead W)
  rw [He.one_is] at HI
  have HI2 := Lib.hid (fun W => his_any He.zero W)
  rw [He.zero_is] at HI2
  unfold threeErr at HP HP2
  unfold headErr at HG HG2
  unfold tup at HU
  generalize He.putA He.oneHead = pa at *
  generalize He.putB He.oneHead = pb at *
  generalize He.putC He.oneHead = pc at *
  unfold aggH He.oneHead He.zero at *
  simp only at HP HP2 HG HG2 HU HI HI2
  go_enter Try.func26, Try.ntmps26
  go_wp2_with fail
  generalize hW : World.alloc w _ = w1
  have HH : Hid (w1.heap[w.heap.size]? = some (.cells #[.int .i64 1000, .int .i64 3, .int .i64 2, .int .i64 800, .int .i64 (-200), .bool true] 46 (0, 0))) := Lib.hid (by rw [← hW]; exact new_block w _)
  have HL : Hid (Lo w w1) := Lib.hid (by rw [← hW]; exact (Lo.refl w).alloc _)
  clear hW
  refine (HP.out _).mono ?_
  rintro e w2 ⟨rfl, lo⟩
  have HL := Lib.hid (HL.out.trans lo)
  have HH := Lib.hid (lo_block lo HH.out)
  clear lo HP
  go_wp2_with fail
  refine (HG.out _).mono ?_
  rintro e w3 ⟨rfl, lo⟩
  have HL := Lib.hid (HL.out.trans lo)
  have HH := Lib.hid (lo_block lo HH.out)
  clear lo HG
  go_wp2_with fail
  generalize hW : World.alloc w3 _ = w4
  have lo : Lo w3 w4 := by rw [← hW]; exact (Lo.refl w3).alloc _
  have HGb : Hid (w4.heap[w3.heap.size]? = some (.cells #[.int .i64 1000, .int .i64 3, .int .i64 2, .int .i64 800, .int .i64 (-200), .bool true] 46 (0, 0))) := Lib.hid (by rw [← hW]; exact new_block w3 _)
  have HL := Lib.hid (HL.out.trans lo)
  have HH := Lib.hid (lo_block lo HH.out)
  clear lo hW
  refine (HG2.out _).mono ?_
  rintro e w5 ⟨rfl, lo⟩
  have HL := Lib.hid (HL.out.trans lo)
  have HH := Lib.hid (lo_block lo HH.out)
  have HGb := Lib.hid (lo_block lo HGb.out)
  clear lo HG2
  go_wp2_with fail
  generalize hW : World.alloc w5 _ = w6
  have lo : Lo w5 w6 := by rw [← hW]; exact (Lo.refl w5).alloc _
  have HL := Lib.hid (HL.out.trans lo)
  have HH := Lib.hid (lo_block lo HH.out)
  have HGb := Lib.hid (lo_block lo HGb.out)
  clear lo hW
  refine (HP2.out _).mono ?_
  rintro e w7 ⟨rfl, lo⟩
  have HL := Lib.hid (HL.out.trans lo)
  have HH := Lib.hid (lo_block lo HH.out)
  have HGb := Lib.hid (lo_block lo HGb.out)
  clear lo HP2
  obtain ⟨⟨r0, r1, r2, r3, r4, r5⟩, _⟩ := six_at HH.out
  go_wp2_with fail
  refine (HU.out _).mono ?_
  rintro e w8 ⟨rfl, lo⟩
  have HL := Lib.hid (HL.out.trans lo)
  have HH := Lib.hid (lo_block lo HH.out)
  have HGb := Lib.hid (lo_block lo HGb.out)
  clear lo HU r0 r1 r2 r3 r4 r5
  obtain ⟨⟨r0, r1, r2, r3, r4, r5⟩, _⟩ := six_at HH.out
  obtain ⟨⟨s0, s1, s2, s3, s4, s5⟩, _⟩ := six_at HGb.out
  go_wp2_with fail
  refine (HI.out _).mono ?_
  rintro e w9 ⟨rfl, lo⟩
  have HL := Lib.hid (HL.out.trans lo)
  clear lo HI r0 r1 r2 r3 r4 r5 s0 s1 s2 s3 s4 s5
  go_wp2_with fail
  refine (HI2.out _).mono ?_
  rintro e w10 ⟨rfl, lo⟩
  have HL := Lib.hid (HL.out.trans lo)
  clear lo HI2
  go_wp2_with fail
  go_ret
  exact ⟨rfl, HL.out⟩
end Go.Proofs.Ytbcilhdamjgoeaa
