/-
  The contract of the law's closed rows 'charted'. No conditions.
-/
import Derived.Test.YtjfobpbnofjjdaaChRef2
import Derived.Test.YtjfobpbnofjjdaaChGet
import Derived.Test.YtjfobpbnofjjdaaChLook2
import Derived.Test.YtjfobpbnofjjdaaChPut2
namespace Go.Proofs.Ytjfobpbnofjjdaa
open Go.RowKit

def two : List Ch.Span := [⟨65, 66, 3, 1⟩, ⟨68, 68, 7, 0⟩]
def ones : List Ch.Span := [⟨65, 65, 3, 1⟩, ⟨66, 66, 4, 1⟩, ⟨68, 68, 7, 1⟩]
def twoT : List UInt8 := [0, 6, 0, 18, 0, 0, 0, 65, 0, 4, 0, 3, 0, 4, 0, 0, 0, 7]
theorem two_put : Ch.putTrimmed two = (twoT, 0) := by kernel_rfl
theorem two_get : Ch.get twoT = (ones, 0) := by kernel_rfl
theorem two_small : (Ch.putSmall two).2 = 0 := by kernel_rfl
theorem two_len : (Ch.putSmall two).1.length = 262 := by kernel_rfl
theorem two_back : Ch.get (Ch.putSmall two).1 = (ones, 0) := by kernel_rfl
theorem two_no : Ch.get [0, 4, 0, 0] = ([], 5) := by kernel_rfl
theorem two_look : Ch.Look two 66 = 4 := by kernel_rfl
theorem two_out : Ch.Look two 67 = 0 := by kernel_rfl
theorem two_is : Ch.isL two = true := by kernel_rfl
theorem two_isnt : Ch.isL [⟨1, 0, 0, 0⟩] = false := by kernel_rfl

set_option maxRecDepth 100000 in
set_option maxHeartbeats 3200000 in
theorem charted_any (w : World) : Calls Try.prog 15 #[] w fun e w' => e = .returned (.bool true) ∧ Lo w w' := by
  have HP := Lib.hid (fun (v : Value) (W : World) (h : SRow W v two) => putTrimmed_any v two W h)
  have HG := Lib.hid (fun W => cget_any twoT W (by decide))
  have HP2 := Lib.hid (fun (v : Value) (W : World) (h : SRow W v two) => putSmall_any v two W h)
  have HG2 := Lib.hid (fun W => cget_any (Ch.putSmall two).1 W (by rw [two_len]; omega))
  have HG3 := Lib.hid (fun W => cget_any [0, 4, 0, 0] W (by decide))
  have HK1 := Lib.hid (fun (v : Value) (W : World) (h : SRow W v two) => clook_any v two 66 W h)
  have HK2 := Lib.hid (fun (v : Value) (W : World) (h : SRow W v two) => clook_any v two 67 W h)
  have HI1 := Lib.hid (fun (v : Value) (W : World) (h : SRow W v two) => cis_any v two W h)
  have HI2 := Lib.hid (fun (v : Value) (W : World) (h : SRow W v [⟨1, 0, 0, 0⟩]) => cis_any v [⟨1, 0, 0, 0⟩] W h)
  have HSm := Lib.hid (fun (v u : Value) (W : World) (h : SRow W v ones) (h2 : SRow W u ones) => ssame_any ones v u W h h2)
  rw [two_put] at HP
  rw [two_get] at HG
  rw [two_back] at HG2
  rw [two_no] at HG3
  rw [two_look] at HK1
  rw [two_out] at HK2
  rw [two_is] at HI1
  rw [two_isnt] at HI2
  unfold strErr at HP HP2
  rw [two_small] at HP2
  have hl := two_len
  unfold GotSp at HG HG2 HG3
  rw [show (ones, (0 : Int)).1.length = 3 from rfl] at HG HG2
  unfold twoT at HP HG
  generalize (Ch.putSmall two).1 = S at *
  dsimp only at HP HP2 HG HG2 HG3
  have hsz : (ByteArray.mk S.toArray).size = 262 := hl
  clear hl
  go_enter Try.func15, Try.ntmps15
  go_wp2_with fail
  have HR : Hid (SRow (w.alloc (.cells #[.int .i64 65, .int .i64 66, .int .i64 3, .int .i64 1, .int .i64 68, .int .i64 68, .int .i64 7, .int .i64 0] 35)) (.slice (some ⟨w.heap.size, 0, none⟩) 2 2) two) := Lib.hid (srow2 w ⟨65, 66, 3, 1⟩ ⟨68, 68, 7, 0⟩ _)
  have HL : Hid (Lo w (w.alloc (.cells #[.int .i64 65, .int .i64 66, .int .i64 3, .int .i64 1, .int .i64 68, .int .i64 68, .int .i64 7, .int .i64 0] 35))) := Lib.hid ((Lo.refl w).alloc _)
  refine (HP.out _ _ HR.out).mono ?_
  rintro e w1 ⟨rfl, lo⟩
  have HL := Lib.hid (HL.out.trans lo)
  have HR := Lib.hid (RowK.lo HR.out lo)
  clear lo HP
  go_wp2_with fail
  refine (HG.out _).mono ?_
  rintro e w2 ⟨p, c, rfl, hrow, lo⟩
  have HL := Lib.hid (HL.out.trans lo)
  have HR := Lib.hid (RowK.lo HR.out lo)
  have HM := Lib.hid hrow
  clear lo hrow HG
  go_wp2_with fail
  refine (HP2.out _ _ HR.out).mono ?_
  rintro e w3 ⟨rfl, lo⟩
  have HL := Lib.hid (HL.out.trans lo)
  have HR := Lib.hid (RowK.lo HR.out lo)
  have HM := Lib.hid (RowK.lo HM.out lo)
  clear lo HP2
  go_wp2_with fail
  refine (HG2.out _).mono ?_
  rintro e w4 ⟨p4, c4, rfl, hrow, lo⟩
  have HL := Lib.hid (HL.out.trans lo)
  have HR := Lib.hid (RowK.lo HR.out lo)
  have HM := Lib.hid (RowK.lo HM.out lo)
  have HM2 := Lib.hid hrow
  clear lo hrow HG2
  go_wp2_with fail
  refine (HG3.out _).mono ?_
  rintro e w5 ⟨p5, c5, rfl, _, lo⟩
  have HL := Lib.hid ((HL.out.trans lo).alloc (.cells #[.int .i64 65, .int .i64 65, .int .i64 3, .int .i64 1, .int .i64 66, .int .i64 66, .int .i64 4, .int .i64 1, .int .i64 68, .int .i64 68, .int .i64 7, .int .i64 1] 35))
  have lo5 := lo.alloc (.cells #[.int .i64 65, .int .i64 65, .int .i64 3, .int .i64 1, .int .i64 66, .int .i64 66, .int .i64 4, .int .i64 1, .int .i64 68, .int .i64 68, .int .i64 7, .int .i64 1] 35)
  have HR := Lib.hid (RowK.lo HR.out lo5)
  have HM := Lib.hid (RowK.lo HM.out lo5)
  have HM2 := Lib.hid (RowK.lo HM2.out lo5)
  have HO : Hid (SRow (w5.alloc (.cells #[.int .i64 65, .int .i64 65, .int .i64 3, .int .i64 1, .int .i64 66, .int .i64 66, .int .i64 4, .int .i64 1, .int .i64 68, .int .i64 68, .int .i64 7, .int .i64 1] 35)) (.slice (some ⟨w5.heap.size, 0, none⟩) 3 3) ones) := Lib.hid (srow3 w5 ⟨65, 65, 3, 1⟩ ⟨66, 66, 4, 1⟩ ⟨68, 68, 7, 1⟩ _)
  clear lo lo5 HG3
  go_wp2_with fail
  refine (HSm.out _ _ _ HM.out HO.out).mono ?_
  rintro e w6 ⟨rfl, lo⟩
  have HL := Lib.hid (HL.out.trans lo)
  have HR := Lib.hid (RowK.lo HR.out lo)
  have HM2 := Lib.hid (RowK.lo HM2.out lo)
  have HO := Lib.hid (RowK.lo HO.out lo)
  clear lo HM
  go_wp2_with fail
  refine (HSm.out _ _ _ HM2.out HO.out).mono ?_
  rintro e w7 ⟨rfl, lo⟩
  have HL := Lib.hid (HL.out.trans lo)
  have HR := Lib.hid (RowK.lo HR.out lo)
  clear lo HM2 HO HSm
  go_wp2_with fail
  refine (HK1.out _ _ HR.out).mono ?_
  rintro e w8 ⟨rfl, lo⟩
  have HL := Lib.hid (HL.out.trans lo)
  have HR := Lib.hid (RowK.lo HR.out lo)
  clear lo HK1
  go_wp2_with fail
  refine (HK2.out _ _ HR.out).mono ?_
  rintro e w9 ⟨rfl, lo⟩
  have HL := Lib.hid (HL.out.trans lo)
  have HR := Lib.hid (RowK.lo HR.out lo)
  clear lo HK2
  go_wp2_with fail
  refine (HI1.out _ _ HR.out).mono ?_
  rintro e w10 ⟨rfl, lo⟩
  have HL := Lib.hid (HL.out.trans lo)
  clear lo HI1 HR
  go_wp2_with fail
  refine (HI2.out _ _ (srow1 w10 _ rfl ⟨1, 0, 0, 0⟩ _)).mono ?_
  rintro e w11 ⟨rfl, lo⟩
  have HL := Lib.hid ((HL.out.alloc _).trans lo)
  clear lo HI2
  go_wp2_with fail
  go_ret
  exact ⟨rfl, HL.out⟩
end Go.Proofs.Ytjfobpbnofjjdaa
