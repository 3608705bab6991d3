/-
  The closed row of layer 4's laws, filed: it answers true. No conditions.
-/
import Derived.Test.YtchhjfocanjniaaGreatSfSame
namespace Sf
def oneTab : Tab := ([97, 98, 99, 100], [120, 121, 122])
def oneFile : List UInt8 := [0, 1, 0, 0, 0, 1, 0, 16, 0, 0, 0, 0, 97, 98, 99, 100, 120, 121, 122, 0, 0, 0, 0, 28, 0, 0, 0, 3, 120, 121, 122, 0]
theorem put_one : put 65536 [oneTab] = (oneFile, 0) := by decide +kernel
theorem get_one : get oneFile = (65536, [oneTab], 0) := by decide +kernel
theorem put_none : put 1330926671 [] = ([79, 84, 84, 79, 0, 0, 0, 0, 0, 0, 0, 0], 0) := by decide +kernel
theorem get_four : get [79, 84, 84, 79] = (0, [], 4) := by decide +kernel
theorem find_one : find [oneTab] [97, 98, 99, 100] = ([120, 121, 122], true) := by decide +kernel
theorem tsum_one : tsum oneTab = 2021227008 := by decide +kernel
end Sf
namespace Go.Proofs.YtchhjfocanjniaaGreat
open Go.RowKit

set_option maxRecDepth 100000 in
set_option maxHeartbeats 4000000 in
theorem filed_any (w : World) : Calls Tryz.prog 13 #[] w fun e w' => e = .returned (.bool true) ∧ Lo w w' := by
  have HP := Lib.hid (fun (u : Value) (W : World) (h : TRow W u [Sf.oneTab]) => sput_any 65536 [Sf.oneTab] u W h ⟨by simp, by simp [Sf.oneTab]⟩)
  rw [Sf.put_one] at HP
  have HG := Lib.hid (fun W => sget_any Sf.oneFile W (by decide))
  rw [Sf.get_one] at HG
  have HP2 := Lib.hid (fun (u : Value) (W : World) (h : TRow W u []) => sput_any 1330926671 [] u W h ⟨by simp, by simp⟩)
  rw [Sf.put_none] at HP2
  have HG2 := Lib.hid (fun W => sget_any [79, 84, 84, 79] W (by decide))
  rw [Sf.get_four] at HG2
  have HFi := Lib.hid (fun (u : Value) (W : World) (h : TRow W u [Sf.oneTab]) => find_any [Sf.oneTab] [97, 98, 99, 100] u W h)
  rw [Sf.find_one] at HFi
  have HSu := Lib.hid (fun W => tsum_any Sf.oneTab W (by decide))
  rw [Sf.tsum_one] at HSu
  have HSa := Lib.hid (fun (v u : Value) (W : World) (h : TRow W v [Sf.oneTab]) (h2 : TRow W u [Sf.oneTab]) => same_any [Sf.oneTab] v u W h h2)
  unfold strErr at HP HP2
  unfold GotTabs at HG HG2
  unfold aggT at HSu
  have hof : Sf.oneFile.length = 32 := rfl
  have HOne : Hid (∀ W : World, TRow (W.alloc (.cells #[.string ⟨#[97, 98, 99, 100]⟩, .string ⟨#[120, 121, 122]⟩] 33)) (.slice (some ⟨W.heap.size, 0, none⟩) 1 1) [Sf.oneTab]) := Lib.hid (fun W => tab1 W _ rfl Sf.oneTab)
  have hsu1 : Sf.oneTab.1 = [97, 98, 99, 100] := rfl
  have hsu2 : Sf.oneTab.2 = [120, 121, 122] := rfl
  rw [hsu1, hsu2] at HSu
  clear hsu1 hsu2
  simp only [List.length_singleton, List.length_nil] at HG HG2
  generalize Sf.oneFile = F at *
  go_enter Tryz.func13, Tryz.ntmps13
  go_wp2_with fail
  have HR1 := Lib.hid (HOne.out w)
  have HB1 := Lib.hid (new_block w (.cells #[.string ⟨#[97, 98, 99, 100]⟩, .string ⟨#[120, 121, 122]⟩] 33))
  have HL1 := Lib.hid ((Lo.refl w).alloc (.cells #[.string ⟨#[97, 98, 99, 100]⟩, .string ⟨#[120, 121, 122]⟩] 33))
  refine (HP.out _ _ HR1.out).mono ?_
  rintro e w2 ⟨rfl, lo⟩
  have HR2 := Lib.hid (HR1.out.lo lo)
  have HB2 := Lib.hid (lo_block lo HB1.out)
  have HL2 := Lib.hid (HL1.out.trans lo)
  clear lo HR1 HB1 HL1 HP
  go_wp2_with fail
  refine (HG.out _).mono ?_
  rintro e w3 ⟨p, c, rfl, hrow, lo⟩
  have HM3 := Lib.hid hrow
  have HR3 := Lib.hid (HR2.out.lo lo)
  have HB3 := Lib.hid (lo_block lo HB2.out)
  have HL3 := Lib.hid (HL2.out.trans lo)
  clear lo HR2 HB2 HL2 HG hrow
  go_wp2_with fail
  refine (HP2.out _ _ (RowK.nil _ _ _)).mono ?_
  rintro e w4 ⟨rfl, lo⟩
  have HM4 := Lib.hid (HM3.out.lo lo)
  have HR4 := Lib.hid (HR3.out.lo lo)
  have HB4 := Lib.hid (lo_block lo HB3.out)
  have HL4 := Lib.hid (HL3.out.trans lo)
  clear lo HR3 HB3 HL3 HP2 HM3
  go_wp2_with fail
  refine (HG2.out _).mono ?_
  rintro e w5 ⟨p2, c2, rfl, _, lo⟩
  have HM5 := Lib.hid (HM4.out.lo lo)
  have HR5 := Lib.hid (HR4.out.lo lo)
  have HB5 := Lib.hid (lo_block lo HB4.out)
  have HL5 := Lib.hid (HL4.out.trans lo)
  clear lo HR4 HB4 HL4 HG2 HM4
  go_wp2_with fail
  refine (HFi.out _ _ HR5.out).mono ?_
  rintro e w6 ⟨rfl, lo⟩
  have HM6 := Lib.hid (HM5.out.lo lo)
  have HR6 := Lib.hid (HR5.out.lo lo)
  have HB6 := Lib.hid (lo_block lo HB5.out)
  have HL6 := Lib.hid (HL5.out.trans lo)
  clear lo HR5 HB5 HL5 HFi HM5
  go_wp2_with fail
  refine (HSa.out _ _ _ HR6.out HM6.out).mono ?_
  rintro e w7 ⟨rfl, lo⟩
  have HB7 := Lib.hid (lo_block lo HB6.out)
  have HL7 := Lib.hid (HL6.out.trans lo)
  clear lo HR6 HB6 HL6 HSa HM6
  obtain ⟨t0, t1, _⟩ := TwoAt.of HB7.out
  go_wp2_with fail
  refine (HSu.out _).mono ?_
  rintro e w8 ⟨rfl, lo⟩
  have HL8 := Lib.hid (HL7.out.trans lo)
  clear lo HSu t0 t1
  go_wp2_with fail
  go_ret
  exact ⟨rfl, HL8.out⟩
end Go.Proofs.YtchhjfocanjniaaGreat
