/-
  The contract of the law's closed rows of layer 14. No conditions beyond those stated.
-/
import Derived.Test.YtjeahgdefdlabaaInGet
import Derived.Test.YtjeahgdefdlabaaInPut
import Derived.Test.YtjeahgdefdlabaaInFind
import Derived.Test.YtjeahgdefdlabaaInRef
namespace Go.Proofs.Ytjeahgdefdlabaa
open Go.RowKit

theorem PRow.lo {w w' : World} {v : Value} {l : List Ino.Pair} (h : PRow w v l) (k : Lo w w') : PRow w' v l := RowK.lo h k
def inL : List Ino.Pair := [(5, -2), (7, 300)]
def inS : List UInt8 := [0, 12, 0, 2, 255, 254, 0, 0, 1, 44, 0, 0, 0, 1, 0, 2, 0, 5, 0, 7]
def inT : List UInt8 := [0, 12, 0, 2, 255, 254, 0, 0, 1, 44, 0]
theorem in_put : Ino.put inL = (inS, 0) := by kernel_rfl
theorem in_get : Ino.get inS 0 = (inL, 0) := by kernel_rfl
theorem in_more : Ino.get inT 0 = ([], 4) := by kernel_rfl
theorem in_seven : Ino.find inL 7 = (300, true) := by kernel_rfl
theorem in_six : Ino.find inL 6 = (0, false) := by kernel_rfl
theorem in_is : Ino.isP inL = true := by kernel_rfl

set_option maxHeartbeats 400000 in
theorem ifront_any (w : World) : Calls Try.prog 29 #[.string ⟨#[0, 12, 0, 2, 255, 254, 0, 0, 1, 44, 0, 0, 0, 1, 0, 2, 0, 5, 0, 7]⟩, .int .i64 11] w fun e w' => e = .returned (.string ⟨inT.toArray⟩) ∧ w = w' := by
  have hs : (ByteArray.mk #[0, 12, 0, 2, 255, 254, 0, 0, 1, 44, 0, 0, 0, 1, 0, 2, 0, 5, 0, 7]).size = 20 := rfl
  have hx : (ByteArray.mk #[0, 12, 0, 2, 255, 254, 0, 0, 1, 44, 0, 0, 0, 1, 0, 2, 0, 5, 0, 7]).extract 0 11 = ⟨inT.toArray⟩ := by
    have := Gk.extract_list inS 0 11
    exact this
  generalize ByteArray.mk #[0, 12, 0, 2, 255, 254, 0, 0, 1, 44, 0, 0, 0, 1, 0, 2, 0, 5, 0, 7] = B at *
  generalize inT.toArray = T at *
  go_enter Try.func29, Try.ntmps29
  go_wp2_with fail
  go_ret
  exact ⟨rfl, rfl⟩

set_option maxRecDepth 100000 in
set_option maxHeartbeats 1600000 in
theorem valued_any (w : World) : Calls Try.prog 12 #[] w fun e w' => e = .returned (.bool true) ∧ Lo w w' := by
  have HP := Lib.hid (fun (v : Value) (W : World) (h : PRow W v inL) => iput_any v inL W h (by decide))
  rw [in_put] at HP
  have HG := Lib.hid (fun W => iget_any inS 0 W (by decide) (by omega))
  rw [in_get] at HG
  have HG2 := Lib.hid (fun W => iget_any inT 0 W (by decide) (by omega))
  rw [in_more] at HG2
  have HF := Lib.hid (fun (v : Value) (W : World) (h : PRow W v inL) => ifind_any v inL 7 W h (by decide))
  rw [in_seven] at HF
  have HF2 := Lib.hid (fun (v : Value) (W : World) (h : PRow W v inL) => ifind_any v inL 6 W h (by decide))
  rw [in_six] at HF2
  have HI := Lib.hid (fun (v : Value) (W : World) (h : PRow W v inL) => iis_any v inL W h (by decide))
  rw [in_is] at HI
  have HS := Lib.hid (fun (v u : Value) (W : World) (h : PRow W v inL) (h2 : PRow W u inL) => psame_any inL v u W h h2)
  have HFr := Lib.hid (fun W => ifront_any W)
  unfold strErr at HP
  unfold GotPairs at HG HG2
  rw [show (inL, (0 : Int)).1.length = 2 from rfl] at HG
  have hS : (⟨inS.toArray⟩ : ByteArray) = ⟨#[0, 12, 0, 2, 255, 254, 0, 0, 1, 44, 0, 0, 0, 1, 0, 2, 0, 5, 0, 7]⟩ := rfl
  dsimp only at HP HG HG2 HF HF2
  rw [hS] at HP HG
  generalize inT.toArray = T at *
  clear hS
  go_enter Try.func12, Try.ntmps12
  go_wp2_with fail
  have HR : Hid (PRow (w.alloc (.cells #[.int .i64 5, .int .i64 (-2), .int .i64 7, .int .i64 300] 35)) (.slice (some ⟨w.heap.size, 0, none⟩) 2 2) inL) := Lib.hid (prow2 w 5 (-2) 7 300 _)
  have HL : Hid (Lo w (w.alloc (.cells #[.int .i64 5, .int .i64 (-2), .int .i64 7, .int .i64 300] 35))) := Lib.hid ((Lo.refl w).alloc _)
  refine (HP.out _ _ HR.out).mono ?_
  rintro e w1 ⟨rfl, lo⟩
  have HL1 := Lib.hid (HL.out.trans lo)
  have HR1 := Lib.hid (HR.out.lo lo)
  clear lo HL HR HP
  go_wp2_with fail
  refine (HG.out _).mono ?_
  rintro e w2 ⟨p, c, rfl, hrow, lo⟩
  have HL2 := Lib.hid (HL1.out.trans lo)
  have HR2 := Lib.hid (HR1.out.lo lo)
  have HM2 := Lib.hid hrow
  clear lo hrow HL1 HR1 HG
  go_wp2_with fail
  refine (HF.out _ _ HR2.out).mono ?_
  rintro e w3 ⟨rfl, lo⟩
  have HL3 := Lib.hid (HL2.out.trans lo)
  have HR3 := Lib.hid (HR2.out.lo lo)
  have HM3 := Lib.hid (PRow.lo HM2.out lo)
  clear lo HL2 HR2 HM2 HF
  go_wp2_with fail
  refine (HF2.out _ _ HR3.out).mono ?_
  rintro e w4 ⟨rfl, lo⟩
  have HL4 := Lib.hid (HL3.out.trans lo)
  have HR4 := Lib.hid (HR3.out.lo lo)
  have HM4 := Lib.hid (PRow.lo HM3.out lo)
  clear lo HL3 HR3 HM3 HF2
  go_wp2_with fail
  refine (HFr.out _).mono ?_
  rintro e w5 ⟨rfl, rfl⟩
  go_wp2_with fail
  refine (HG2.out _).mono ?_
  rintro e w6 ⟨p6, c6, rfl, _, lo⟩
  have HL6 := Lib.hid (HL4.out.trans lo)
  have HR6 := Lib.hid (HR4.out.lo lo)
  have HM6 := Lib.hid (PRow.lo HM4.out lo)
  clear lo HL4 HR4 HM4 HG2
  go_wp2_with fail
  refine (HS.out _ _ _ HR6.out HM6.out).mono ?_
  rintro e w7 ⟨rfl, lo⟩
  have HL7 := Lib.hid (HL6.out.trans lo)
  have HR7 := Lib.hid (HR6.out.lo lo)
  clear lo HL6 HR6 HM6
  go_wp2_with fail
  refine (HI.out _ _ HR7.out).mono ?_
  rintro e w8 ⟨rfl, lo⟩
  have HL8 := Lib.hid (HL7.out.trans lo)
  clear lo HL7 HR7
  go_wp2_with fail
  go_ret
  exact ⟨rfl, HL8.out⟩
end Go.Proofs.Ytjeahgdefdlabaa
