/-
  The contract of the law's closed rows of layer 12. No conditions beyond those stated.
-/
import Derived.Test.YtnamkelmbhankaaCoGet
import Derived.Test.YtnamkelmbhankaaCoPutW
import Derived.Test.YtnamkelmbhankaaCoFind
import Derived.Test.YtnamkelmbhankaaBnRefI
namespace Go.Proofs.Ytnamkelmbhankaa
open Go.RowKit

def coA : List Int := [5, 7]
def coB : List Int := [5, 6, 7, 8]
def coC : List Int := [5, 5]
def coS : List UInt8 := [0, 1, 0, 2, 0, 5, 0, 7]
def coT : List UInt8 := [0, 2, 0, 1, 0, 5, 0, 8, 0, 0]
theorem co_putA : Co.put coA = (coS, 0) := by kernel_rfl
theorem co_putB : Co.put coB = (coT, 0) := by kernel_rfl
theorem co_putC : Co.put coC = ([], 1) := by kernel_rfl
theorem co_getT : Co.get (120 :: coT) 1 = (coB, 0) := by kernel_rfl
theorem co_getS : Co.get coS 5 = ([], 4) := by kernel_rfl
theorem co_find : Co.find coB 7 = (2, true) := by kernel_rfl
theorem co_isB : Co.isCov coB = true := by kernel_rfl
theorem add_x (W : World) : (Op.stringOp .add ⟨[120].toArray⟩ ⟨coT.toArray⟩).run Try.prog W = .ok (.string ⟨(120 :: coT).toArray⟩) W := by
  rw [run_string_add_sum W _ _ (by decide), Gk.cat_list]; rfl

set_option maxRecDepth 100000 in
set_option maxHeartbeats 3200000 in
theorem covered_any (w : World) : Calls Try.prog 15 #[] w fun e w' => e = .returned (.bool true) ∧ Lo w w' := by
  have HPA := Lib.hid (fun (v : Value) (W : World) (h : Row W v coA) => coput_any v coA W h)
  have HPB := Lib.hid (fun (v : Value) (W : World) (h : Row W v coB) => coput_any v coB W h)
  have HPC := Lib.hid (fun (v : Value) (W : World) (h : Row W v coC) => coput_any v coC W h)
  have HGT := Lib.hid (fun W => coget_any (120 :: coT) 1 W (by decide) (by omega))
  have HGS := Lib.hid (fun W => coget_any coS 5 W (by decide) (by omega))
  have HF := Lib.hid (fun (v : Value) (W : World) (h : Row W v coB) => cofind_any v coB 7 W h)
  have HI := Lib.hid (fun (v : Value) (W : World) (h : Row W v coB) => cois_any v coB W h)
  have HN := Lib.hid (fun (v u : Value) (W : World) (h : Row W v coB) (h2 : Row W u coB) => rints_any v u coB coB W h h2)
  rw [co_putA] at HPA
  rw [co_putB] at HPB
  rw [co_putC] at HPC
  rw [co_getT] at HGT
  rw [co_getS] at HGS
  rw [co_find] at HF
  rw [co_isB] at HI
  unfold strErr at HPA HPB HPC
  unfold GotRow at HGT HGS
  rw [show (coB, (0 : Int)).1.length = 4 from rfl] at HGT
  have hadd := add_x
  have hS : (⟨coS.toArray⟩ : ByteArray) = ⟨#[0, 1, 0, 2, 0, 5, 0, 7]⟩ := rfl
  have hT : (⟨coT.toArray⟩ : ByteArray) = ⟨#[0, 2, 0, 1, 0, 5, 0, 8, 0, 0]⟩ := rfl
  have hdec : decide (coB = coB) = true := decide_eq_true rfl
  rw [hdec] at HN
  dsimp only at HPA HPB HPC HGT HGS HF
  rw [hS] at HPA
  rw [hT] at HPB hadd
  have hS2 : (⟨coS.toArray⟩ : ByteArray) = ⟨#[0, 1, 0, 2, 0, 5, 0, 7]⟩ := rfl
  rw [hS2] at HGS
  generalize hU : (120 :: coT).toArray = U at *
  clear hS hT hS2 hdec hU
  go_enter Try.func15, Try.ntmps15
  go_wp2_with fail
  refine (HPA.out _ _ (row2 w w.heap.size rfl 5 7)).mono ?_
  rintro e w1 ⟨rfl, lo⟩
  have HL := Lib.hid (((Lo.refl w).alloc _).trans lo)
  clear lo HPA
  go_wp2_with fail
  refine (HPB.out _ _ (row4 w1 w1.heap.size rfl 5 6 7 8)).mono ?_
  rintro e w2 ⟨rfl, lo⟩
  have HL := Lib.hid (HL.out.trans (((Lo.refl w1).alloc _).trans lo))
  clear lo HPB
  go_wp2_with fail
  refine (HGT.out _).mono ?_
  rintro e w3 ⟨p, c, rfl, hrow, lo⟩
  have HL := Lib.hid (HL.out.trans lo)
  have HR := Lib.hid hrow
  clear lo hrow HGT hadd
  go_wp2_with fail
  refine (HF.out _ _ HR.out).mono ?_
  rintro e w4 ⟨rfl, rfl⟩
  clear HF
  go_wp2_with fail
  refine (HGS.out _).mono ?_
  rintro e w5 ⟨p5, c5, rfl, _, lo⟩
  have lo2 := lo.trans ((Lo.refl w5).alloc (.cells #[.int .i64 5, .int .i64 5] 3))
  have HL := Lib.hid (HL.out.trans lo2)
  have HR := Lib.hid (HR.out.lo lo2)
  clear lo lo2 HGS
  go_wp2_with fail
  refine (HPC.out _ _ (row2 w5 w5.heap.size rfl 5 5)).mono ?_
  rintro e w6 ⟨rfl, lo⟩
  have lo2 := lo.trans ((Lo.refl w6).alloc (.cells #[.int .i64 5, .int .i64 6, .int .i64 7, .int .i64 8] 3))
  have HL := Lib.hid (HL.out.trans lo2)
  have HR := Lib.hid (HR.out.lo lo2)
  clear lo lo2 HPC
  go_wp2_with fail
  refine (HN.out _ _ _ HR.out (row4 w6 w6.heap.size rfl 5 6 7 8)).mono ?_
  rintro e w7 ⟨rfl, lo⟩
  have HL := Lib.hid (HL.out.trans lo)
  have HR := Lib.hid (HR.out.lo lo)
  clear lo HN
  go_wp2_with fail
  refine (HI.out _ _ HR.out).mono ?_
  rintro e w8 ⟨rfl, rfl⟩
  go_wp2_with fail
  go_ret
  exact ⟨rfl, HL.out⟩
end Go.Proofs.Ytnamkelmbhankaa
