/-
  The contracts of the law's helpers: a text's first bytes (front), its closed rows (grouped). No conditions beyond those stated.
-/
import Derived.Test.YtnlifmedkkboaaaGrGet
import Derived.Test.YtnlifmedkkboaaaGrPut
import Derived.Test.YtnlifmedkkboaaaChRefSame
namespace Go.Proofs.Ytnlifmedkkboaaa
open Go.RowKit

theorem front_any (l : List UInt8) (n : Nat) (w : World) (h : n ≤ l.length) (_hl : l.length ≤ 9223372036854775807) : Calls Try.prog 31 #[.string ⟨l.toArray⟩, .int .i64 n] w fun e w' => e = .returned (.string ⟨(l.take n).toArray⟩) ∧ w = w' := by
  have hx : (ByteArray.mk l.toArray).extract 0 n = ByteArray.mk (l.take n).toArray := by rw [Gk.extract_list]; simp
  have hsz : (ByteArray.mk l.toArray).size = l.length := rfl
  have h0 : ¬ (n : Int) < 0 := by omega
  have h1 : ¬ (l.length : Int) < (n : Int) := by omega
  generalize l.length = m at *
  go_enter Try.func31, Try.ntmps31
  go_wp2_with fail
  go_ret
  exact ⟨rfl, rfl⟩

def gr1 : List Ch.Span := [⟨70000, 70001, 9, 0⟩]
def gr2 : List Ch.Span := [⟨70000, 70000, 9, 1⟩, ⟨70001, 70001, 9, 1⟩]
def grS : List UInt8 := [0, 13, 0, 0, 0, 0, 0, 28, 0, 0, 0, 0, 0, 0, 0, 1, 0, 1, 17, 112, 0, 1, 17, 113, 0, 0, 0, 9]
def grT : List UInt8 := [0, 12, 0, 0, 0, 0, 0, 40, 0, 0, 0, 0, 0, 0, 0, 2, 0, 1, 17, 112, 0, 1, 17, 112, 0, 0, 0, 9, 0, 1, 17, 113, 0, 1, 17, 113, 0, 0, 0, 9]
theorem gr_put13 : Gp.put gr1 13 = (grS, 0) := by kernel_rfl
theorem gr_put12 : Gp.put gr1 12 = (grT, 0) := by kernel_rfl
theorem gr_put4 : Gp.put gr1 4 = ([], 1) := by kernel_rfl
theorem gr_get13 : Gp.get grS = (gr1, 0) := by kernel_rfl
theorem gr_get12 : Gp.get grT = (gr2, 0) := by kernel_rfl
theorem gr_half : Gp.get (grS.take 20) = ([], 4) := by kernel_rfl
theorem gr_len : grS.length = 28 := by kernel_rfl
theorem gr_len2 : grT.length = 40 := by kernel_rfl

set_option maxRecDepth 100000 in
set_option maxHeartbeats 3200000 in
theorem grouped_any (w : World) : Calls Try.prog 14 #[] w fun e w' => e = .returned (.bool true) ∧ Lo w w' := by
  have HP := Lib.hid (fun (v : Value) (W : World) (h : SRow W v gr1) => gput_any v gr1 13 W h)
  have HP2 := Lib.hid (fun (v : Value) (W : World) (h : SRow W v gr1) => gput_any v gr1 12 W h)
  have HP4 := Lib.hid (fun (v : Value) (W : World) (h : SRow W v gr1) => gput_any v gr1 4 W h)
  have HG := Lib.hid (fun W => gget_any grS W (by rw [gr_len]; omega))
  have HG2 := Lib.hid (fun W => gget_any grT W (by rw [gr_len2]; omega))
  have HG3 := Lib.hid (fun W => gget_any (grS.take 20) W (by rw [List.length_take, gr_len]; omega))
  have HFr := Lib.hid (fun W => front_any grS 20 W (by rw [gr_len]; omega) (by rw [gr_len]; omega))
  have HSm := Lib.hid (fun (v u : Value) (W : World) (h : SRow W v gr1) (h2 : SRow W u gr1) => ssame_any gr1 v u W h h2)
  have HSm2 := Lib.hid (fun (v u : Value) (W : World) (h : SRow W v gr2) (h2 : SRow W u gr2) => ssame_any gr2 v u W h h2)
  rw [gr_put13] at HP
  rw [gr_put12] at HP2
  rw [gr_put4] at HP4
  rw [gr_get13] at HG
  rw [gr_get12] at HG2
  rw [gr_half] at HG3
  unfold strErr at HP HP2 HP4
  unfold GotSp at HG HG2 HG3
  rw [show (gr1, (0 : Int)).1.length = 1 from rfl] at HG
  rw [show (gr2, (0 : Int)).1.length = 2 from rfl] at HG2
  rw [show ((20 : Nat) : Int) = 20 from rfl] at HFr
  have hsz : (ByteArray.mk grS.toArray).size = 28 := gr_len
  have hsz2 : (ByteArray.mk grT.toArray).size = 40 := gr_len2
  dsimp only at HP HP2 HP4 HG HG2 HG3
  generalize grS.take 20 = S2 at *
  generalize grS = S at *
  generalize grT = T at *
  go_enter Try.func14, Try.ntmps14
  go_wp2_with fail
  have HR : Hid (SRow (w.alloc (.cells #[.int .i64 70000, .int .i64 70001, .int .i64 9, .int .i64 0] 36)) (.slice (some ⟨w.heap.size, 0, none⟩) 1 1) gr1) := Lib.hid (srow1 w _ rfl ⟨70000, 70001, 9, 0⟩ _)
  have HL : Hid (Lo w (w.alloc (.cells #[.int .i64 70000, .int .i64 70001, .int .i64 9, .int .i64 0] 36))) := Lib.hid ((Lo.refl w).alloc _)
  refine (HP.out _ _ HR.out).mono ?_
  rintro e w1 ⟨rfl, lo⟩
  have HL := Lib.hid (HL.out.trans lo)
  have HR := Lib.hid (RowK.lo HR.out lo)
  clear lo HP
  go_wp2_with fail
  refine (HG.out _).mono ?_
  rintro e w2 ⟨p, c, rfl, hrow, lo⟩
  have HL := Lib.hid (HL.out.trans lo)
  have HR := Lib.hid (RowK.lo HR.out lo)
  have HM := Lib.hid hrow
  clear lo hrow HG
  go_wp2_with fail
  refine (HP2.out _ _ HR.out).mono ?_
  rintro e w3 ⟨rfl, lo⟩
  have HL := Lib.hid (HL.out.trans lo)
  have HR := Lib.hid (RowK.lo HR.out lo)
  have HM := Lib.hid (RowK.lo HM.out lo)
  clear lo HP2
  go_wp2_with fail
  refine (HG2.out _).mono ?_
  rintro e w4 ⟨p4, c4, rfl, hrow, lo⟩
  have HL := Lib.hid (HL.out.trans lo)
  have HR := Lib.hid (RowK.lo HR.out lo)
  have HM := Lib.hid (RowK.lo HM.out lo)
  have HN := Lib.hid hrow
  clear lo hrow HG2
  go_wp2_with fail
  refine (HP4.out _ _ HR.out).mono ?_
  rintro e w5 ⟨rfl, lo⟩
  have HL := Lib.hid (HL.out.trans lo)
  have HR := Lib.hid (RowK.lo HR.out lo)
  have HM := Lib.hid (RowK.lo HM.out lo)
  have HN := Lib.hid (RowK.lo HN.out lo)
  clear lo HP4
  go_wp2_with fail
  refine (HFr.out _).mono ?_
  rintro e w6 ⟨rfl, rfl⟩
  clear HFr
  go_wp2_with fail
  refine (HG3.out _).mono ?_
  rintro e w7 ⟨p7, c7, rfl, _, lo⟩
  have lo2 := lo.trans ((Lo.refl w7).alloc (.cells #[.int .i64 70000, .int .i64 70000, .int .i64 9, .int .i64 1, .int .i64 70001, .int .i64 70001, .int .i64 9, .int .i64 1] 36))
  have HL := Lib.hid (HL.out.trans lo2)
  have HR := Lib.hid (RowK.lo HR.out lo2)
  have HM := Lib.hid (RowK.lo HM.out lo2)
  have HN := Lib.hid (RowK.lo HN.out lo2)
  have HT2 : Hid (SRow (w7.alloc (.cells #[.int .i64 70000, .int .i64 70000, .int .i64 9, .int .i64 1, .int .i64 70001, .int .i64 70001, .int .i64 9, .int .i64 1] 36)) (.slice (some ⟨w7.heap.size, 0, none⟩) 2 2) gr2) := Lib.hid (srow2 w7 ⟨70000, 70000, 9, 1⟩ ⟨70001, 70001, 9, 1⟩ _)
  clear lo lo2 HG3
  go_wp2_with fail
  refine (HSm.out _ _ _ HR.out HM.out).mono ?_
  rintro e w8 ⟨rfl, lo⟩
  have HL := Lib.hid (HL.out.trans lo)
  have HN := Lib.hid (RowK.lo HN.out lo)
  have HT2 := Lib.hid (RowK.lo HT2.out lo)
  clear lo HSm HM HR
  go_wp2_with fail
  refine (HSm2.out _ _ _ HN.out HT2.out).mono ?_
  rintro e w9 ⟨rfl, lo⟩
  have HL := Lib.hid (HL.out.trans lo)
  clear lo HSm2 HN HT2
  go_wp2_with fail
  go_ret
  exact ⟨rfl, HL.out⟩
end Go.Proofs.Ytnlifmedkkboaaa
