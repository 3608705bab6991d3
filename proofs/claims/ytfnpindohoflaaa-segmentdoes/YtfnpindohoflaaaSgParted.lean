/-
  The contract of the law's closed rows 'parted'. No conditions.
-/
import Derived.Test.YtfnpindohoflaaaSgMany
import Derived.Test.YtfnpindohoflaaaSgGetW
import Derived.Test.YtfnpindohoflaaaSgPutW
import Derived.Test.YtfnpindohoflaaaChRefSame
namespace Go.Proofs.Ytfnpindohoflaaa
open Go.RowKit

def seg2 : List Ch.Span := [⟨65, 70, 3, 1⟩, ⟨80, 81, 9, 0⟩]
def seg4 : List Ch.Span := [⟨65, 70, 3, 1⟩, ⟨80, 80, 9, 1⟩, ⟨81, 81, 9, 1⟩, ⟨65535, 65535, 0, 1⟩]
def segT : List UInt8 := [0, 4, 0, 44, 0, 0, 0, 6, 0, 4, 0, 1, 0, 2, 0, 70, 0, 81, 255, 255, 0, 0, 0, 65, 0, 80, 255, 255, 255, 194, 0, 0, 0, 1, 0, 0, 0, 4, 0, 0, 0, 9, 0, 9]
theorem seg_put : Sg.put seg2 = (segT, 0) := by kernel_rfl
theorem seg_get : Sg.get segT = (seg4, 0) := by kernel_rfl
theorem seg_many : Sg.manyOf seg2 = (3, 2, 0) := by kernel_rfl
theorem seg_half : Sg.get (segT.take 22) = ([], 4) := by kernel_rfl
theorem seg_len : segT.length = 44 := by kernel_rfl
theorem srow4 (w : World) (x y t u : Ch.Span) (ty : Nat) : SRow (w.alloc (.cells #[.int .i64 x.fr, .int .i64 x.to, .int .i64 x.gl, .int .i64 x.st, .int .i64 y.fr, .int .i64 y.to, .int .i64 y.gl, .int .i64 y.st, .int .i64 t.fr, .int .i64 t.to, .int .i64 t.gl, .int .i64 t.st, .int .i64 u.fr, .int .i64 u.to, .int .i64 u.gl, .int .i64 u.st] ty)) (.slice (some ⟨w.heap.size, 0, none⟩) 4 4) [x, y, t, u] :=
  .inr ⟨w.heap.size, 0, 4, rfl, by simp, by simp, by simp, fun i z hz j hj => by
    have hi : i < 4 := (List.getElem?_eq_some_iff.1 hz).1
    obtain rfl | rfl | rfl | rfl : i = 0 ∨ i = 1 ∨ i = 2 ∨ i = 3 := by omega
    all_goals
      simp at hz
      subst hz
      obtain rfl | rfl | rfl | rfl : j = 0 ∨ j = 1 ∨ j = 2 ∨ j = 3 := by omega
      all_goals simp [go_sem, encS]⟩

set_option maxRecDepth 100000 in
set_option maxHeartbeats 3200000 in
theorem parted_any (w : World) : Calls Try.prog 15 #[] w fun e w' => e = .returned (.bool true) ∧ Lo w w' := by
  have HP := Lib.hid (fun (v : Value) (W : World) (h : SRow W v seg2) => sput_any v seg2 W h)
  have HG := Lib.hid (fun W => sget_any segT W (by rw [seg_len]; omega))
  have HM := Lib.hid (fun (v : Value) (W : World) (h : SRow W v seg2) => smany_any v seg2 W h)
  have HG2 := Lib.hid (fun W => sget_any (segT.take 22) W (by rw [List.length_take, seg_len]; omega))
  have HSm := Lib.hid (fun (v u : Value) (W : World) (h : SRow W v seg4) (h2 : SRow W u seg4) => ssame_any seg4 v u W h h2)
  rw [seg_put] at HP
  rw [seg_get] at HG
  rw [seg_many] at HM
  rw [seg_half] at HG2
  unfold strErr at HP
  unfold manyEnd at HM
  unfold GotSp at HG HG2
  rw [show (seg4, (0 : Int)).1.length = 4 from rfl] at HG
  have hx : (ByteArray.mk segT.toArray).extract 0 22 = ByteArray.mk (segT.take 22).toArray := by rw [Gk.extract_list]; simp
  have hsz : (ByteArray.mk segT.toArray).size = 44 := seg_len
  dsimp only at HP HG HM HG2
  generalize segT.take 22 = S2 at *
  generalize segT = S at *
  go_enter Try.func15, Try.ntmps15
  go_wp2_with fail
  have HR : Hid (SRow (w.alloc (.cells #[.int .i64 65, .int .i64 70, .int .i64 3, .int .i64 1, .int .i64 80, .int .i64 81, .int .i64 9, .int .i64 0] 41)) (.slice (some ⟨w.heap.size, 0, none⟩) 2 2) seg2) := Lib.hid (srow2 w ⟨65, 70, 3, 1⟩ ⟨80, 81, 9, 0⟩ _)
  have HL : Hid (Lo w (w.alloc (.cells #[.int .i64 65, .int .i64 70, .int .i64 3, .int .i64 1, .int .i64 80, .int .i64 81, .int .i64 9, .int .i64 0] 41))) := Lib.hid ((Lo.refl w).alloc _)
  refine (HP.out _ _ HR.out).mono ?_
  rintro e w1 ⟨rfl, lo⟩
  have HL := Lib.hid (HL.out.trans lo)
  have HR := Lib.hid (RowK.lo HR.out lo)
  clear lo HP
  go_wp2_with fail
  refine (HG.out _).mono ?_
  rintro e w2 ⟨p, c, rfl, hrow, lo⟩
  have HL := Lib.hid (HL.out.trans lo)
  have HR := Lib.hid (RowK.lo HR.out lo)
  have HMr := Lib.hid hrow
  clear lo hrow HG
  go_wp2_with fail
  refine (HM.out _ _ HR.out).mono ?_
  rintro e w3 ⟨rfl, lo⟩
  have HL := Lib.hid (HL.out.trans lo)
  have HMr := Lib.hid (RowK.lo HMr.out lo)
  clear lo HM HR
  go_wp2_with fail
  refine (HG2.out _).mono ?_
  rintro e w4 ⟨p4, c4, rfl, _, lo⟩
  have HL4 := Lib.hid (HL.out.trans lo)
  have HMr4 := Lib.hid ((RowK.lo HMr.out lo).lo ((Lo.refl w4).alloc (.cells #[.int .i64 65, .int .i64 70, .int .i64 3, .int .i64 1, .int .i64 80, .int .i64 80, .int .i64 9, .int .i64 1, .int .i64 81, .int .i64 81, .int .i64 9, .int .i64 1, .int .i64 65535, .int .i64 65535, .int .i64 0, .int .i64 1] 41)))
  have HO : Hid (SRow (w4.alloc (.cells #[.int .i64 65, .int .i64 70, .int .i64 3, .int .i64 1, .int .i64 80, .int .i64 80, .int .i64 9, .int .i64 1, .int .i64 81, .int .i64 81, .int .i64 9, .int .i64 1, .int .i64 65535, .int .i64 65535, .int .i64 0, .int .i64 1] 41)) (.slice (some ⟨w4.heap.size, 0, none⟩) 4 4) seg4) := Lib.hid (srow4 w4 ⟨65, 70, 3, 1⟩ ⟨80, 80, 9, 1⟩ ⟨81, 81, 9, 1⟩ ⟨65535, 65535, 0, 1⟩ _)
  have HL5 := Lib.hid (HL4.out.alloc (.cells #[.int .i64 65, .int .i64 70, .int .i64 3, .int .i64 1, .int .i64 80, .int .i64 80, .int .i64 9, .int .i64 1, .int .i64 81, .int .i64 81, .int .i64 9, .int .i64 1, .int .i64 65535, .int .i64 65535, .int .i64 0, .int .i64 1] 41))
  clear lo HG2
  go_wp2_with fail
  refine (HSm.out _ _ _ HMr4.out HO.out).mono ?_
  rintro e w6 ⟨rfl, lo⟩
  have HL6 := Lib.hid (HL5.out.trans lo)
  clear lo HSm HMr4 HO
  go_wp2_with fail
  go_ret
  exact ⟨rfl, HL6.out⟩
end Go.Proofs.Ytfnpindohoflaaa
