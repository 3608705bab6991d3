/-
  Contracts of the document's Same (of rows that are alike) and of the closed rows 'wide'. No conditions beyond those stated.
-/
import Derived.Test.YtchhjfocanjniaaHmPut
namespace Go.Proofs.Ytchhjfocanjniaa
open Go.RowKit

set_option maxHeartbeats 1600000 in
theorem msame_any (l : List Hm.Metric) (v u : Value) (w : World) (h : MRow w v l) (h2 : MRow w u l) : Calls Try.prog 13 #[v, u] w fun e w' => e = .returned (.bool true) ∧ Lo w w' := by
  obtain ⟨p, c, rfl, hlen⟩ := RowK.form h
  obtain ⟨p2, c2, rfl, _⟩ := RowK.form h2
  have HR := Lib.hid h
  have HR2 := Lib.hid h2
  generalize hn : l.length = n at *
  have HN := Lib.hid hn
  clear hn h h2
  go_enter Try.func13, Try.ntmps13
  go_wp2_with fail
  go_loopw [5] (fun i W => ∃ k : Nat, k ≤ n ∧ i = .int .i64 k ∧ Hid (Lo w W)) (fun i _ => n - (intOf i).toNat)
  case atStart => exact ⟨0, Nat.zero_le _, rfl, Lib.hid (Lo.refl _)⟩
  case round =>
    obtain ⟨k, hk, rfl, HL⟩ := hrel
    by_cases hlt : k < n
    · have hx : l[k]? = some (Hm.at0 l k) := at0_some (by rw [HN.out]; exact hlt)
      obtain ⟨b, off, rfl, hc1, hc2⟩ := MRow.at2 (RowK.lo HR.out HL.out) hx
      obtain ⟨b2, off2, rfl, hc3, hc4⟩ := MRow.at2 (RowK.lo HR2.out HL.out) hx
      clear hx
      generalize Hm.at0 l k = x at *
      go_wp2_with fail
      go_quiet (fail)
      have HL2 := Lib.hid (HL.out.drewN nq)
      go_wp2_with fail
      go_roundw
      case rel => exact ⟨k + 1, by omega, by go_num, HL2⟩
      case measure => simp [intOf]; omega
    · go_wp2_with fail
      go_ret
      exact ⟨rfl, HL.out⟩

theorem mrow3 (w : World) (ty : Nat) (a b c d e f : Int) : MRow (w.alloc (.cells #[.int .i64 a, .int .i64 b, .int .i64 c, .int .i64 d, .int .i64 e, .int .i64 f] ty)) (.slice (some ⟨w.heap.size, 0, none⟩) 3 3) [(a, b), (c, d), (e, f)] :=
  .inr ⟨w.heap.size, 0, 3, rfl, by simp, by simp, by simp, fun i z hz j hj => by
    have hi : i < 3 := (List.getElem?_eq_some_iff.1 hz).1
    obtain rfl | rfl | rfl : i = 0 ∨ i = 1 ∨ i = 2 := by omega
    all_goals
      simp at hz
      subst hz
      obtain rfl | rfl : j = 0 ∨ j = 1 := by omega
      all_goals simp [go_sem, encM]⟩

def three : List Hm.Metric := [(500, -1), (258, 2), (258, 3)]
def ten : List UInt8 := [1, 244, 255, 255, 1, 2, 0, 2, 0, 3]
theorem three_put : Hm.put three = (ten, 2, 0) := by decide +kernel
theorem three_get : Hm.get ten 3 2 = (three, 0) := by decide +kernel
theorem three_more : Hm.get ten 4 2 = ([], 4) := by decide +kernel

set_option maxRecDepth 100000 in
set_option maxHeartbeats 1600000 in
theorem wide_any (w : World) : Calls Try.prog 12 #[] w fun e w' => e = .returned (.bool true) ∧ Lo w w' := by
  have HP := Lib.hid (fun (v : Value) (W : World) (h : MRow W v three) => hput_any v three W h (by decide))
  have HG := Lib.hid (fun W => hget_any ten 3 2 W (by decide))
  have HG2 := Lib.hid (fun W => hget_any ten 4 2 W (by decide))
  have HW := Lib.hid (fun (v : Value) (W : World) (h : MRow W v three) => width_any' v three 2 W h)
  have HW2 := Lib.hid (fun (v : Value) (W : World) (h : MRow W v three) => width_any' v three 3 W h)
  have HSm := Lib.hid (fun (v u : Value) (W : World) (h : MRow W v three) (h2 : MRow W u three) => msame_any three v u W h h2)
  unfold strNumErr at HP
  unfold GotMet at HG HG2
  rw [three_put] at HP
  rw [three_get] at HG
  rw [three_more] at HG2
  rw [show widthOf three 2 = (258, 0) by decide +kernel] at HW
  rw [show widthOf three 3 = (0, 10) by decide +kernel] at HW2
  rw [show (three, (0 : Int)).1.length = 3 from rfl] at HG
  unfold ten at HP HG HG2
  dsimp only at HP HG HG2 HW HW2
  go_enter Try.func12, Try.ntmps12
  go_wp2_with fail
  have HR : Hid (MRow (w.alloc (.cells #[.int .i64 500, .int .i64 (-1), .int .i64 258, .int .i64 2, .int .i64 258, .int .i64 3] 34)) (.slice (some ⟨w.heap.size, 0, none⟩) 3 3) three) := Lib.hid (mrow3 w _ 500 (-1) 258 2 258 3)
  have HL : Hid (Lo w (w.alloc (.cells #[.int .i64 500, .int .i64 (-1), .int .i64 258, .int .i64 2, .int .i64 258, .int .i64 3] 34))) := Lib.hid ((Lo.refl w).alloc _)
  refine (HP.out _ _ HR.out).mono ?_
  rintro e w1 ⟨rfl, lo⟩
  have HL1 := Lib.hid (HL.out.trans lo)
  have HR1 := Lib.hid (RowK.lo HR.out lo)
  clear lo HL HR
  go_wp2_with fail
  refine (HG.out _).mono ?_
  rintro e w2 ⟨p, c, rfl, hrow, lo⟩
  have HL2 := Lib.hid (HL1.out.trans lo)
  have HR2 := Lib.hid (RowK.lo HR1.out lo)
  have HM2 := Lib.hid hrow
  clear lo hrow HL1 HR1
  go_wp2_with fail
  refine (HW.out _ _ HR2.out).mono ?_
  rintro e w3 ⟨rfl, rfl⟩
  go_wp2_with fail
  refine (HW2.out _ _ HR2.out).mono ?_
  rintro e w3 ⟨rfl, rfl⟩
  go_wp2_with fail
  refine (HG2.out _).mono ?_
  rintro e w4 ⟨p4, c4, rfl, _, lo⟩
  have HL4 := Lib.hid (HL2.out.trans lo)
  have HR4 := Lib.hid (RowK.lo HR2.out lo)
  have HM4 := Lib.hid (RowK.lo HM2.out lo)
  clear lo HL2 HR2 HM2
  go_wp2_with fail
  refine (HSm.out _ _ _ HR4.out HM4.out).mono ?_
  rintro e w5 ⟨rfl, lo⟩
  have HL5 := Lib.hid (HL4.out.trans lo)
  clear lo HL4 HR4 HM4
  go_wp2_with fail
  go_ret
  exact ⟨rfl, HL5.out⟩
end Go.Proofs.Ytchhjfocanjniaa
