/-
  The contracts of the statements' helpers told (the document's rows) and same, of math.NaN, math.Inf and math.Copysign. No conditions but that the package variable of powers of ten reads as it is laid.
-/
import Derived.Test.YtlfhnldeidgkjaaDoorDmParse
namespace Dm
open Go
theorem dec1 (n : Nat) (h : n < 10) : Lib.decDigits n = [UInt8.ofNat (48 + n)] := by rw [Lib.decDigits, dif_pos h]
theorem dec2 (n : Nat) (h : ¬ n < 10) : Lib.decDigits n = Lib.decDigits (n / 10) ++ [UInt8.ofNat (48 + n % 10)] := by rw [Lib.decDigits, dif_neg h]
theorem dig0 : digits 0 = [48] := by
  have : count 0 = 1 := by decide
  unfold digits
  rw [this, show 10 ^ 1 + fraction 0 1 = 10 from by decide, dec2 10 (by omega), dec1 (10 / 10) (by omega)]
  rfl
theorem text_one : text 65536 = [49, 46, 48, 112, 116] := by
  rw [show (65536 : Int) = ((65536 : Nat) : Int) from rfl, text_nat, show 65536 % 65536 = 0 from rfl, dig0, dec1 (65536 / 65536) (by omega)]
  rfl
theorem text_zero : text 0 = [48, 46, 48, 112, 116] := by
  rw [show (0 : Int) = ((0 : Nat) : Int) from rfl, text_nat, show 0 % 65536 = 0 from rfl, dig0, dec1 (0 / 65536) (by omega)]
  rfl
theorem text_m1 : text (-1) = [45, 48, 46, 48, 48, 48, 48, 50, 112, 116] := by
  rw [show (-1 : Int) = -((1 : Nat) : Int) from rfl, text_neg 1 (by omega), dec1 (1 / 65536) (by omega)]
  have hc : count (1 % 65536) = 5 := by decide
  unfold digits
  rw [hc, show 10 ^ 5 + fraction (1 % 65536) 5 = 100002 from by decide, dec2 100002 (by omega), dec2 (100002 / 10) (by omega), dec2 (100002 / 10 / 10) (by omega), dec2 (100002 / 10 / 10 / 10) (by omega), dec2 (100002 / 10 / 10 / 10 / 10) (by omega), dec1 (100002 / 10 / 10 / 10 / 10 / 10) (by omega)]
  rfl
theorem parse_tenth : parse [48, 46, 49, 112, 116] = (6554, 0) := by decide
theorem parse_m0 : parse [45, 48, 46, 48, 112, 116] = (0, 0) := by decide
end Dm
namespace Fl
theorem of_half : of 4602678819172646912 = (32768, 0) := by kernel_rfl
theorem of_small : of 13755392620465711345 = (-1, 0) := by kernel_rfl
theorem of_nan : of 9221120237041090561 = (0, 3) := by kernel_rfl
end Fl
namespace Go.Proofs.YtlfhnldeidgkjaaDoor
open Go.RowKit

theorem nan_any (w : World) : Calls Tryd.prog 22 #[] w fun e w' => e = .returned (.float .f64 9221120237041090561) ∧ w = w' := by
  have hu := unbits_run
  go_enter Tryd.func22, Tryd.ntmps22
  go_wp2
  go_ret
  exact ⟨rfl, rfl⟩

theorem inf_any (w : World) : Calls Tryd.prog 23 #[.int .i64 1] w fun e w' => e = .returned (.float .f64 9218868437227405312) ∧ w = w' := by
  have hu := unbits_run
  go_enter Tryd.func23, Tryd.ntmps23
  go_wp2
  go_ret
  exact ⟨rfl, rfl⟩

theorem same_yes (x : Nat) (w : World) : Calls Tryd.prog 20 #[.float .f64 x, .float .f64 x] w fun e w' => e = .returned (.bool true) ∧ w = w' := by
  obtain ⟨z, hz⟩ : ∃ z : Int, z = x := ⟨_, rfl⟩
  have hb := bits_run x
  rw [← hz] at hb
  clear hz
  go_enter Tryd.func20, Tryd.ntmps20
  go_wp2
  go_ret
  exact ⟨by simp, rfl⟩

set_option maxHeartbeats 800000 in
theorem told_any (w : World) (ht : Tab w) : Calls Tryd.prog 19 #[] w fun e w' => e = .returned (.bool true) ∧ Lo w w' := by
  have HT := Lib.hid ht
  clear ht
  go_enter Tryd.func19, Tryd.ntmps19
  go_wp2_with fail
  refine (of_any 4602678819172646912 _).mono ?_
  rw [Fl.of_half]
  rintro e w1 ⟨rfl, L1⟩
  go_wp2_with fail
  refine (of_any 13755392620465711345 _).mono ?_
  rw [Fl.of_small]
  rintro e w2 ⟨rfl, L2⟩
  have M2 := L1.trans L2
  clear L1 L2
  go_wp2_with fail
  refine (text_yes 65536 _ (by decide) (HT.out.lo M2)).mono ?_
  rw [Dm.text_one]
  rintro e w3 ⟨rfl, L3⟩
  have M3 := M2.trans L3
  clear M2 L3
  go_wp2_with fail
  refine (text_yes (-1) _ (by decide) (HT.out.lo M3)).mono ?_
  rw [Dm.text_m1]
  rintro e w4 ⟨rfl, L4⟩
  have M4 := M3.trans L4
  clear M3 L4
  go_wp2_with fail
  refine (parse_any [48, 46, 49, 112, 116] _ (by decide)).mono ?_
  rw [Dm.parse_tenth]
  rintro e w5 ⟨rfl, L5⟩
  have M5 := M4.trans L5
  clear M4 L5
  go_wp2_with fail
  refine (nan_any _).mono ?_
  rintro e w6 ⟨rfl, rfl⟩
  go_wp2_with fail
  refine (of_any 9221120237041090561 _).mono ?_
  rw [Fl.of_nan]
  rintro e w7 ⟨rfl, L7⟩
  go_wp2_with fail
  go_ret
  exact ⟨rfl, M5.trans L7⟩
end Go.Proofs.YtlfhnldeidgkjaaDoor
