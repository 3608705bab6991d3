/-
  The contract of math.Round: it rounds by the bits as Fl.round says, and the world is as it was. No conditions.
-/
import Derived.Test.YtlfhnldeidgkjaaDoorFxLo
import Derived.Test.YtlfhnldeidgkjaaDoorDmFloat3
import Derived.Laws.FloatArith
import Derived.Laws.Cover2
import Derived.Laws.Externs
import Derived.Laws.BitsAllLaws
import Derived.Deep.DeepCutAuto
namespace Fl

theorem and_shift (y m d : Nat) : y &&& (m <<< d) = ((y >>> d) &&& m) <<< d := by
  apply Nat.eq_of_testBit_eq
  intro i
  simp only [Nat.testBit_and, Nat.testBit_shiftLeft, Nat.testBit_shiftRight]
  by_cases h : i ≥ d
  · simp [h, show d + (i - d) = i by omega]
  · simp [h]

theorem and_high (y d : Nat) (hd : d ≤ 64) (hy : y < 2 ^ 64) : y &&& (2 ^ 64 - 2 ^ d) = y / 2 ^ d * 2 ^ d := by
  have h1 : 2 ^ 64 = 2 ^ (64 - d) * 2 ^ d := by rw [← Nat.pow_add]; congr 1; omega
  have h2 : 2 ^ 64 - 2 ^ d = (2 ^ (64 - d) - 1) <<< d := by
    rw [Nat.shiftLeft_eq, Nat.sub_mul, ← h1, Nat.one_mul]
  rw [h2, and_shift, Nat.and_two_pow_sub_one_eq_mod, Nat.shiftRight_eq_div_pow, Nat.shiftLeft_eq, Nat.mod_eq_of_lt]
  rw [Nat.div_lt_iff_lt_mul (Nat.two_pow_pos _), ← h1]
  exact hy

theorem and_exp (x : Nat) (hx : x < 18446744073709551616) : Go.bits .and .u64 ((x : Int) / 4503599627370496) 2047 = ((x % 9223372036854775808 / 4503599627370496 : Nat) : Int) := by
  rw [show (x : Int) / 4503599627370496 = ((x / 4503599627370496 : Nat) : Int) by omega, show (2047 : Int) = ((2047 : Nat) : Int) from rfl, Go.u64_and_nat _ _ (by omega) (by omega)]
  have := Nat.and_two_pow_sub_one_eq_mod (x / 4503599627370496) 11
  rw [show 2 ^ 11 - 1 = 2047 from rfl] at this
  rw [this]
  omega

theorem and_sign (x : Nat) (hx : x < 18446744073709551616) : Go.bits .and .u64 (x : Int) 9223372036854775808 = ((x - x % 9223372036854775808 : Nat) : Int) := by
  rw [show (9223372036854775808 : Int) = ((9223372036854775808 : Nat) : Int) from rfl, Go.u64_and_nat _ _ (by omega) (by omega)]
  have := Go.nat_bit 63 x
  rw [show 2 ^ 63 = 9223372036854775808 from rfl] at this
  rw [this]
  omega

theorem or_one (x : Nat) (hx : x < 18446744073709551616) : Go.bits .or .u64 ((x - x % 9223372036854775808 : Nat) : Int) 4607182418800017408 = ((x - x % 9223372036854775808 + 4607182418800017408 : Nat) : Int) := by
  rw [show (4607182418800017408 : Int) = ((4607182418800017408 : Nat) : Int) from rfl, Go.u64_or_nat _ _ (by omega) (by omega)]
  rw [Go.nat_join 63 _ _ (by rw [show 2 ^ 63 = 9223372036854775808 from rfl]; omega) (by rw [show 2 ^ 63 = 9223372036854775808 from rfl]; omega)]

theorem andNot_low (y d : Nat) (hd : d ≤ 64) (hy : y < 18446744073709551616) : Go.bits .andNot .u64 (y : Int) ((2 ^ d - 1 : Nat) : Int) = ((y / 2 ^ d * 2 ^ d : Nat) : Int) := by
  have h1 : 2 ^ d ≤ 2 ^ 64 := Nat.pow_le_pow_right (by omega) hd
  have hp := Nat.two_pow_pos d
  rw [Go.u64_andNot_nat _ _ hy (by omega), ← and_high y d hd hy]
  congr 2
  omega
end Fl

namespace Go.Proofs.YtlfhnldeidgkjaaDoor
open Go.RowKit

theorem bits_run (x : Nat) (W : World) : (callFunc 45 #[.float .f64 x]).run Tryd.prog W = .ok (.value (.int .u64 x)) W := by
  rw [run_callFunc_extern (e := Extern.MathFloatBits.float64bits) Tryd.func45 (by kernel_rfl) (by kernel_rfl) (by kernel_rfl) (by kernel_rfl)]
  rfl
theorem unbits_run (n : Int) (W : World) : (callFunc 46 #[.int .u64 n]).run Tryd.prog W = .ok (.value (.float .f64 n.toNat)) W := by
  rw [run_callFunc_extern (e := Extern.MathFloatBits.float64frombits) Tryd.func46 (by kernel_rfl) (by kernel_rfl) (by kernel_rfl) (by kernel_rfl)]
  rfl

theorem ret_float {a b : Nat} (h : a = b) : Ending.returned (.float .f64 a) = .returned (.float .f64 b) := by rw [h]

set_option maxHeartbeats 400000 in
theorem round_low (x : Nat) (z ee sg : Int) (w : World) (hb : ∀ W, (callFunc 45 #[.float .f64 x]).run Tryd.prog W = .ok (.value (.int .u64 z)) W)
    (he : bits .and .u64 (z / 4503599627370496) 2047 = ee) (hs : bits .and .u64 z 9223372036854775808 = sg) (h0 : 0 ≤ ee) (h1 : ee < 1022) :
    Calls Tryd.prog 48 #[.float .f64 x] w fun e w' => e = .returned (.float .f64 sg.toNat) ∧ w = w' := by
  have hu := unbits_run
  have hne : (ee == 1022) = false := by simp; omega
  go_enter Tryd.func48, Tryd.ntmps48
  go_wp2
  go_ret
  exact ⟨rfl, rfl⟩

set_option maxHeartbeats 400000 in
theorem round_one (x : Nat) (z ee sg r : Int) (w : World) (hb : ∀ W, (callFunc 45 #[.float .f64 x]).run Tryd.prog W = .ok (.value (.int .u64 z)) W)
    (he : bits .and .u64 (z / 4503599627370496) 2047 = ee) (hs : bits .and .u64 z 9223372036854775808 = sg) (hr : bits .or .u64 sg 4607182418800017408 = r) (h0 : (ee == 1022) = true) (h1 : ee < 1023) :
    Calls Tryd.prog 48 #[.float .f64 x] w fun e w' => e = .returned (.float .f64 r.toNat) ∧ w = w' := by
  have hu := unbits_run
  go_enter Tryd.func48, Tryd.ntmps48
  go_wp2
  go_ret
  exact ⟨rfl, rfl⟩

set_option maxHeartbeats 400000 in
theorem round_high (x : Nat) (z ee : Int) (w : World) (hb : ∀ W, (callFunc 45 #[.float .f64 x]).run Tryd.prog W = .ok (.value (.int .u64 z)) W)
    (he : bits .and .u64 (z / 4503599627370496) 2047 = ee) (h1 : 1075 ≤ ee) :
    Calls Tryd.prog 48 #[.float .f64 x] w fun e w' => e = .returned (.float .f64 z.toNat) ∧ w = w' := by
  have hu := unbits_run
  go_enter Tryd.func48, Tryd.ntmps48
  go_wp2
  go_ret
  exact ⟨rfl, rfl⟩

set_option maxHeartbeats 400000 in
theorem round_mid (x : Nat) (z ee r : Int) (w : World) (hb : ∀ W, (callFunc 45 #[.float .f64 x]).run Tryd.prog W = .ok (.value (.int .u64 z)) W)
    (he : bits .and .u64 (z / 4503599627370496) 2047 = ee) (h1 : 1023 ≤ ee) (h2 : ee < 1075)
    (hr : bits .andNot .u64 (IntKind.u64.wrap (z + 2251799813685248 / 2 ^ (ee - 1023).toNat)) (4503599627370495 / 2 ^ (ee - 1023).toNat) = r) :
    Calls Tryd.prog 48 #[.float .f64 x] w fun e w' => e = .returned (.float .f64 r.toNat) ∧ w = w' := by
  have hu := unbits_run
  have HR := Lib.hid hr
  clear hr
  go_enter Tryd.func48, Tryd.ntmps48
  go_wp2
  go_ret
  rw [HR.out]
  exact ⟨rfl, rfl⟩

theorem mid_math (x : Nat) (e : Nat) (hx : x % 9223372036854775808 / 4503599627370496 = e) (hlt : x < 18446744073709551616) (h1 : 1023 ≤ e) (h2 : e < 1075) :
    bits .andNot .u64 (IntKind.u64.wrap ((x : Int) + 2251799813685248 / 2 ^ ((e : Int) - 1023).toNat)) (4503599627370495 / 2 ^ ((e : Int) - 1023).toNat) = (((x + 2 ^ (1074 - e)) / 2 ^ (1075 - e) * 2 ^ (1075 - e) : Nat) : Int) := by
  have ek : ((e : Int) - 1023).toNat = e - 1023 := by omega
  rw [ek]
  have hp : 0 < 2 ^ (e - 1023) := Nat.two_pow_pos _
  have d1 : 2251799813685248 / 2 ^ (e - 1023) = 2 ^ (1074 - e) := by
    rw [show 2251799813685248 = 2 ^ (1074 - e) * 2 ^ (e - 1023) by rw [← Nat.pow_add, show 1074 - e + (e - 1023) = 51 by omega]]
    exact Nat.mul_div_cancel _ hp
  have d2 : 4503599627370495 / 2 ^ (e - 1023) = 2 ^ (1075 - e) - 1 := by
    have hq : 4503599627370496 = 2 ^ (1075 - e) * 2 ^ (e - 1023) := by rw [← Nat.pow_add, show 1075 - e + (e - 1023) = 52 by omega]
    have hp2 : 0 < 2 ^ (1075 - e) := Nat.two_pow_pos _
    apply Nat.div_eq_of_lt_le
    · rw [Nat.sub_mul, ← hq]; omega
    · rw [show 2 ^ (1075 - e) - 1 + 1 = 2 ^ (1075 - e) by omega, ← hq]; omega
  have c1 : (2251799813685248 : Int) / 2 ^ (e - 1023) = ((2 ^ (1074 - e) : Nat) : Int) := by rw [← d1]; simp
  have c2 : (4503599627370495 : Int) / 2 ^ (e - 1023) = ((2 ^ (1075 - e) - 1 : Nat) : Int) := by rw [← d2]; simp
  have hb : 2 ^ (1074 - e) ≤ 2 ^ 51 := Nat.pow_le_pow_right (by omega) (by omega)
  rw [c1, c2, IntKind.wrap_u64]
  clear c1 c2 d1 d2
  generalize 2 ^ (1074 - e) = h at *
  have hb2 : x + h < 18446744073709551616 := by omega
  rw [show ((x : Int) + (h : Int)) % 18446744073709551616 = ((x + h : Nat) : Int) by omega]
  exact Fl.andNot_low _ _ (by omega) hb2

theorem round_any (x : Nat) (w : World) (hx : x < 18446744073709551616) :
    Calls Tryd.prog 48 #[.float .f64 x] w fun e w' => e = .returned (.float .f64 (Fl.round x)) ∧ w = w' := by
  unfold Fl.round
  have hexp := Fl.and_exp x hx
  generalize hee : x % 9223372036854775808 / 4503599627370496 = e at *
  by_cases h1 : e < 1022
  · rw [if_pos h1]
    exact round_low x x e _ w (bits_run x) hexp (Fl.and_sign x hx) (by omega) (by omega)
  · rw [if_neg h1]
    by_cases h2 : e = 1022
    · rw [if_pos h2]
      exact round_one x x e _ _ w (bits_run x) hexp (Fl.and_sign x hx) (Fl.or_one x hx) (by simp; omega) (by omega)
    · rw [if_neg h2]
      by_cases h3 : e < 1075
      · rw [if_pos h3]
        exact round_mid x x e _ w (bits_run x) hexp (by omega) (by omega) (mid_math x e hee hx (by omega) h3)
      · rw [if_neg h3]
        exact round_high x x e w (bits_run x) hexp (by omega)
end Go.Proofs.YtlfhnldeidgkjaaDoor
