/-
  The walk of the law DimenZero: it returns true for every float. No conditions but that the package variable of powers of ten reads as it is laid.
-/
import Derived.Test.YtlfhnldeidgkjaaDoorDmTold
namespace Fl
theorem of_zero : of 0 = (0, 0) := by kernel_rfl
theorem of_mzero : of 9223372036854775808 = (0, 0) := by kernel_rfl
theorem div_zero : Ieee.double.div (Go.floatOfInt .f64 0) 4679240012837945344 = some 0 := by kernel_rfl
theorem andNot_zero : Go.bits .andNot .u64 0 9223372036854775808 = 0 := by decide
theorem or_zero (x : Nat) (hx : x < 18446744073709551616) : Go.bits .or .u64 0 (x : Int) = (x : Int) := by
  rw [show (0 : Int) = ((0 : Nat) : Int) from rfl, Go.u64_or_nat _ _ (by omega) hx, Nat.zero_or]
end Fl
namespace Go.Proofs.YtlfhnldeidgkjaaDoor
open Go.RowKit

set_option maxHeartbeats 400000 in
theorem copysign_any (x : Nat) (z sg : Int) (w : World) (hb : ∀ W, (callFunc 45 #[.float .f64 x]).run Tryd.prog W = .ok (.value (.int .u64 z)) W)
    (h1 : bits .and .u64 z 9223372036854775808 = sg) (h2 : bits .or .u64 0 sg = sg) :
    Calls Tryd.prog 24 #[.float .f64 0, .float .f64 x] w fun e w' => e = .returned (.float .f64 sg.toNat) ∧ w = w' := by
  have hu := unbits_run
  have hb0 : ∀ W, (callFunc 45 #[.float .f64 0]).run Tryd.prog W = .ok (.value (.int .u64 0)) W := bits_run 0
  have h0 := Fl.andNot_zero
  go_enter Tryd.func24, Tryd.ntmps24
  go_wp2
  go_ret
  exact ⟨rfl, rfl⟩

set_option maxHeartbeats 800000 in
theorem dimenZero_of (f s : Nat) (w : World) (ht : Tab w) (hs : ∀ W, Calls Tryd.prog 24 #[.float .f64 0, .float .f64 f] W fun e w' => e = .returned (.float .f64 s) ∧ W = w') (ho : Fl.of s = (0, 0)) :
    Calls Tryd.prog 8 #[.float .f64 f] w fun e w' => e = .returned (.bool true) ∧ Lo w w' := by
  have HT := Lib.hid ht
  have HS := Lib.hid hs
  have HO := Lib.hid ho
  clear ht hs ho
  go_enter Tryd.func8, Tryd.ntmps8
  go_wp2_with fail
  refine (HS.out _).mono ?_
  rintro e w0 ⟨rfl, rfl⟩
  go_wp2_with fail
  refine (of_any s _).mono ?_
  rw [HO.out]
  rintro e w1 ⟨rfl, L1⟩
  go_wp2_with fail
  refine (float_yes 0 0 _ (by decide) Fl.div_zero).mono ?_
  rintro e w2 ⟨rfl, L2⟩
  have M2 := L1.trans L2
  clear L1 L2
  go_wp2_with fail
  refine (text_yes 0 _ (by decide) (HT.out.lo M2)).mono ?_
  rw [Dm.text_zero]
  rintro e w3 ⟨rfl, L3⟩
  have M3 := M2.trans L3
  clear M2 L3
  go_wp2_with fail
  refine (parse_any [45, 48, 46, 48, 112, 116] _ (by decide)).mono ?_
  rw [Dm.parse_m0]
  rintro e w4 ⟨rfl, L4⟩
  have M4 := M3.trans L4
  clear M3 L4
  go_wp2_with fail
  refine (told_any _ (HT.out.lo M4)).mono ?_
  rintro e w5 ⟨rfl, L5⟩
  have M5 := M4.trans L5
  clear M4 L5
  go_wp2_with fail
  refine (same_yes 0 _).mono ?_
  rintro e w6 ⟨rfl, rfl⟩
  go_wp2_with fail
  go_ret
  exact ⟨rfl, M5⟩

theorem float_lt {x : Nat} (h : (Lit.float .f64 x).wf = true) : x < 18446744073709551616 := by simpa [Lit.wf] using h

theorem dimenZero_walk (f : Nat) (w0 : (Lit.float .f64 f).wf = true) (w : World) (ht : Tab w) :
    Calls Tryd.prog 8 #[.float .f64 f] w fun e w' => e = .returned (.bool true) ∧ Below w.heap.size w w' := by
  have hf := float_lt w0
  refine dimenZero_of f (f - f % 9223372036854775808) w ht (fun W => copysign_any f f _ W (bits_run f) (Fl.and_sign f hf) (Fl.or_zero _ (by omega))) ?_
  obtain h | h : f - f % 9223372036854775808 = 0 ∨ f - f % 9223372036854775808 = 9223372036854775808 := by omega
  · rw [h]; exact Fl.of_zero
  · rw [h]; exact Fl.of_mzero
end Go.Proofs.YtlfhnldeidgkjaaDoor
