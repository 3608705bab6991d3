/-
  The contracts of dimen's nearest, caught and its deferred closure. No conditions.
-/
import Derived.Test.YtlfhnldeidgkjaaDoorDmRound
namespace Go.Proofs.YtlfhnldeidgkjaaDoor
open Go.RowKit

/-- What is raised with an error. -/
def raise (k : Int) : List PanicEntry := [{ v := .iface 23 (.int .i64 k), recovered := false }]

set_option maxHeartbeats 400000 in
theorem nearest_nan (x : Nat) (w : World) (h : (FloatKind.f64.format.order x x != some .eq) = true) :
    Calls Tryd.prog 27 #[.float .f64 x] w fun e w' => e = .panicked (raise 3) ∧ w = w' := by
  go_enter Tryd.func27, Tryd.ntmps27
  go_wp2_with fail
  exact ⟨rfl, rfl, rfl⟩

set_option maxHeartbeats 400000 in
theorem nearest_ok (x r : Nat) (n : Int) (w : World) (h : (FloatKind.f64.format.order x x != some .eq) = false) (hx : x < 18446744073709551616) (hr : Fl.round x = r)
    (h1 : (FloatKind.f64.format.order r 13965662444467519488 == some .lt) = false) (h2 : (FloatKind.f64.format.order r 4742290407612743680 == some .gt) = false)
    (hn : ∀ W, (convert 22 3 (.float .f64 r)).run Tryd.prog W = .ok (.int .i64 n) W) :
    Calls Tryd.prog 27 #[.float .f64 x] w fun e w' => e = .returned (.int .i64 n) ∧ w = w' := by
  have HR := Lib.hid hr
  have HX := Lib.hid hx
  clear hr hx
  go_enter Tryd.func27, Tryd.ntmps27
  go_wp2_with fail
  refine (round_any x _ HX.out).mono ?_
  rintro e w' ⟨rfl, rfl⟩
  rw [HR.out]
  go_wp2_with fail
  go_ret
  exact ⟨rfl, rfl⟩
set_option maxHeartbeats 400000 in
theorem nearest_over (x r : Nat) (w : World) (h : (FloatKind.f64.format.order x x != some .eq) = false) (hx : x < 18446744073709551616) (hr : Fl.round x = r)
    (h12 : (FloatKind.f64.format.order r 13965662444467519488 == some .lt) = true ∨ ((FloatKind.f64.format.order r 13965662444467519488 == some .lt) = false ∧ (FloatKind.f64.format.order r 4742290407612743680 == some .gt) = true)) :
    Calls Tryd.prog 27 #[.float .f64 x] w fun e w' => e = .panicked (raise 2) ∧ w = w' := by
  have HR := Lib.hid hr
  have HX := Lib.hid hx
  clear hr hx
  rcases h12 with h1 | ⟨h1, h2⟩
  all_goals
    go_enter Tryd.func27, Tryd.ntmps27
    go_wp2_with fail
    refine (round_any x _ HX.out).mono ?_
    rintro e w' ⟨rfl, rfl⟩
    rw [HR.out]
    go_wp2_with fail
    exact ⟨rfl, rfl, rfl⟩

end Go.Proofs.YtlfhnldeidgkjaaDoor

namespace Fl
open Ieee
theorem read_max : double.read 4742290407612743680 = .number false 9007199246352384 (-23) := rfl
theorem read_min : double.read 13965662444467519488 = .number true 9007199246352384 (-23) := rfl
theorem lit_U (m k a : Nat) (N : Nat) (hm : m = N * 2 ^ k) (ha : k + a = 1074) : m * 2 ^ a = N * U := by
  unfold U; rw [hm, Nat.mul_assoc, ← pow_sum k a 1074 ha]
theorem num_max : Num 4742290407612743680 false (1073741823 * U) := by
  have := num_of_read read_max
  rw [lit_U 9007199246352384 23 (-23 + 1074 : Int).toNat 1073741823 rfl rfl] at this
  exact this
theorem num_min : Num 13965662444467519488 true (1073741823 * U) := by
  have := num_of_read read_min
  rw [lit_U 9007199246352384 23 (-23 + 1074 : Int).toNat 1073741823 rfl rfl] at this
  exact this
theorem lt_U (a b : Int) : a * (U : Int) < b * (U : Int) ↔ a < b :=
  ⟨fun h => Int.lt_of_mul_lt_mul_right h (Int.natCast_nonneg _), fun h => Int.mul_lt_mul_of_pos_right h (Int.natCast_pos.2 U_pos)⟩

theorem order_self_num {x : Nat} {s : Bool} {v : Nat} (hx : Num x s v) : (double.order x x != some .eq) = false := by
  have := eq_num hx hx
  simp [bne, this]
theorem order_self_inf {x : Nat} {s : Bool} (h : double.read x = .infinity s) : (double.order x x != some .eq) = false := by
  unfold Format.order; rw [h]
  cases s <;> rfl
theorem order_self_nan {x : Nat} {s : Bool} {f : Nat} (h : double.read x = .nan s f) : (double.order x x != some .eq) = true := by
  unfold Format.order; rw [h]; rfl

theorem inf_word {x : Nat} {s : Bool} (hlt : x < 18446744073709551616) (h : double.read x = .infinity s) : x = double.word s 9218868437227405312 := by
  obtain ⟨t, r, hr, rfl⟩ := word_of x hlt
  rw [read_word t r hr] at h
  by_cases c1 : r < 4503599627370496
  · rw [if_pos c1] at h; cases h
  · rw [if_neg c1] at h
    by_cases c2 : r < 9218868437227405312
    · rw [if_pos c2] at h; cases h
    · rw [if_neg c2] at h
      by_cases c3 : r = 9218868437227405312
      · rw [if_pos c3] at h; cases h; rw [c3]
      · rw [if_neg c3] at h; cases h
theorem round_inf {x : Nat} {s : Bool} (hlt : x < 18446744073709551616) (h : double.read x = .infinity s) : round x = x := by
  rw [inf_word hlt h]
  obtain ⟨_, h2⟩ := word_lt s 9218868437227405312 (by omega)
  unfold round
  rw [h2, if_neg (by omega), if_neg (by omega), if_neg (by omega)]

theorem order_inf_num {x y : Nat} {s t : Bool} {u : Nat} (h : double.read x = .infinity s) (hy : Num y t u) : double.order x y = some (if s then .lt else .gt) := by
  obtain ⟨m, i, h1, _, _, _⟩ := hy
  unfold Format.order; rw [h, h1]; rfl
end Fl

namespace Go.Proofs.YtlfhnldeidgkjaaDoor
open Go.RowKit

theorem len_of_nat (s : Bool) (n : Nat) (h : n ≤ 1073741823) : -1073741823 ≤ Fl.sv s n ∧ Fl.sv s n ≤ 1073741823 := by
  unfold Fl.sv; cases s <;> simp <;> omega

theorem convert_num {r : Nat} {s : Bool} {n : Nat} (hr : Fl.Num r s (n * Fl.U)) (hn : n ≤ 1073741823) (W : World) : (convert 22 3 (.float .f64 r)).run Tryd.prog W = .ok (.int .i64 (Fl.sv s n)) W := by
  refine run_convert_float_int W 22 3 .f64 .i64 r _ (by rw [Tryd.underlying22]; rfl) Tryd.underlying3 ?_
  have h1 := Fl.toInt_num hr
  rw [Nat.mul_div_cancel _ Fl.U_pos] at h1
  have h2 := len_of_nat s n hn
  unfold floatToIntVal
  show (match (Ieee.double.read r).toInt .zero with | some n => if IntKind.i64.min ≤ n ∧ n ≤ IntKind.i64.max then some n else none | none => none) = _
  rw [h1]
  have : IntKind.i64.min ≤ Fl.sv s n ∧ Fl.sv s n ≤ IntKind.i64.max := by
    simp [IntKind.min, IntKind.max, IntKind.bits, IntKind.signed]; omega
  exact if_pos this

/-- The answer is known: the number, or what is raised. -/
theorem nearest_split (x : Nat) (hx : x < 18446744073709551616) :
    (Fl.ans x).2 = 0 ∧ (∀ w, Calls Tryd.prog 27 #[.float .f64 x] w fun e w' => e = .returned (.int .i64 (Fl.ans x).1) ∧ w = w') ∨
    (Fl.ans x).1 = 0 ∧ (∀ w, Calls Tryd.prog 27 #[.float .f64 x] w fun e w' => e = .panicked (raise (Fl.ans x).2) ∧ w = w') := by
  rcases Fl.kinds x with ⟨s, f, h⟩ | ⟨s, h⟩ | ⟨s, v, h⟩
  · rw [Fl.ans_nan h]
    exact .inr ⟨rfl, fun w => nearest_nan x w (Fl.order_self_nan h)⟩
  · rw [Fl.ans_inf h]
    refine .inr ⟨rfl, fun w => nearest_over x x w (Fl.order_self_inf h) hx (Fl.round_inf hx h) ?_⟩
    show (Ieee.double.order x _ == _) = true ∨ ((Ieee.double.order x _ == _) = false ∧ (Ieee.double.order x _ == _) = true)
    rw [Fl.order_inf_num h Fl.num_min, Fl.order_inf_num h Fl.num_max]
    cases s
    · exact .inr ⟨rfl, rfl⟩
    · exact .inl rfl
  · rw [Fl.ans_num h]
    have hr := Fl.round_num h hx
    generalize (v + Fl.H) / Fl.U = n at *
    have hlt : (Ieee.double.order (Fl.round x) 13965662444467519488 == some .lt) = decide (Fl.sv s n < -1073741823) := by
      rw [Fl.lt_num hr Fl.num_min, Fl.sv_mul, Fl.sv_mul]
      exact decide_eq_decide.2 (Fl.lt_U _ _)
    have hgt : (Ieee.double.order (Fl.round x) 4742290407612743680 == some .gt) = decide (1073741823 < Fl.sv s n) := by
      rw [Fl.gt_num hr Fl.num_max, Fl.sv_mul, Fl.sv_mul]
      exact decide_eq_decide.2 (Fl.lt_U _ _)
    by_cases hn : n ≤ 1073741823
    · rw [if_pos hn]
      have hb := len_of_nat s n hn
      exact .inl ⟨rfl, fun w => nearest_ok x (Fl.round x) (Fl.sv s n) w (Fl.order_self_num h) hx rfl (by rw [show FloatKind.f64.format = Ieee.double from rfl, hlt]; simp; omega) (by rw [show FloatKind.f64.format = Ieee.double from rfl, hgt]; simp; omega) (convert_num hr hn)⟩
    · rw [if_neg hn]
      refine .inr ⟨rfl, fun w => nearest_over x (Fl.round x) w (Fl.order_self_num h) hx rfl ?_⟩
      rw [show FloatKind.f64.format = Ieee.double from rfl, hlt, hgt]
      cases s
      · right; simp [Fl.sv]; omega
      · left; simp [Fl.sv]; omega
end Go.Proofs.YtlfhnldeidgkjaaDoor
