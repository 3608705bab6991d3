/-
  Contracts of the document's answers for floats of layer 2 (near, Of, Float, Scale of vinculumref02): they answer what the plain functions on words say. No conditions.
-/
import Derived.Test.YtlfhnldeidgkjaaDoorFxRLen
import Derived.Test.YtlfhnldeidgkjaaDoorDmFloat5
namespace Fl
open Ieee
theorem lit_Hn (m k a N : Nat) (hm : m = N * 2 ^ k) (ha : k + a = 1073) : m * 2 ^ a = N * H := by
  unfold H; rw [hm, Nat.mul_assoc, ← pow_sum k a 1073 ha]
theorem most_eq : 2147483647 * H = 1073741823 * U + H := by rw [U_eq]; omega
theorem num_most : Num 4742290407616937984 false (1073741823 * U + H) := by
  have := num_of_read (show double.read 4742290407616937984 = .number false 9007199250546688 (-23) from rfl)
  rw [lit_Hn 9007199250546688 22 (-23 + 1074 : Int).toNat 2147483647 rfl rfl, most_eq] at this
  exact this
theorem num_mmost : Num 13965662444471713792 true (1073741823 * U + H) := by
  have := num_of_read (show double.read 13965662444471713792 = .number true 9007199250546688 (-23) from rfl)
  rw [lit_Hn 9007199250546688 22 (-23 + 1074 : Int).toNat 2147483647 rfl rfl, most_eq] at this
  exact this
theorem sub_most : double.sub 0 4742290407616937984 = some 13965662444471713792 := by kernel_rfl

theorem cmp3 (a b : Int) : some (compare a b) = some (if a < b then Ordering.lt else if a = b then .eq else .gt) := rfl

/-- The part behind the point is a number that the format has. -/
theorem mod_rep (m E : Nat) (hm : m < 9007199254740992) : ∃ m' e', m' < 9007199254740992 ∧ m * 2 ^ E % U = m' * 2 ^ e' := by
  by_cases hE : 1074 ≤ E
  · refine ⟨0, 0, by omega, ?_⟩
    have e1 : m * 2 ^ E = m * 2 ^ (E - 1074) * U := by
      unfold U; rw [Nat.mul_assoc, ← pow_sum (E - 1074) 1074 E (by omega)]
    rw [e1, Nat.mul_mod_left, Nat.zero_mul]
  · have hUE : U = 2 ^ (1074 - E) * 2 ^ E := by unfold U; exact pow_sum _ _ 1074 (by omega)
    refine ⟨m % 2 ^ (1074 - E), E, Nat.lt_of_le_of_lt (Nat.mod_le _ _) hm, ?_⟩
    rw [hUE, Nat.mul_mod_mul_right]

/-- Rounded, by whole part and rest. -/
theorem round_parts (P : Nat) : (P + H) / U = P / U + (if H ≤ P % U then 1 else 0) := by
  have hU := U_eq
  have hp := U_pos
  have q1 := Nat.div_add_mod P U
  have q2 := Nat.mod_lt P U_pos
  rw [Nat.mul_comm] at q1
  generalize P / U = q at *
  generalize P % U = r at *
  subst q1
  by_cases h : H ≤ r
  · rw [if_pos h]
    apply Nat.div_eq_of_lt_le
    · rw [Nat.add_mul]; omega
    · rw [Nat.add_mul, Nat.add_mul]; omega
  · rw [if_neg h]
    apply Nat.div_eq_of_lt_le
    · rw [Nat.add_zero]; omega
    · rw [Nat.add_zero, Nat.add_mul]; omega

/-- How the rest of the whole part stands to a half. -/
theorem trunc_order {p : Nat} {s : Bool} {P : Nat} (hp : Num p s P) (hn : (P + H) / U ≤ 1073741823) : ∃ z, double.sub p (Go.floatOfInt .f64 (sv s (P / U))) = some z ∧
    ((double.order z 4602678819172646912 = some .lt ∧ double.order z 13826050856027422720 = some .gt ∧ sv s ((P + H) / U) = sv s (P / U)) ∨
     ((double.order z 4602678819172646912 = some .gt ∨ double.order z 4602678819172646912 = some .eq) ∧ double.order z 13826050856027422720 = some .gt ∧ sv s ((P + H) / U) = sv s (P / U) + 1) ∨
     (double.order z 4602678819172646912 = some .lt ∧ (double.order z 13826050856027422720 = some .lt ∨ double.order z 13826050856027422720 = some .eq) ∧ sv s ((P + H) / U) = sv s (P / U) - 1)) := by
  have hr := round_parts P
  have hq : P / U ≤ 1073741823 := by omega
  have hx := num_int (sv s (P / U)) (by rw [sv_natAbs]; exact hq)
  rw [sv_natAbs] at hx
  have hxe : sv (decide (sv s (P / U) < 0)) (P / U * U) = sv s (P / U * U) := by
    have := sv_int (sv s (P / U))
    rw [sv_natAbs] at this
    rw [sv_mul, sv_mul, this]
  obtain ⟨m, i, r1, r2, r3, r4⟩ := hp
  obtain ⟨m', e', hm', hrep⟩ := mod_rep m (i + 1074).toNat r3
  rw [← r4] at hrep
  have hp : Num p s P := ⟨m, i, r1, r2, r3, r4⟩
  have q1 := Nat.div_add_mod P U
  have q2 := Nat.mod_lt P U_pos
  rw [Nat.mul_comm] at q1
  have hval : sv s P - sv (decide (sv s (P / U) < 0)) (P / U * U) = sv s (P % U) := by
    rw [hxe]
    generalize P / U * U = z at *
    generalize P % U = y at *
    unfold sv
    cases s <;> simp <;> omega
  have htop : m' * 2 ^ e' < 2 ^ 2098 := by
    rw [← hrep]
    refine Nat.lt_of_lt_of_le q2 ?_
    unfold U
    exact pow_mono 1074 2098 (by omega)
  obtain ⟨z, n, hz, hzn, hzv⟩ := sub_num hp hx m' e' hm' htop (by rw [hval, sv_natAbs, hrep])
  refine ⟨z, hz, ?_⟩
  rw [hval] at hzv
  rw [order_num hzn num_half, order_num hzn num_mhalf, hzv, cmp3, cmp3]
  have hHp := H_pos
  generalize P % U = y at *
  generalize (P + H) / U = N at *
  generalize P / U = Q at *
  by_cases hh : H ≤ y
  · rw [if_pos hh] at hr
    subst hr
    cases s
    · right; left
      unfold sv
      simp only [Bool.false_eq_true, if_false, if_true]
      refine ⟨?_, ?_, by omega⟩
      · by_cases he : (y : Int) = H
        · right; rw [if_neg (by omega), if_pos he]
        · left; rw [if_neg (by omega), if_neg he]
      · rw [if_neg (by omega), if_neg (by omega)]
    · right; right
      unfold sv
      simp only [Bool.false_eq_true, if_false, if_true]
      refine ⟨?_, ?_, by omega⟩
      · rw [if_pos (by omega)]
      · by_cases he : (y : Int) = H
        · right; rw [if_neg (by omega), if_pos (by omega)]
        · left; rw [if_pos (by omega)]
  · rw [if_neg hh] at hr
    subst hr
    left
    unfold sv
    cases s
    · simp only [Bool.false_eq_true, if_false, if_true]
      refine ⟨?_, ?_, trivial⟩
      · rw [if_pos (by omega)]
      · rw [if_neg (by omega), if_neg (by omega)]
    · simp only [Bool.false_eq_true, if_false, if_true]
      refine ⟨?_, ?_, trivial⟩
      · rw [if_pos (by omega)]
      · rw [if_neg (by omega), if_neg (by omega)]

/-- Where the document's answer refuses. -/
theorem most_order {p : Nat} {s : Bool} {P : Nat} (hp : Num p s P) :
    ((P + H) / U ≤ 1073741823 → double.order p 4742290407616937984 = some .lt ∧ double.order p 13965662444471713792 = some .gt) ∧
    (¬ (P + H) / U ≤ 1073741823 → (double.order p 4742290407616937984 = some .gt ∨ double.order p 4742290407616937984 = some .eq) ∨ (double.order p 4742290407616937984 = some .lt ∧ (double.order p 13965662444471713792 = some .lt ∨ double.order p 13965662444471713792 = some .eq))) := by
  have hU := U_eq
  have hHp := H_pos
  have hiff : (P + H) / U ≤ 1073741823 ↔ P < 1073741823 * U + H := by
    rw [← Nat.lt_succ_iff, Nat.div_lt_iff_lt_mul U_pos]
    omega
  rw [hiff, order_num hp num_most, order_num hp num_mmost, cmp3, cmp3]
  generalize 1073741823 * U + H = M at *
  unfold sv
  constructor
  · intro h
    cases s
    · simp only [Bool.false_eq_true, if_false, if_true]
      exact ⟨by rw [if_pos (by omega)], by rw [if_neg (by omega), if_neg (by omega)]⟩
    · simp only [Bool.false_eq_true, if_false, if_true]
      exact ⟨by rw [if_pos (by omega)], by rw [if_neg (by omega), if_neg (by omega)]⟩
  · intro h
    cases s
    · left
      simp only [Bool.false_eq_true, if_false]
      by_cases he : (P : Int) = M
      · right; rw [if_neg (by omega), if_pos he]
      · left; rw [if_neg (by omega), if_neg he]
    · by_cases h0 : M = 0 ∧ P = 0
      · left; right
        obtain ⟨rfl, rfl⟩ := h0
        rfl
      · right
        simp only [Bool.false_eq_true, if_false, if_true]
        refine ⟨by rw [if_pos (by omega)], ?_⟩
        by_cases he : (P : Int) = M
        · right; rw [if_neg (by omega), if_pos (by omega)]
        · left; rw [if_pos (by omega)]
end Fl
namespace Go.Proofs.YtlfhnldeidgkjaaDoor
open Go.RowKit

set_option maxHeartbeats 400000 in
theorem rnear_nan (x : Nat) (w : World) (h : (FloatKind.f64.format.order x x != some .eq) = true) :
    Calls Tryd.prog 28 #[.float .f64 x] w fun e w' => e = .returned (.tuple #[.int .i64 0, .int .i64 3]) ∧ w = w' := by
  go_enter Tryd.func28, Tryd.ntmps28
  go_wp2
  go_ret2
  exact ⟨rfl, rfl⟩

set_option maxHeartbeats 400000 in
theorem rnear_over (x : Nat) (w : World) (h : (FloatKind.f64.format.order x x != some .eq) = false)
    (ho : (FloatKind.f64.format.order x 4742290407616937984 = some .gt ∨ FloatKind.f64.format.order x 4742290407616937984 = some .eq) ∨ (FloatKind.f64.format.order x 4742290407616937984 = some .lt ∧ (FloatKind.f64.format.order x 13965662444471713792 = some .lt ∨ FloatKind.f64.format.order x 13965662444471713792 = some .eq))) :
    Calls Tryd.prog 28 #[.float .f64 x] w fun e w' => e = .returned (.tuple #[.int .i64 0, .int .i64 2]) ∧ w = w' := by
  have hs : ∀ W, (binOp .sub 22 (.float .f64 0) (.float .f64 4742290407616937984)).run Tryd.prog W = .ok (.float .f64 13965662444471713792) W := fun W => run_float_arith W .sub 22 .f64 _ _ _ Fl.sub_most
  rcases ho with (ho | ho) | ⟨ho, ho2 | ho2⟩
  all_goals
    go_enter Tryd.func28, Tryd.ntmps28
    go_wp2
    go_ret2
    exact ⟨rfl, rfl⟩

set_option maxHeartbeats 800000 in
theorem rnear_ok (x z : Nat) (n m : Int) (w : World) (h : (FloatKind.f64.format.order x x != some .eq) = false) (hb1 : -1073741824 ≤ n) (hb2 : n ≤ 1073741824)
    (ho : FloatKind.f64.format.order x 4742290407616937984 = some .lt) (ho2 : FloatKind.f64.format.order x 13965662444471713792 = some .gt)
    (hc : ∀ W, (convert 22 3 (.float .f64 x)).run Tryd.prog W = .ok (.int .i64 n) W)
    (hz : ∀ W, (binOp .sub 22 (.float .f64 x) (.float .f64 (floatOfInt .f64 n))).run Tryd.prog W = .ok (.float .f64 z) W)
    (hr : (FloatKind.f64.format.order z 4602678819172646912 = some .lt ∧ FloatKind.f64.format.order z 13826050856027422720 = some .gt ∧ m = n) ∨
     ((FloatKind.f64.format.order z 4602678819172646912 = some .gt ∨ FloatKind.f64.format.order z 4602678819172646912 = some .eq) ∧ FloatKind.f64.format.order z 13826050856027422720 = some .gt ∧ m = n + 1) ∨
     (FloatKind.f64.format.order z 4602678819172646912 = some .lt ∧ (FloatKind.f64.format.order z 13826050856027422720 = some .lt ∨ FloatKind.f64.format.order z 13826050856027422720 = some .eq) ∧ m = n - 1)) :
    Calls Tryd.prog 28 #[.float .f64 x] w fun e w' => e = .returned (.tuple #[.int .i64 m, .int .i64 0]) ∧ w = w' := by
  have hs : ∀ W, (binOp .sub 22 (.float .f64 0) (.float .f64 4742290407616937984)).run Tryd.prog W = .ok (.float .f64 13965662444471713792) W := fun W => run_float_arith W .sub 22 .f64 _ _ _ Fl.sub_most
  rcases hr with ⟨o1, o2, rfl⟩ | ⟨o1 | o1, o2, rfl⟩ | ⟨o1, o2 | o2, rfl⟩
  all_goals
    go_enter Tryd.func28, Tryd.ntmps28
    go_wp2
    go_ret2
    exact ⟨rfl, rfl⟩

theorem convert_trunc {x : Nat} {s : Bool} {P : Nat} (hx : Fl.Num x s P) (hn : P / Fl.U ≤ 1073741823) (W : World) : (convert 22 3 (.float .f64 x)).run Tryd.prog W = .ok (.int .i64 (Fl.sv s (P / Fl.U))) W := by
  refine run_convert_float_int W 22 3 .f64 .i64 x _ (by rw [Tryd.underlying22]; rfl) Tryd.underlying3 ?_
  have h1 := Fl.toInt_num hx
  have h2 := len_of_nat s _ hn
  unfold floatToIntVal
  show (match (Ieee.double.read x).toInt .zero with | some n => if IntKind.i64.min ≤ n ∧ n ≤ IntKind.i64.max then some n else none | none => none) = _
  rw [h1]
  have : IntKind.i64.min ≤ Fl.sv s (P / Fl.U) ∧ Fl.sv s (P / Fl.U) ≤ IntKind.i64.max := by
    simp [IntKind.min, IntKind.max, IntKind.bits, IntKind.signed]; omega
  exact if_pos this

theorem rnear_any (x : Nat) (w : World) :
    Calls Tryd.prog 28 #[.float .f64 x] w fun e w' => e = .returned (.tuple #[.int .i64 (Fl.ans x).1, .int .i64 (Fl.ans x).2]) ∧ w = w' := by
  rcases Fl.kinds x with ⟨s, f, h⟩ | ⟨s, h⟩ | ⟨s, P, h⟩
  · rw [Fl.ans_nan h]
    exact rnear_nan x w (Fl.order_self_nan h)
  · rw [Fl.ans_inf h]
    refine rnear_over x w (Fl.order_self_inf h) ?_
    show (Ieee.double.order x _ = _ ∨ Ieee.double.order x _ = _) ∨ (Ieee.double.order x _ = _ ∧ (Ieee.double.order x _ = _ ∨ Ieee.double.order x _ = _))
    rw [Fl.order_inf_num h Fl.num_most, Fl.order_inf_num h Fl.num_mmost]
    cases s
    · exact .inl (.inl rfl)
    · exact .inr ⟨rfl, .inl rfl⟩
  · rw [Fl.ans_num h]
    obtain ⟨m1, m2⟩ := Fl.most_order h
    by_cases hn : (P + Fl.H) / Fl.U ≤ 1073741823
    · rw [if_pos hn]
      obtain ⟨o1, o2⟩ := m1 hn
      obtain ⟨z, hz, hr⟩ := Fl.trunc_order h hn
      have hq : P / Fl.U ≤ 1073741823 := by have := Fl.round_parts P; omega
      have hb := len_of_nat s _ hq
      exact rnear_ok x z (Fl.sv s (P / Fl.U)) _ w (Fl.order_self_num h) (by omega) (by omega) o1 o2 (convert_trunc h hq) (fun W => run_float_arith W .sub 22 .f64 x _ z hz) hr
    · rw [if_neg hn]
      exact rnear_over x w (Fl.order_self_num h) (m2 hn)

set_option maxHeartbeats 400000 in
theorem rof_some (f p : Nat) (w : World) (hp : Ieee.double.mul f 4679240012837945344 = some p) :
    Calls Tryd.prog 10 #[.float .f64 f] w fun e w' => e = .returned (.tuple #[.int .i64 (Fl.ans p).1, .int .i64 (Fl.ans p).2]) ∧ Lo w w' := by
  have hm : ∀ W, (binOp .mul 22 (.float .f64 f) (.float .f64 4679240012837945344)).run Tryd.prog W = .ok (.float .f64 p) W := fun W => run_float_arith W .mul 22 .f64 f _ p hp
  have HN := Lib.hid (fun W => rnear_any p W)
  clear hp
  go_enter Tryd.func10, Tryd.ntmps10
  go_wp2_with fail
  refine (HN.out _).mono ?_
  rintro e w' ⟨rfl, rfl⟩
  go_wp2_with fail
  go_ret2
  exact ⟨rfl, Lo.refl _⟩

set_option maxHeartbeats 400000 in
theorem rof_none (f p : Nat) (w : World) (hm : (binOp .mul 22 (.float .f64 f) (.float .f64 4679240012837945344)).run Tryd.prog w = .ok (.float .f64 p) w.drew) (hp : Fl.ans p = (0, 3)) :
    Calls Tryd.prog 10 #[.float .f64 f] w fun e w' => e = .returned (.tuple #[.int .i64 0, .int .i64 3]) ∧ Lo w w' := by
  have HN := Lib.hid (fun W => rnear_any p W)
  rw [hp] at HN
  clear hp
  go_enter Tryd.func10, Tryd.ntmps10
  go_wp2_with fail
  refine (HN.out _).mono ?_
  rintro e w' ⟨rfl, rfl⟩
  go_wp2_with fail
  go_ret2
  exact ⟨rfl, (Lo.refl _).drew⟩

theorem rof_any (f : Nat) (w : World) :
    Calls Tryd.prog 10 #[.float .f64 f] w fun e w' => e = .returned (.tuple #[.int .i64 (Fl.of f).1, .int .i64 (Fl.of f).2]) ∧ Lo w w' := by
  unfold Fl.of
  cases hp : Ieee.double.mul f 4679240012837945344 with
  | some p => exact rof_some f p w hp
  | none =>
    obtain ⟨p, s, g, hlt, hread, hm⟩ := nan_run .mul 22 f 4679240012837945344 (.inl rfl) hp w
    exact rof_none f p w hm (Fl.ans_nan hread)

set_option maxHeartbeats 400000 in
theorem rfloat_no (a : Int) (w : World) (h : Fx.len a = false) :
    Calls Tryd.prog 12 #[.int .i64 a] w fun e w' => e = .returned (.tuple #[.float .f64 0, .int .i64 1]) ∧ w = w' := by
  have HI := Lib.hid h
  clear h
  go_enter Tryd.func12, Tryd.ntmps12
  go_wp2_with fail
  refine (rlen_any a _).mono ?_
  rw [HI.out]
  rintro e w' ⟨rfl, rfl⟩
  go_wp2_with fail
  go_ret2
  exact ⟨rfl, rfl⟩

set_option maxHeartbeats 400000 in
theorem rfloat_yes (a : Int) (q : Nat) (w : World) (h : Fx.len a = true) (hq : Ieee.double.div (floatOfInt .f64 a) 4679240012837945344 = some q) :
    Calls Tryd.prog 12 #[.int .i64 a] w fun e w' => e = .returned (.tuple #[.float .f64 q, .int .i64 0]) ∧ w = w' := by
  have HI := Lib.hid h
  have hm : ∀ W, (binOp .quo 22 (.float .f64 (floatOfInt .f64 a)) (.float .f64 4679240012837945344)).run Tryd.prog W = .ok (.float .f64 q) W := fun W => run_float_arith W .quo 22 .f64 _ _ q hq
  clear h hq
  go_enter Tryd.func12, Tryd.ntmps12
  go_wp2_with fail
  refine (rlen_any a _).mono ?_
  rw [HI.out]
  rintro e w' ⟨rfl, rfl⟩
  go_wp2_with fail
  go_ret2
  exact ⟨rfl, rfl⟩

set_option maxHeartbeats 400000 in
theorem rscale_no (a : Int) (f : Nat) (w : World) (h : Fx.len a = false) :
    Calls Tryd.prog 14 #[.int .i64 a, .float .f64 f] w fun e w' => e = .returned (.tuple #[.int .i64 0, .int .i64 1]) ∧ Lo w w' := by
  have HI := Lib.hid h
  clear h
  go_enter Tryd.func14, Tryd.ntmps14
  go_wp2_with fail
  refine (rlen_any a _).mono ?_
  rw [HI.out]
  rintro e w' ⟨rfl, rfl⟩
  go_wp2_with fail
  go_ret2
  exact ⟨rfl, Lo.refl _⟩

set_option maxHeartbeats 400000 in
theorem rscale_some (a : Int) (f p : Nat) (w : World) (h : Fx.len a = true) (hp : Ieee.double.mul (floatOfInt .f64 a) f = some p) :
    Calls Tryd.prog 14 #[.int .i64 a, .float .f64 f] w fun e w' => e = .returned (.tuple #[.int .i64 (Fl.ans p).1, .int .i64 (Fl.ans p).2]) ∧ Lo w w' := by
  have HI := Lib.hid h
  have hm : ∀ W, (binOp .mul 22 (.float .f64 (floatOfInt .f64 a)) (.float .f64 f)).run Tryd.prog W = .ok (.float .f64 p) W := fun W => run_float_arith W .mul 22 .f64 _ f p hp
  have HN := Lib.hid (fun W => rnear_any p W)
  clear h hp
  go_enter Tryd.func14, Tryd.ntmps14
  go_wp2_with fail
  refine (rlen_any a _).mono ?_
  rw [HI.out]
  rintro e w' ⟨rfl, rfl⟩
  go_wp2_with fail
  refine (HN.out _).mono ?_
  rintro e w' ⟨rfl, rfl⟩
  go_wp2_with fail
  go_ret2
  exact ⟨rfl, Lo.refl _⟩

set_option maxHeartbeats 400000 in
theorem rscale_none (a : Int) (f p : Nat) (w : World) (h : Fx.len a = true) (hm : (binOp .mul 22 (.float .f64 (floatOfInt .f64 a)) (.float .f64 f)).run Tryd.prog w = .ok (.float .f64 p) w.drew) (hp : Fl.ans p = (0, 3)) :
    Calls Tryd.prog 14 #[.int .i64 a, .float .f64 f] w fun e w' => e = .returned (.tuple #[.int .i64 0, .int .i64 3]) ∧ Lo w w' := by
  have HI := Lib.hid h
  have HN := Lib.hid (fun W => rnear_any p W)
  rw [hp] at HN
  clear h hp
  go_enter Tryd.func14, Tryd.ntmps14
  go_wp2_with fail
  refine (rlen_any a _).mono ?_
  rw [HI.out]
  rintro e w' ⟨rfl, rfl⟩
  go_wp2_with fail
  refine (HN.out _).mono ?_
  rintro e w' ⟨rfl, rfl⟩
  go_wp2_with fail
  go_ret2
  exact ⟨rfl, (Lo.refl _).drew⟩

theorem rscale_yes (a : Int) (f : Nat) (w : World) (h : Fx.len a = true) :
    Calls Tryd.prog 14 #[.int .i64 a, .float .f64 f] w fun e w' => e = .returned (.tuple #[.int .i64 (Fl.scale a f).1, .int .i64 (Fl.scale a f).2]) ∧ Lo w w' := by
  unfold Fl.scale
  cases hp : Ieee.double.mul (floatOfInt .f64 a) f with
  | some p => exact rscale_some a f p w h hp
  | none =>
    obtain ⟨p, s, g, hlt, hread, hm⟩ := nan_run .mul 22 (floatOfInt .f64 a) f (.inl rfl) hp w
    exact rscale_none a f p w h hm (Fl.ans_nan hread)
end Go.Proofs.YtlfhnldeidgkjaaDoor
