/-
  The contracts of dimen.Of, dimen.Float and dimen.Scale: they answer what the plain functions on words say, for all floats and integers. No conditions.
-/
import Derived.Test.YtlfhnldeidgkjaaDoorDmCaught
import Derived.Laws.NewFold
namespace Fl
open Ieee
/-- dimen.Of. -/
def of (f : Nat) : Int × Int := match double.mul f 4679240012837945344 with | some p => ans p | none => (0, 3)
/-- dimen.Scale of a length. -/
def scale (a : Int) (f : Nat) : Int × Int := match double.mul (Go.floatOfInt .f64 a) f with | some p => ans p | none => (0, 3)
theorem read_nan_of (x : Nat) (h : 9218868437227405312 < x % 9223372036854775808) : ∃ s f, double.read x = .nan s f := by
  refine ⟨x / 9223372036854775808 % 2 == 1, x % 9223372036854775808 - 9218868437227405312, ?_⟩
  rw [read_any, if_neg (by omega), if_neg (by omega), if_neg (by omega)]
theorem write_lt (d : Datum) : double.write d < 18446744073709551616 := Format.write_lt double d
theorem mul_lt {x y r : Nat} (h : double.mul x y = some r) : r < 18446744073709551616 := Format.mul_lt double h
end Fl
namespace Go.Proofs.YtlfhnldeidgkjaaDoor
open Go.RowKit

theorem nan_run (op : BinOp) (t : TypeId) (x y : Nat) (hop : op = .mul ∨ op = .sub ∨ op = .quo ∨ op = .add) (h : floatBits op .f64 x y = none) (W : World) :
    ∃ b s f, b < 18446744073709551616 ∧ Ieee.double.read b = .nan s f ∧ (binOp op t (.float .f64 x) (.float .f64 y)).run Tryd.prog W = .ok (.float .f64 b) W.drew := by
  have hb : ∀ t : Nat, ∃ s f, (t % 2) * 2 ^ 63 + 0x7ff0000000000000 + 1 + (t / 2) % (2 ^ 52 - 1) < 18446744073709551616 ∧ Ieee.double.read ((t % 2) * 2 ^ 63 + 0x7ff0000000000000 + 1 + (t / 2) % (2 ^ 52 - 1)) = .nan s f := by
    intro t
    have h1 : t % 2 < 2 := Nat.mod_lt _ (by omega)
    have h2 : t / 2 % (2 ^ 52 - 1) < 2 ^ 52 - 1 := Nat.mod_lt _ (by omega)
    generalize t % 2 = u at *
    generalize t / 2 % (2 ^ 52 - 1) = q at *
    obtain ⟨s, f, h⟩ := Fl.read_nan_of (u * 2 ^ 63 + 0x7ff0000000000000 + 1 + q) (by omega)
    exact ⟨s, f, by omega, h⟩
  obtain ⟨s, f, h1, h2⟩ := hb (W.tape W.drawn (.nanBits .f64 x y))
  refine ⟨_, s, f, h1, h2, ?_⟩
  unfold floatBits at h
  rcases hop with rfl | rfl | rfl | rfl <;> simp only at h <;> simp [binOp, Op.floatArith, h, Question.forced, Question.cut]

theorem ret_pair {a b c d : Int} (h : a = c) (k : b = d) : Ending.returned (.tuple #[.int .i64 a, .int .i64 b]) = .returned (.tuple #[.int .i64 c, .int .i64 d]) := by rw [h, k]

set_option maxHeartbeats 400000 in
/-- The work of Of where the product is a float that the format has. -/
theorem of1_ret (a : Addr) (f p : Nat) (n : Int) (hm : ∀ W, (binOp .mul 22 (.float .f64 f) (.float .f64 4679240012837945344)).run Tryd.prog W = .ok (.float .f64 p) W)
    (hn : ∀ w, Calls Tryd.prog 27 #[.float .f64 p] w fun e w' => e = .returned (.int .i64 n) ∧ w = w') (w : World) (hc : w.cell? a = some (.float .f64 f)) :
    Calls Tryd.prog 26 #[.pointer (some a)] w fun e w' => e = .returned (.int .i64 n) ∧ Lo w w' := by
  have HN := Lib.hid hn
  clear hn
  go_enter Tryd.func26, Tryd.ntmps26
  go_wp2_with fail
  refine (HN.out _).mono ?_
  rintro e w' ⟨rfl, rfl⟩
  go_wp2_with fail
  go_ret
  exact ⟨rfl, Lo.refl _⟩

set_option maxHeartbeats 400000 in
theorem of1_raise (a : Addr) (f p : Nat) (k : Int) (hm : ∀ W, (binOp .mul 22 (.float .f64 f) (.float .f64 4679240012837945344)).run Tryd.prog W = .ok (.float .f64 p) W)
    (hn : ∀ w, Calls Tryd.prog 27 #[.float .f64 p] w fun e w' => e = .panicked (raise k) ∧ w = w') (w : World) (hc : w.cell? a = some (.float .f64 f)) :
    Calls Tryd.prog 26 #[.pointer (some a)] w fun e w' => e = .panicked (raise k) ∧ Lo w w' := by
  have HN := Lib.hid hn
  clear hn
  go_enter Tryd.func26, Tryd.ntmps26
  go_wp2_with fail
  refine (HN.out _).mono ?_
  rintro e w' ⟨rfl, rfl⟩
  exact ⟨rfl, rfl, Lo.refl _⟩

set_option maxHeartbeats 400000 in
theorem of1_nan (a : Addr) (f p : Nat) (k : Int) (w : World) (hm : (binOp .mul 22 (.float .f64 f) (.float .f64 4679240012837945344)).run Tryd.prog w = .ok (.float .f64 p) w.drew)
    (hn : ∀ w, Calls Tryd.prog 27 #[.float .f64 p] w fun e w' => e = .panicked (raise k) ∧ w = w') (hc : w.cell? a = some (.float .f64 f)) :
    Calls Tryd.prog 26 #[.pointer (some a)] w fun e w' => e = .panicked (raise k) ∧ Lo w w' := by
  have HN := Lib.hid hn
  clear hn
  go_enter Tryd.func26, Tryd.ntmps26
  go_wp2_with fail
  refine (HN.out _).mono ?_
  rintro e w' ⟨rfl, rfl⟩
  exact ⟨rfl, rfl, (Lo.refl _).drew⟩

theorem of1_split (f : Nat) (w : World) (a : Addr) (hc : w.cell? a = some (.float .f64 f)) :
    (Fl.of f).2 = 0 ∧ (Calls Tryd.prog 26 #[.pointer (some a)] w fun e w' => e = .returned (.int .i64 (Fl.of f).1) ∧ Lo w w') ∨
    (Fl.of f).1 = 0 ∧ (Calls Tryd.prog 26 #[.pointer (some a)] w fun e w' => e = .panicked (raise (Fl.of f).2) ∧ Lo w w') := by
  unfold Fl.of
  cases hp : Ieee.double.mul f 4679240012837945344 with
  | some p =>
    have hm : ∀ W, (binOp .mul 22 (.float .f64 f) (.float .f64 4679240012837945344)).run Tryd.prog W = .ok (.float .f64 p) W := fun W => run_float_arith W .mul 22 .f64 f _ p hp
    rcases nearest_split p (Fl.mul_lt hp) with ⟨h0, hn⟩ | ⟨h0, hn⟩
    · exact .inl ⟨h0, of1_ret a f p _ hm hn w hc⟩
    · exact .inr ⟨h0, of1_raise a f p _ hm hn w hc⟩
  | none =>
    obtain ⟨p, s, g, hlt, hread, hm⟩ := nan_run .mul 22 f 4679240012837945344 (.inl rfl) hp w
    exact .inr ⟨rfl, of1_nan a f p 3 w hm (fun w => nearest_nan p w (Fl.order_self_nan hread)) hc⟩

set_option maxHeartbeats 400000 in
theorem of_any (f : Nat) (w : World) :
    Calls Tryd.prog 9 #[.float .f64 f] w fun e w' => e = .returned (.tuple #[.int .i64 (Fl.of f).1, .int .i64 (Fl.of f).2]) ∧ Lo w w' := by
  have hmf : ∀ (fn : Fn) (first cap : Array Value) (w : World), (Instr.makeFunc fn first cap).run Tryd.prog w = .ok (.func fn first cap) w := fun _ _ _ _ => rfl
  have HC := Lib.hid (caught_any 26 #[.pointer (some ⟨w.heap.size, 0, none⟩)] (Fl.of f) (w.alloc (.cells #[.float .f64 f] 22)) (fun W => by simp [go_sem])
    (of1_split f _ ⟨w.heap.size, 0, none⟩ (by rw [(boxed_lo _).cell (by simp)]; simp [go_sem])))
  go_enter Tryd.func9, Tryd.ntmps9
  go_wp2_with fail
  refine HC.out.mono ?_
  rintro e w1 ⟨rfl, hlo⟩
  clear HC
  go_wp2_with fail
  go_ret2
  exact ⟨rfl, ((Lo.refl w).alloc _).trans hlo⟩

theorem one_len (a : Int) : Fx.is [a] = Fx.len a := by simp [Fx.is]

set_option maxHeartbeats 400000 in
theorem float_no (a : Int) (w : World) (h : Fx.len a = false) :
    Calls Tryd.prog 11 #[.int .i64 a] w fun e w' => e = .returned (.tuple #[.float .f64 0, .int .i64 1]) ∧ Lo w w' := by
  have HI := Lib.hid ((one_len a).trans h)
  clear h
  go_enter Tryd.func11, Tryd.ntmps11
  go_wp2_with fail
  refine (is_any _ [a] _ (row1 _ _ (by simp) a)).mono ?_
  rw [HI.out]
  rintro e w' ⟨rfl, rfl⟩
  go_wp2_with fail
  go_ret2
  exact ⟨rfl, (Lo.refl w).alloc _⟩

set_option maxHeartbeats 400000 in
theorem float_yes (a : Int) (q : Nat) (w : World) (h : Fx.len a = true) (hq : Ieee.double.div (floatOfInt .f64 a) 4679240012837945344 = some q) :
    Calls Tryd.prog 11 #[.int .i64 a] w fun e w' => e = .returned (.tuple #[.float .f64 q, .int .i64 0]) ∧ Lo w w' := by
  have HI := Lib.hid ((one_len a).trans h)
  have hm : ∀ W, (binOp .quo 22 (.float .f64 (floatOfInt .f64 a)) (.float .f64 4679240012837945344)).run Tryd.prog W = .ok (.float .f64 q) W := fun W => run_float_arith W .quo 22 .f64 _ _ q hq
  clear h hq
  go_enter Tryd.func11, Tryd.ntmps11
  go_wp2_with fail
  refine (is_any _ [a] _ (row1 _ _ (by simp) a)).mono ?_
  rw [HI.out]
  rintro e w' ⟨rfl, rfl⟩
  go_wp2_with fail
  go_ret2
  exact ⟨rfl, (Lo.refl w).alloc _⟩

set_option maxHeartbeats 400000 in
theorem scale_no (a : Int) (f : Nat) (w : World) (h : Fx.len a = false) :
    Calls Tryd.prog 13 #[.int .i64 a, .float .f64 f] w fun e w' => e = .returned (.tuple #[.int .i64 0, .int .i64 1]) ∧ Lo w w' := by
  have HI := Lib.hid ((one_len a).trans h)
  clear h
  go_enter Tryd.func13, Tryd.ntmps13
  go_wp2_with fail
  refine (is_any _ [a] _ (row1 _ _ (by simp) a)).mono ?_
  rw [HI.out]
  rintro e w' ⟨rfl, rfl⟩
  go_wp2_with fail
  go_ret2
  exact ⟨rfl, (((Lo.refl w).alloc _).alloc _).alloc _⟩

set_option maxHeartbeats 400000 in
theorem scale1_ret (a b : Addr) (c : Int) (f p : Nat) (n : Int) (hm : ∀ W, (binOp .mul 22 (.float .f64 (floatOfInt .f64 c)) (.float .f64 f)).run Tryd.prog W = .ok (.float .f64 p) W)
    (hn : ∀ w, Calls Tryd.prog 27 #[.float .f64 p] w fun e w' => e = .returned (.int .i64 n) ∧ w = w') (w : World) (ha : w.cell? a = some (.int .i64 c)) (hb : w.cell? b = some (.float .f64 f)) :
    Calls Tryd.prog 30 #[.pointer (some a), .pointer (some b)] w fun e w' => e = .returned (.int .i64 n) ∧ Lo w w' := by
  have HN := Lib.hid hn
  clear hn
  go_enter Tryd.func30, Tryd.ntmps30
  go_wp2_with fail
  refine (HN.out _).mono ?_
  rintro e w' ⟨rfl, rfl⟩
  go_wp2_with fail
  go_ret
  exact ⟨rfl, Lo.refl _⟩

set_option maxHeartbeats 400000 in
theorem scale1_raise (a b : Addr) (c : Int) (f p : Nat) (k : Int) (hm : ∀ W, (binOp .mul 22 (.float .f64 (floatOfInt .f64 c)) (.float .f64 f)).run Tryd.prog W = .ok (.float .f64 p) W)
    (hn : ∀ w, Calls Tryd.prog 27 #[.float .f64 p] w fun e w' => e = .panicked (raise k) ∧ w = w') (w : World) (ha : w.cell? a = some (.int .i64 c)) (hb : w.cell? b = some (.float .f64 f)) :
    Calls Tryd.prog 30 #[.pointer (some a), .pointer (some b)] w fun e w' => e = .panicked (raise k) ∧ Lo w w' := by
  have HN := Lib.hid hn
  clear hn
  go_enter Tryd.func30, Tryd.ntmps30
  go_wp2_with fail
  refine (HN.out _).mono ?_
  rintro e w' ⟨rfl, rfl⟩
  exact ⟨rfl, rfl, Lo.refl _⟩

set_option maxHeartbeats 400000 in
theorem scale1_nan (a b : Addr) (c : Int) (f p : Nat) (k : Int) (w : World) (hm : (binOp .mul 22 (.float .f64 (floatOfInt .f64 c)) (.float .f64 f)).run Tryd.prog w = .ok (.float .f64 p) w.drew)
    (hn : ∀ w, Calls Tryd.prog 27 #[.float .f64 p] w fun e w' => e = .panicked (raise k) ∧ w = w') (ha : w.cell? a = some (.int .i64 c)) (hb : w.cell? b = some (.float .f64 f)) :
    Calls Tryd.prog 30 #[.pointer (some a), .pointer (some b)] w fun e w' => e = .panicked (raise k) ∧ Lo w w' := by
  have HN := Lib.hid hn
  clear hn
  go_enter Tryd.func30, Tryd.ntmps30
  go_wp2_with fail
  refine (HN.out _).mono ?_
  rintro e w' ⟨rfl, rfl⟩
  exact ⟨rfl, rfl, (Lo.refl _).drew⟩

theorem scale1_split (c : Int) (f : Nat) (w : World) (a b : Addr) (ha : w.cell? a = some (.int .i64 c)) (hb : w.cell? b = some (.float .f64 f)) :
    (Fl.scale c f).2 = 0 ∧ (Calls Tryd.prog 30 #[.pointer (some a), .pointer (some b)] w fun e w' => e = .returned (.int .i64 (Fl.scale c f).1) ∧ Lo w w') ∨
    (Fl.scale c f).1 = 0 ∧ (Calls Tryd.prog 30 #[.pointer (some a), .pointer (some b)] w fun e w' => e = .panicked (raise (Fl.scale c f).2) ∧ Lo w w') := by
  unfold Fl.scale
  cases hp : Ieee.double.mul (floatOfInt .f64 c) f with
  | some p =>
    have hm : ∀ W, (binOp .mul 22 (.float .f64 (floatOfInt .f64 c)) (.float .f64 f)).run Tryd.prog W = .ok (.float .f64 p) W := fun W => run_float_arith W .mul 22 .f64 _ _ p hp
    rcases nearest_split p (Fl.mul_lt hp) with ⟨h0, hn⟩ | ⟨h0, hn⟩
    · exact .inl ⟨h0, scale1_ret a b c f p _ hm hn w ha hb⟩
    · exact .inr ⟨h0, scale1_raise a b c f p _ hm hn w ha hb⟩
  | none =>
    obtain ⟨p, s, g, hlt, hread, hm⟩ := nan_run .mul 22 (floatOfInt .f64 c) f (.inl rfl) hp w
    exact .inr ⟨rfl, scale1_nan a b c f p 3 w hm (fun w => nearest_nan p w (Fl.order_self_nan hread)) ha hb⟩

set_option maxHeartbeats 400000 in
theorem scale_yes (a : Int) (f : Nat) (w : World) (h : Fx.len a = true) :
    Calls Tryd.prog 13 #[.int .i64 a, .float .f64 f] w fun e w' => e = .returned (.tuple #[.int .i64 (Fl.scale a f).1, .int .i64 (Fl.scale a f).2]) ∧ Lo w w' := by
  have hmf : ∀ (fn : Fn) (first cap : Array Value) (w : World), (Instr.makeFunc fn first cap).run Tryd.prog w = .ok (.func fn first cap) w := fun _ _ _ _ => rfl
  have HI := Lib.hid ((one_len a).trans h)
  have HC := Lib.hid (caught_any 30 #[.pointer (some ⟨w.heap.size, 0, none⟩), .pointer (some ⟨w.heap.size + 1, 0, none⟩)] (Fl.scale a f) (((w.alloc (.cells #[.int .i64 a] 3)).alloc (.cells #[.float .f64 f] 22)).alloc (.cells #[.int .i64 a] 3)) (fun W => by simp [go_sem])
    (scale1_split a f _ ⟨w.heap.size, 0, none⟩ ⟨w.heap.size + 1, 0, none⟩ (by rw [(boxed_lo _).cell (by simp; omega)]; simp [go_sem]) (by rw [(boxed_lo _).cell (by simp)]; simp [go_sem])))
  clear h
  go_enter Tryd.func13, Tryd.ntmps13
  go_wp2_with fail
  refine (is_any _ [a] _ (row1 _ _ (by simp) a)).mono ?_
  rw [HI.out]
  rintro e w' ⟨rfl, rfl⟩
  go_wp2_with fail
  refine HC.out.mono ?_
  rintro e w1 ⟨rfl, hlo⟩
  clear HC
  go_wp2_with fail
  go_ret2
  exact ⟨rfl, ((((Lo.refl w).alloc _).alloc _).alloc _).trans hlo⟩
end Go.Proofs.YtlfhnldeidgkjaaDoor
