/-
  The walk of the law HeadUnits: it returns true for all heads and numbers. No conditions.
-/
import Derived.Test.YtbcilhdamjgoeaaHeHeaded
import Derived.Test.YtbcilhdamjgoeaaFxNear
namespace Go.Proofs.Ytbcilhdamjgoeaa
open Go.RowKit

theorem Fx.mulDiv_fst (a b c : Int) : -1073741823 ≤ (Fx.mulDiv a b c).1 ∧ (Fx.mulDiv a b c).1 ≤ 1073741823 := by
  unfold Fx.mulDiv
  split
  · unfold Fx.told
    split
    · rename_i h; exact (Fx.len_iff _).1 h
    · simp
  · simp
theorem Fx.mulDiv_twice (n s u : Int) (h1 : Fx.len n = true) (h2 : Fx.len s = true) (h3 : Fx.len (2 * s) = true) (h4 : Fx.len (2 * n) = true) : Fx.mulDiv n (2 * s) u = Fx.mulDiv (2 * n) s u := by
  unfold Fx.mulDiv
  have e : (Fx.is [n, 2 * s, u] = true ∧ u ≠ 0) = (Fx.is [2 * n, s, u] = true ∧ u ≠ 0) := by simp [Fx.is, h1, h2, h3, h4]
  simp only [e]
  rw [show n * (2 * s) = 2 * n * s by rw [← Int.mul_assoc, Int.mul_comm n 2]]
theorem Fx.mulDiv_nought (s u : Int) (h2 : Fx.len s = true) (h3 : Fx.len u = true) (h : u ≠ 0) : Fx.mulDiv 0 s u = (0, 0) := by
  unfold Fx.mulDiv
  rw [if_pos ⟨by simp [Fx.is, h2, h3, show Fx.len 0 = true from rfl], h⟩, Int.zero_mul, Fx.near_zero u h]
  rfl

set_option maxRecDepth 100000 in
set_option maxHeartbeats 1600000 in
theorem headUnits_none (h : He.Head) (n size : Int) (w : World) (hh : He.isHead h = false) :
    Calls Try.prog 10 #[aggH h, .int .i64 n, .int .i64 size] w fun e w' => e = .returned (.bool true) ∧ Lo w w' := by
  have HI := Lib.hid (fun W => his_any h W)
  rw [hh] at HI
  unfold aggH at *
  clear hh
  go_enter Try.func10, Try.ntmps10
  go_wp2_with fail
  refine (HI.out _).mono ?_
  rintro e w1 ⟨rfl, lo⟩
  have HL := Lib.hid (((Lo.refl w).alloc _).trans lo)
  clear lo
  go_wp2_with fail
  refine (headed_any _).mono ?_
  rintro e w2 ⟨rfl, lo⟩
  have HL := Lib.hid (HL.out.trans lo)
  clear lo
  go_wp2_with fail
  go_ret
  exact ⟨rfl, HL.out⟩
set_option maxRecDepth 100000 in
set_option maxHeartbeats 1600000 in
theorem headUnits_no (h : He.Head) (n size : Int) (w : World) (hh : He.isHead h = true) (hs : Fx.is [n, size, wrap64 (2 * size)] = false) :
    Calls Try.prog 10 #[aggH h, .int .i64 n, .int .i64 size] w fun e w' => e = .returned (.bool true) ∧ Lo w w' := by
  have HI := Lib.hid (fun W => his_any h W)
  rw [hh] at HI
  have HF := Lib.hid (fun (v : Value) (W : World) (hr : Row W v [n, size, wrap64 (2 * size)]) => is_any v _ W hr)
  rw [hs] at HF
  unfold aggH at *
  clear hh hs
  go_enter Try.func10, Try.ntmps10
  go_wp2_with fail
  refine (HI.out _).mono ?_
  rintro e w1 ⟨rfl, lo⟩
  have HL := Lib.hid (((Lo.refl w).alloc _).trans lo)
  clear lo
  go_wp2_with fail
  refine (HF.out _ _ (row3 w1 _ rfl n size _)).mono ?_
  rintro e w2 ⟨rfl, rfl⟩
  have HL := Lib.hid (HL.out.alloc (.cells #[.int .i64 n, .int .i64 size, .int .i64 (wrap64 (2 * size))] 3))
  go_wp2_with fail
  refine (headed_any _).mono ?_
  rintro e w3 ⟨rfl, lo⟩
  have HL := Lib.hid (HL.out.trans lo)
  clear lo
  go_wp2_with fail
  go_ret
  exact ⟨rfl, HL.out⟩
set_option maxRecDepth 100000 in
set_option maxHeartbeats 1600000 in
theorem headUnits_no2 (h : He.Head) (n size : Int) (w : World) (hh : He.isHead h = true) (b1 : -1073741823 ≤ n) (b2 : n ≤ 1073741823) (b3 : -1073741823 ≤ size) (b4 : size ≤ 1073741823) (hs : Fx.is [n, size, 2 * size] = true) (hs2 : Fx.is [2 * n] = false) :
    Calls Try.prog 10 #[aggH h, .int .i64 n, .int .i64 size] w fun e w' => e = .returned (.bool true) ∧ Lo w w' := by
  have HI := Lib.hid (fun W => his_any h W)
  rw [hh] at HI
  have HF := Lib.hid (fun (v : Value) (W : World) (hr : Row W v [n, size, 2 * size]) => is_any v _ W hr)
  rw [hs] at HF
  have HF2 := Lib.hid (fun (v : Value) (W : World) (hr : Row W v [2 * n]) => is_any v _ W hr)
  rw [hs2] at HF2
  unfold aggH at *
  clear hh hs hs2
  go_enter Try.func10, Try.ntmps10
  go_wp2_with fail
  refine (HI.out _).mono ?_
  rintro e w1 ⟨rfl, lo⟩
  have HL := Lib.hid (((Lo.refl w).alloc _).trans lo)
  clear lo
  go_wp2_with fail
  refine (HF.out _ _ (row3 w1 _ rfl n size _)).mono ?_
  rintro e w2 ⟨rfl, rfl⟩
  generalize hW : World.alloc w1 _ = w2
  have HL := Lib.hid (show Lo w w2 by rw [← hW]; exact HL.out.alloc _)
  clear hW
  go_wp2_with fail
  refine (HF2.out _ _ (row1 w2 _ rfl _)).mono ?_
  rintro e w3 ⟨rfl, rfl⟩
  generalize hW : World.alloc w2 _ = w3
  have HL := Lib.hid (show Lo w w3 by rw [← hW]; exact HL.out.alloc _)
  clear hW
  go_wp2_with fail
  refine (headed_any _).mono ?_
  rintro e w4 ⟨rfl, lo⟩
  have HL := Lib.hid (HL.out.trans lo)
  clear lo
  go_wp2_with fail
  go_ret
  exact ⟨rfl, HL.out⟩
set_option maxRecDepth 100000 in
set_option maxHeartbeats 3200000 in
theorem headUnits_yes (h : He.Head) (n size : Int) (w : World) (hh : He.isHead h = true) (hs : Fx.is [n, size, 2 * size] = true) (hs2 : Fx.is [2 * n] = true) :
    Calls Try.prog 10 #[aggH h, .int .i64 n, .int .i64 size] w fun e w' => e = .returned (.bool true) ∧ Lo w w' := by
  have HI := Lib.hid (fun W => his_any h W)
  rw [hh] at HI
  have HF := Lib.hid (fun (v : Value) (W : World) (hr : Row W v [n, size, 2 * size]) => is_any v _ W hr)
  rw [hs] at HF
  have HF2 := Lib.hid (fun (v : Value) (W : World) (hr : Row W v [2 * n]) => is_any v _ W hr)
  rw [hs2] at HF2
  obtain ⟨l1, l2, l3⟩ : Fx.len n = true ∧ Fx.len size = true ∧ Fx.len (2 * size) = true := by simpa [Fx.is] using hs
  have l4 : Fx.len (2 * n) = true := by simpa [Fx.is] using hs2
  obtain ⟨b1, b2⟩ := (Fx.len_iff _).1 l1
  obtain ⟨b3, b4⟩ := (Fx.len_iff _).1 l2
  obtain ⟨⟨q1, q2⟩, _⟩ := (He.isHead_iff h).1 hh
  have lu : Fx.len h.upem = true := Fx.len_yes (by omega) (by omega)
  have hu0 : h.upem ≠ 0 := by omega
  have hun : ∀ a b : Int, He.units h a b = Fx.mulDiv a b h.upem := fun a b => by unfold He.units; rw [if_neg (by rw [hh]; simp)]
  have HU1 := Lib.hid (fun W => units_any h h.upem size W)
  rw [hun, Fx.mulDiv_comm, Fx.mulDiv_self size h.upem l2 lu hu0] at HU1
  have HU2 := Lib.hid (fun W => units_any h 0 size W)
  rw [hun, Fx.mulDiv_nought size h.upem l2 lu hu0] at HU2
  have HU3 := Lib.hid (fun W => units_any h n size W)
  rw [hun] at HU3
  have HU4 := Lib.hid (fun W => units_any h (-n) size W)
  rw [hun, Fx.mulDiv_neg] at HU4
  have HU5 := Lib.hid (fun W => units_any h n (2 * size) W)
  rw [hun, Fx.mulDiv_twice n size h.upem l1 l2 l3 l4] at HU5
  have HU6 := Lib.hid (fun W => units_any h (2 * n) size W)
  rw [hun] at HU6
  obtain ⟨c1, c2⟩ := Fx.mulDiv_fst n size h.upem
  unfold tup at HU1 HU2 HU3 HU4 HU5 HU6
  generalize Fx.mulDiv n size h.upem = y at *
  generalize Fx.mulDiv (2 * n) size h.upem = z at *
  obtain ⟨y1, y2⟩ := y
  obtain ⟨z1, z2⟩ := z
  unfold aggH at *
  simp only at HU1 HU2 HU3 HU4 HU5 HU6 c1 c2
  clear hh hs hs2 l1 l2 l3 l4 q1 q2 lu hu0 hun
  generalize h.upem = x0 at *
  generalize h.glyphs = x1 at *
  generalize h.metrics = x2 at *
  generalize h.asc = x3 at *
  generalize h.desc = x4 at *
  generalize h.long = x5 at *
  go_enter Try.func10, Try.ntmps10
  go_wp2_with fail
  refine (HI.out _).mono ?_
  rintro e w1 ⟨rfl, lo⟩
  have HL := Lib.hid (((Lo.refl w).alloc _).trans lo)
  have HB := Lib.hid (lo_block lo (new_block w _))
  clear lo HI
  go_wp2_with fail
  refine (HF.out _ _ (row3 w1 _ rfl n size _)).mono ?_
  rintro e w2 ⟨rfl, rfl⟩
  generalize hW : World.alloc w1 _ = w2
  have lo : Lo w1 w2 := by rw [← hW]; exact (Lo.refl w1).alloc _
  have HL := Lib.hid (HL.out.trans lo)
  have HB := Lib.hid (lo_block lo HB.out)
  clear hW lo
  go_wp2_with fail
  refine (HF2.out _ _ (row1 w2 _ rfl _)).mono ?_
  rintro e w3 ⟨rfl, rfl⟩
  generalize hW : World.alloc w2 _ = w3
  have lo : Lo w2 w3 := by rw [← hW]; exact (Lo.refl w2).alloc _
  have HL := Lib.hid (HL.out.trans lo)
  have HB := Lib.hid (lo_block lo HB.out)
  clear hW lo
  obtain ⟨⟨r0, r1, r2, r3, r4, r5⟩, _⟩ := six_at HB.out
  go_wp2_with fail
  refine (HU1.out _).mono ?_
  rintro e w4 ⟨rfl, lo⟩
  have HL := Lib.hid (HL.out.trans lo)
  have HB := Lib.hid (lo_block lo HB.out)
  clear lo r0 r1 r2 r3 r4 r5
  obtain ⟨⟨r0, r1, r2, r3, r4, r5⟩, _⟩ := six_at HB.out
  go_wp2_with fail
  refine (HU2.out _).mono ?_
  rintro e w5 ⟨rfl, lo⟩
  have HL := Lib.hid (HL.out.trans lo)
  have HB := Lib.hid (lo_block lo HB.out)
  clear lo r0 r1 r2 r3 r4 r5
  obtain ⟨⟨r0, r1, r2, r3, r4, r5⟩, _⟩ := six_at HB.out
  go_wp2_with fail
  refine (HU3.out _).mono ?_
  rintro e w6 ⟨rfl, lo⟩
  have HL := Lib.hid (HL.out.trans lo)
  have HB := Lib.hid (lo_block lo HB.out)
  clear lo r0 r1 r2 r3 r4 r5
  obtain ⟨⟨r0, r1, r2, r3, r4, r5⟩, _⟩ := six_at HB.out
  go_wp2_with fail
  refine (HU4.out _).mono ?_
  rintro e w7 ⟨rfl, lo⟩
  have HL := Lib.hid (HL.out.trans lo)
  have HB := Lib.hid (lo_block lo HB.out)
  clear lo r0 r1 r2 r3 r4 r5
  obtain ⟨⟨r0, r1, r2, r3, r4, r5⟩, _⟩ := six_at HB.out
  go_wp2_with fail
  refine (HU5.out _).mono ?_
  rintro e w8 ⟨rfl, lo⟩
  have HL := Lib.hid (HL.out.trans lo)
  have HB := Lib.hid (lo_block lo HB.out)
  clear lo r0 r1 r2 r3 r4 r5
  obtain ⟨⟨r0, r1, r2, r3, r4, r5⟩, _⟩ := six_at HB.out
  go_wp2_with fail
  refine (HU6.out _).mono ?_
  rintro e w9 ⟨rfl, lo⟩
  have HL := Lib.hid (HL.out.trans lo)
  clear lo r0 r1 r2 r3 r4 r5
  go_wp2_with fail
  refine (headed_any _).mono ?_
  rintro e w10 ⟨rfl, lo⟩
  have HL := Lib.hid (HL.out.trans lo)
  clear lo
  go_wp2_with fail
  go_ret
  refine ⟨?_, HL.out⟩
  first | rfl | (apply ret_bool; simp)

theorem headUnits_walk (h : He.Head) (n size : Int) (w : World) (_w1 : (Lit.int .i64 n).wf = true) (_w2 : (Lit.int .i64 size).wf = true) :
    Calls Try.prog 10 #[aggH h, .int .i64 n, .int .i64 size] w fun e w' => e = .returned (.bool true) ∧ Below w.heap.size w w' := by
  cases hh : He.isHead h with
  | false => exact headUnits_none h n size w hh
  | true =>
    cases hs : Fx.is [n, size, wrap64 (2 * size)] with
    | false => exact headUnits_no h n size w hh hs
    | true =>
      obtain ⟨l1, l2, l3⟩ : Fx.len n = true ∧ Fx.len size = true ∧ Fx.len (wrap64 (2 * size)) = true := by simpa [Fx.is] using hs
      obtain ⟨b1, b2⟩ := (Fx.len_iff _).1 l1
      obtain ⟨b3, b4⟩ := (Fx.len_iff _).1 l2
      rw [wrap_id (by omega) (by omega)] at hs
      cases hs2 : Fx.is [2 * n] with
      | false => exact headUnits_no2 h n size w hh b1 b2 b3 b4 hs hs2
      | true => exact headUnits_yes h n size w hh hs hs2
end Go.Proofs.Ytbcilhdamjgoeaa
