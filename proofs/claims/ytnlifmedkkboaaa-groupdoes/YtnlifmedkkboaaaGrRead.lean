/-
  Contract of group.read: the step of a subtable's spans and how many groups it has, or an error. No conditions beyond those stated.
-/
import Derived.Test.YtnlifmedkkboaaaGrBase
import Derived.Test.YtnlifmedkkboaaaBnGet2
namespace Gp
open Bn He Ch Sg
/-- The error of a subtable as a whole, ahead of its groups. -/
def rerr (s : List UInt8) : Int :=
  if s.length < 16 then 4
  else if fld s 0 2 ≠ 12 ∧ fld s 0 2 ≠ 13 then 5
  else if 65536 < long s 12 then 7
  else if long s 4 ≠ 16 + 12 * long s 12 then 5
  else if (s.length : Int) < 16 + 12 * long s 12 then 4
  else 0
theorem get_rerr {s : List UInt8} (h : rerr s ≠ 0) : get s = ([], rerr s) := by
  unfold rerr at *
  unfold get
  by_cases c1 : s.length < 16
  · rw [if_pos c1, if_pos c1]
  · rw [if_neg c1] at h ⊢
    rw [if_neg c1]
    by_cases c2 : fld s 0 2 ≠ 12 ∧ fld s 0 2 ≠ 13
    · rw [if_pos c2, if_pos c2]
    · rw [if_neg c2] at h ⊢
      rw [if_neg c2]
      by_cases c3 : 65536 < long s 12
      · rw [if_pos c3, if_pos c3]
      · rw [if_neg c3] at h ⊢
        rw [if_neg c3]
        by_cases c4 : long s 4 ≠ 16 + 12 * long s 12
        · rw [if_pos c4, if_pos c4]
        · rw [if_neg c4] at h ⊢
          rw [if_neg c4]
          by_cases c5 : (s.length : Int) < 16 + 12 * long s 12
          · rw [if_pos c5, if_pos c5]
          · rw [if_neg c5] at h; exact absurd rfl h
theorem get_rok {s : List UInt8} (h : rerr s = 0) : get s = (if isL (rows s) = true then (rows s, 0) else ([], 5)) ∧ 16 ≤ s.length ∧ (fld s 0 2 = 12 ∨ fld s 0 2 = 13) ∧ long s 12 ≤ 65536 ∧ 16 + 12 * (rows s).length ≤ s.length := by
  have hb := long_bound s 12
  unfold rerr at h
  unfold get
  by_cases c1 : s.length < 16
  · rw [if_pos c1] at h; cases h
  · rw [if_neg c1] at h ⊢
    by_cases c2 : fld s 0 2 ≠ 12 ∧ fld s 0 2 ≠ 13
    · rw [if_pos c2] at h; cases h
    · rw [if_neg c2] at h ⊢
      by_cases c3 : 65536 < long s 12
      · rw [if_pos c3] at h; cases h
      · rw [if_neg c3] at h ⊢
        by_cases c4 : long s 4 ≠ 16 + 12 * long s 12
        · rw [if_pos c4] at h; cases h
        · rw [if_neg c4] at h ⊢
          by_cases c5 : (s.length : Int) < 16 + 12 * long s 12
          · rw [if_pos c5] at h; cases h
          · rw [if_neg c5]
            refine ⟨?_, by omega, by omega, by omega, ?_⟩
            · cases e : isL (rows s) with
              | true => rfl
              | false => rfl
            · unfold rows
              rw [List.length_map, List.length_range]
              omega
theorem bget_head (s : List UInt8) : Bn.get s 0 [2, 2, 4, 4, 4] = if s.length < 16 then ([], 4) else ([fld s 0 2, fld s 2 2, fld s 4 4, fld s 8 4, fld s 12 4], 0) := by
  unfold Bn.get
  rw [if_neg (by
    rintro (h | h)
    · exact absurd h (by decide)
    · omega)]
  have hm : Bn.many [2, 2, 4, 4, 4] = 16 := rfl
  rw [hm]
  by_cases c : s.length < 16
  · rw [if_pos c, if_pos (by omega)]
  · rw [if_neg c, if_neg (by omega)]
    unfold fld
    simp only [fields, Int.toNat_zero, List.drop_zero, List.drop_drop]
    rfl
theorem bget_three (s : List UInt8) (pos : Nat) : Bn.get s (pos : Int) [4, 4, 4] = if s.length < pos + 12 then ([], 4) else ([fld s pos 4, fld s (pos + 4) 4, fld s (pos + 8) 4], 0) := by
  have := Ch.bget_rep s pos 3 (size := 4) (by decide)
  rw [show List.replicate 3 (4 : Int) = [4, 4, 4] from rfl] at this
  rw [this]
  rfl
theorem long_le (s : List UInt8) (p : Nat) : long s p ≤ 4294967295 := by
  unfold long fld one
  rw [if_neg (by omega)]
  have h1 := be_lt ((s.drop p).take (4 : Int).natAbs)
  have h2 : ((s.drop p).take (4 : Int).natAbs).length ≤ 4 := by rw [List.length_take]; exact Nat.min_le_left _ _
  have h3 : 256 ^ ((s.drop p).take (4 : Int).natAbs).length ≤ 256 ^ 4 := Nat.pow_le_pow_right (by decide) h2
  have h4 : (256 : Nat) ^ 4 = 4294967296 := rfl
  omega
theorem word_le (s : List UInt8) (p : Nat) : 0 ≤ fld s p 2 ∧ fld s p 2 ≤ 65535 := by
  unfold fld one
  rw [if_neg (by omega)]
  have h1 := be_lt ((s.drop p).take (2 : Int).natAbs)
  have h2 : ((s.drop p).take (2 : Int).natAbs).length ≤ 2 := by rw [List.length_take]; exact Nat.min_le_left _ _
  have h3 : 256 ^ ((s.drop p).take (2 : Int).natAbs).length ≤ 256 ^ 2 := Nat.pow_le_pow_right (by decide) h2
  have h4 : (256 : Nat) ^ 2 = 65536 := rfl
  omega
end Gp
namespace Go.Proofs.Ytnlifmedkkboaaa
open Go.RowKit

theorem Row.five5 {w : World} {p : Option Addr} {c : Nat} {x0 x1 x2 x3 x4 : Int} (h : Row w (.slice p 5 c) [x0, x1, x2, x3, x4]) :
    ∃ b off, p = some ⟨b, off, none⟩ ∧ w.cell? ⟨b, off, none⟩ = some (.int .i64 x0) ∧ w.cell? ⟨b, off + 2, none⟩ = some (.int .i64 x2) ∧ w.cell? ⟨b, off + 4, none⟩ = some (.int .i64 x4) := by
  obtain ⟨b, off, rfl, h0⟩ := h.at_ (k := 0) (by omega)
  obtain ⟨b1, off1, e1, h1⟩ := h.at_ (k := 2) (by omega)
  obtain ⟨b3, off3, e3, h3⟩ := h.at_ (k := 4) (by omega)
  simp only [Option.some.injEq, Addr.mk.injEq, and_true] at e1 e3
  obtain ⟨rfl, rfl⟩ := e1
  obtain ⟨rfl, rfl⟩ := e3
  exact ⟨b, off, rfl, h0, h1, h3⟩

/-- No groups, and an error. -/
def noGroups (k : Int) : Ending := .returned (.tuple #[.int .i64 0, .int .i64 0, .int .i64 k])
theorem head_row (w : World) : Row (w.alloc (.cells #[.int .i64 2, .int .i64 2, .int .i64 4, .int .i64 4, .int .i64 4] 3)) (.slice (some ⟨w.heap.size, 0, none⟩) 5 5) [2, 2, 4, 4, 4] :=
  .inr ⟨w.heap.size, 0, 5, rfl, by simp, by simp, by simp, fun i hi => by
    have hi : i < 5 := hi
    obtain rfl | rfl | rfl | rfl | rfl : i = 0 ∨ i = 1 ∨ i = 2 ∨ i = 3 ∨ i = 4 := by omega
    all_goals simp [go_sem]⟩

set_option maxRecDepth 100000 in
set_option maxHeartbeats 1600000 in
theorem gread_more (s : List UInt8) (w : World) (h : s.length < 16) :
    Calls Try.prog 18 #[.string ⟨s.toArray⟩] w fun e w' => e = noGroups 4 ∧ Lo w w' := by
  have HM := Lib.hid headSizes_any
  have HG := Lib.hid (fun (W : World) (v : Value) (hr : Row W v [2, 2, 4, 4, 4]) => get_any s 0 v _ W hr (by simp) (by omega) (by omega))
  rw [Gp.bget_head, if_pos h] at HG
  unfold GotRow at HG
  unfold noGroups
  go_enter Try.func18, Try.ntmps18
  go_wp2_with fail
  refine (HM.out _).mono ?_
  rintro e w1 ⟨rfl, rfl⟩
  have HR := Lib.hid (head_row w)
  have HL := Lib.hid ((Lo.refl w).alloc (.cells #[.int .i64 2, .int .i64 2, .int .i64 4, .int .i64 4, .int .i64 4] 3))
  clear HM
  go_wp2_with fail
  refine (HG.out _ _ HR.out).mono ?_
  rintro e w2 ⟨p2, c2, rfl, _, lo⟩
  have HL := Lib.hid (HL.out.trans lo)
  clear lo HR HG
  go_wp2_with fail
  go_ret3
  exact ⟨rfl, HL.out⟩
/-! Each end. -/
set_option maxRecDepth 100000 in
set_option maxHeartbeats 1600000 in
theorem gread_form (s : List UInt8) (w : World) (hl : s.length ≤ 9223372036854775807) (h : 16 ≤ s.length) (h2 : He.fld s 0 2 ≠ 12 ∧ He.fld s 0 2 ≠ 13) :
    Calls Try.prog 18 #[.string ⟨s.toArray⟩] w fun e w' => e = noGroups 5 ∧ Lo w w' := by
  have HM := Lib.hid headSizes_any
  have HG := Lib.hid (fun (W : World) (v : Value) (hr : Row W v [2, 2, 4, 4, 4]) => get_any s 0 v _ W hr (by simp) hl (by omega))
  rw [Gp.bget_head, if_neg (by omega)] at HG
  have b12 := Gp.long_bound s 12
  have c12 := Gp.long_le s 12
  unfold GotRow at HG
  unfold noGroups
  unfold Gp.long at *
  simp only [List.length_cons, List.length_nil, Nat.zero_add, Nat.reduceAdd] at HG
  generalize He.fld s 0 2 = x0 at *
  generalize He.fld s 2 2 = x1 at *
  generalize He.fld s 4 4 = x2 at *
  generalize He.fld s 8 4 = x3 at *
  generalize He.fld s 12 4 = x4 at *
  have HS := Lib.hid (fun W => stepOf_any x0 W)
  unfold stepEnd at HS
  rw [if_neg h2.1, if_neg h2.2] at HS
  go_enter Try.func18, Try.ntmps18
  go_wp2_with fail
  refine (HM.out _).mono ?_
  rintro e w1 ⟨rfl, rfl⟩
  have HR := Lib.hid (head_row w)
  have HL := Lib.hid ((Lo.refl w).alloc (.cells #[.int .i64 2, .int .i64 2, .int .i64 4, .int .i64 4, .int .i64 4] 3))
  clear HM
  go_wp2_with fail
  refine (HG.out _ _ HR.out).mono ?_
  rintro e w2 ⟨p2, cp2, rfl, hrow, lo⟩
  have HL := Lib.hid (HL.out.trans lo)
  obtain ⟨b, off, rfl, r0, r2, r4⟩ := Row.five5 hrow
  clear lo HR HG hrow
  go_wp2_with fail
  refine (HS.out _).mono ?_
  rintro e w3 ⟨rfl, rfl⟩
  clear HS
  go_wp2_with fail
  go_ret3
  exact ⟨rfl, HL.out⟩

set_option maxRecDepth 100000 in
set_option maxHeartbeats 1600000 in
theorem gread_long (s : List UInt8) (w : World) (hl : s.length ≤ 9223372036854775807) (h : 16 ≤ s.length) (h2 : He.fld s 0 2 = 12 ∨ He.fld s 0 2 = 13) (h3 : 65536 < Gp.long s 12) :
    Calls Try.prog 18 #[.string ⟨s.toArray⟩] w fun e w' => e = noGroups 7 ∧ Lo w w' := by
  have HM := Lib.hid headSizes_any
  have HG := Lib.hid (fun (W : World) (v : Value) (hr : Row W v [2, 2, 4, 4, 4]) => get_any s 0 v _ W hr (by simp) hl (by omega))
  rw [Gp.bget_head, if_neg (by omega)] at HG
  have b12 := Gp.long_bound s 12
  have c12 := Gp.long_le s 12
  unfold GotRow at HG
  unfold noGroups
  unfold Gp.long at *
  simp only [List.length_cons, List.length_nil, Nat.zero_add, Nat.reduceAdd] at HG
  generalize He.fld s 0 2 = x0 at *
  generalize He.fld s 2 2 = x1 at *
  generalize He.fld s 4 4 = x2 at *
  generalize He.fld s 8 4 = x3 at *
  generalize He.fld s 12 4 = x4 at *
  have HS := Lib.hid (fun W => stepOf_any x0 W)
  unfold stepEnd at HS
  have HS : Hid (∀ W, Calls Try.prog 24 #[.int .i64 x0] W fun e w' => e = .returned (.tuple #[.int .i64 (13 - x0), .bool true]) ∧ w' = W) := by
    rcases h2 with rfl | rfl
    · exact HS
    · exact HS
  go_enter Try.func18, Try.ntmps18
  go_wp2_with fail
  refine (HM.out _).mono ?_
  rintro e w1 ⟨rfl, rfl⟩
  have HR := Lib.hid (head_row w)
  have HL := Lib.hid ((Lo.refl w).alloc (.cells #[.int .i64 2, .int .i64 2, .int .i64 4, .int .i64 4, .int .i64 4] 3))
  clear HM
  go_wp2_with fail
  refine (HG.out _ _ HR.out).mono ?_
  rintro e w2 ⟨p2, cp2, rfl, hrow, lo⟩
  have HL := Lib.hid (HL.out.trans lo)
  obtain ⟨b, off, rfl, r0, r2, r4⟩ := Row.five5 hrow
  clear lo HR HG hrow
  go_wp2_with fail
  refine (HS.out _).mono ?_
  rintro e w3 ⟨rfl, rfl⟩
  clear HS
  go_wp2_with fail
  go_ret3
  exact ⟨rfl, HL.out⟩

set_option maxRecDepth 100000 in
set_option maxHeartbeats 1600000 in
theorem gread_wrong (s : List UInt8) (w : World) (hl : s.length ≤ 9223372036854775807) (h : 16 ≤ s.length) (h2 : He.fld s 0 2 = 12 ∨ He.fld s 0 2 = 13) (h3 : Gp.long s 12 ≤ 65536) (h4 : Gp.long s 4 ≠ 16 + 12 * Gp.long s 12) :
    Calls Try.prog 18 #[.string ⟨s.toArray⟩] w fun e w' => e = noGroups 5 ∧ Lo w w' := by
  have HM := Lib.hid headSizes_any
  have HG := Lib.hid (fun (W : World) (v : Value) (hr : Row W v [2, 2, 4, 4, 4]) => get_any s 0 v _ W hr (by simp) hl (by omega))
  rw [Gp.bget_head, if_neg (by omega)] at HG
  have b12 := Gp.long_bound s 12
  have c12 := Gp.long_le s 12
  unfold GotRow at HG
  unfold noGroups
  unfold Gp.long at *
  simp only [List.length_cons, List.length_nil, Nat.zero_add, Nat.reduceAdd] at HG
  generalize He.fld s 0 2 = x0 at *
  generalize He.fld s 2 2 = x1 at *
  generalize He.fld s 4 4 = x2 at *
  generalize He.fld s 8 4 = x3 at *
  generalize He.fld s 12 4 = x4 at *
  have HS := Lib.hid (fun W => stepOf_any x0 W)
  unfold stepEnd at HS
  have HS : Hid (∀ W, Calls Try.prog 24 #[.int .i64 x0] W fun e w' => e = .returned (.tuple #[.int .i64 (13 - x0), .bool true]) ∧ w' = W) := by
    rcases h2 with rfl | rfl
    · exact HS
    · exact HS
  have HLn := Lib.hid (fun W => length_any x4 W b12 c12)
  go_enter Try.func18, Try.ntmps18
  go_wp2_with fail
  refine (HM.out _).mono ?_
  rintro e w1 ⟨rfl, rfl⟩
  have HR := Lib.hid (head_row w)
  have HL := Lib.hid ((Lo.refl w).alloc (.cells #[.int .i64 2, .int .i64 2, .int .i64 4, .int .i64 4, .int .i64 4] 3))
  clear HM
  go_wp2_with fail
  refine (HG.out _ _ HR.out).mono ?_
  rintro e w2 ⟨p2, cp2, rfl, hrow, lo⟩
  have HL := Lib.hid (HL.out.trans lo)
  obtain ⟨b, off, rfl, r0, r2, r4⟩ := Row.five5 hrow
  clear lo HR HG hrow
  go_wp2_with fail
  refine (HS.out _).mono ?_
  rintro e w3 ⟨rfl, rfl⟩
  clear HS
  go_wp2_with fail
  go_quiet (first | (go_at_call 25; exact quiet' (HLn.out _)))
  go_wp2_with fail
  go_ret3
  exact ⟨rfl, HL.out.drewN _⟩

set_option maxRecDepth 100000 in
set_option maxHeartbeats 1600000 in
theorem gread_short (s : List UInt8) (w : World) (hl : s.length ≤ 9223372036854775807) (h : 16 ≤ s.length) (h2 : He.fld s 0 2 = 12 ∨ He.fld s 0 2 = 13) (h3 : Gp.long s 12 ≤ 65536) (h4 : Gp.long s 4 = 16 + 12 * Gp.long s 12) (h5 : (s.length : Int) < 16 + 12 * Gp.long s 12) :
    Calls Try.prog 18 #[.string ⟨s.toArray⟩] w fun e w' => e = noGroups 4 ∧ Lo w w' := by
  have HM := Lib.hid headSizes_any
  have HG := Lib.hid (fun (W : World) (v : Value) (hr : Row W v [2, 2, 4, 4, 4]) => get_any s 0 v _ W hr (by simp) hl (by omega))
  rw [Gp.bget_head, if_neg (by omega)] at HG
  have b12 := Gp.long_bound s 12
  have c12 := Gp.long_le s 12
  unfold GotRow at HG
  unfold noGroups
  unfold Gp.long at *
  simp only [List.length_cons, List.length_nil, Nat.zero_add, Nat.reduceAdd] at HG
  generalize He.fld s 0 2 = x0 at *
  generalize He.fld s 2 2 = x1 at *
  generalize He.fld s 4 4 = x2 at *
  generalize He.fld s 8 4 = x3 at *
  generalize He.fld s 12 4 = x4 at *
  have HS := Lib.hid (fun W => stepOf_any x0 W)
  unfold stepEnd at HS
  have HS : Hid (∀ W, Calls Try.prog 24 #[.int .i64 x0] W fun e w' => e = .returned (.tuple #[.int .i64 (13 - x0), .bool true]) ∧ w' = W) := by
    rcases h2 with rfl | rfl
    · exact HS
    · exact HS
  have HLn := Lib.hid (fun W => length_any x4 W b12 c12)
  go_enter Try.func18, Try.ntmps18
  go_wp2_with fail
  refine (HM.out _).mono ?_
  rintro e w1 ⟨rfl, rfl⟩
  have HR := Lib.hid (head_row w)
  have HL := Lib.hid ((Lo.refl w).alloc (.cells #[.int .i64 2, .int .i64 2, .int .i64 4, .int .i64 4, .int .i64 4] 3))
  clear HM
  go_wp2_with fail
  refine (HG.out _ _ HR.out).mono ?_
  rintro e w2 ⟨p2, cp2, rfl, hrow, lo⟩
  have HL := Lib.hid (HL.out.trans lo)
  obtain ⟨b, off, rfl, r0, r2, r4⟩ := Row.five5 hrow
  clear lo HR HG hrow
  go_wp2_with fail
  refine (HS.out _).mono ?_
  rintro e w3 ⟨rfl, rfl⟩
  clear HS
  go_wp2_with fail
  go_quiet (first | (go_at_call 25; exact quiet' (HLn.out _)))
  go_wp2_with fail
  refine (HLn.out _).mono ?_
  rintro e w4 ⟨rfl, rfl⟩
  go_wp2_with fail
  go_ret3
  exact ⟨rfl, HL.out.drewN _⟩

set_option maxRecDepth 100000 in
set_option maxHeartbeats 1600000 in
theorem gread_ok (s : List UInt8) (w : World) (hl : s.length ≤ 9223372036854775807) (h : 16 ≤ s.length) (h2 : He.fld s 0 2 = 12 ∨ He.fld s 0 2 = 13) (h3 : Gp.long s 12 ≤ 65536) (h4 : Gp.long s 4 = 16 + 12 * Gp.long s 12) (h5 : 16 + 12 * Gp.long s 12 ≤ (s.length : Int)) :
    Calls Try.prog 18 #[.string ⟨s.toArray⟩] w fun e w' => e = .returned (.tuple #[.int .i64 (13 - He.fld s 0 2), .int .i64 (Gp.long s 12), .int .i64 0]) ∧ Lo w w' := by
  have HM := Lib.hid headSizes_any
  have HG := Lib.hid (fun (W : World) (v : Value) (hr : Row W v [2, 2, 4, 4, 4]) => get_any s 0 v _ W hr (by simp) hl (by omega))
  rw [Gp.bget_head, if_neg (by omega)] at HG
  have b12 := Gp.long_bound s 12
  have c12 := Gp.long_le s 12
  unfold GotRow at HG
  unfold Gp.long at *
  simp only [List.length_cons, List.length_nil, Nat.zero_add, Nat.reduceAdd] at HG
  generalize He.fld s 0 2 = x0 at *
  generalize He.fld s 2 2 = x1 at *
  generalize He.fld s 4 4 = x2 at *
  generalize He.fld s 8 4 = x3 at *
  generalize He.fld s 12 4 = x4 at *
  have HS := Lib.hid (fun W => stepOf_any x0 W)
  unfold stepEnd at HS
  have HS : Hid (∀ W, Calls Try.prog 24 #[.int .i64 x0] W fun e w' => e = .returned (.tuple #[.int .i64 (13 - x0), .bool true]) ∧ w' = W) := by
    rcases h2 with rfl | rfl
    · exact HS
    · exact HS
  have HLn := Lib.hid (fun W => length_any x4 W b12 c12)
  go_enter Try.func18, Try.ntmps18
  go_wp2_with fail
  refine (HM.out _).mono ?_
  rintro e w1 ⟨rfl, rfl⟩
  have HR := Lib.hid (head_row w)
  have HL := Lib.hid ((Lo.refl w).alloc (.cells #[.int .i64 2, .int .i64 2, .int .i64 4, .int .i64 4, .int .i64 4] 3))
  clear HM
  go_wp2_with fail
  refine (HG.out _ _ HR.out).mono ?_
  rintro e w2 ⟨p2, cp2, rfl, hrow, lo⟩
  have HL := Lib.hid (HL.out.trans lo)
  obtain ⟨b, off, rfl, r0, r2, r4⟩ := Row.five5 hrow
  clear lo HR HG hrow
  go_wp2_with fail
  refine (HS.out _).mono ?_
  rintro e w3 ⟨rfl, rfl⟩
  clear HS
  go_wp2_with fail
  go_quiet (first | (go_at_call 25; exact quiet' (HLn.out _)))
  go_wp2_with fail
  refine (HLn.out _).mono ?_
  rintro e w4 ⟨rfl, rfl⟩
  go_wp2_with fail
  go_ret3
  exact ⟨rfl, HL.out.drewN _⟩

/-- What read tells. -/
def readEnd (s : List UInt8) : Ending := if Gp.rerr s = 0 then .returned (.tuple #[.int .i64 (13 - He.fld s 0 2), .int .i64 (Gp.long s 12), .int .i64 0]) else noGroups (Gp.rerr s)
theorem gread_any (s : List UInt8) (w : World) (hl : s.length ≤ 9223372036854775807) : Calls Try.prog 18 #[.string ⟨s.toArray⟩] w fun e w' => e = readEnd s ∧ Lo w w' := by
  unfold readEnd Gp.rerr
  by_cases c1 : s.length < 16
  · rw [if_pos c1]; exact gread_more s w c1
  · rw [if_neg c1]
    by_cases c2 : He.fld s 0 2 ≠ 12 ∧ He.fld s 0 2 ≠ 13
    · rw [if_pos c2]; exact gread_form s w hl (by omega) c2
    · rw [if_neg c2]
      by_cases c3 : 65536 < Gp.long s 12
      · rw [if_pos c3]; exact gread_long s w hl (by omega) (by omega) c3
      · rw [if_neg c3]
        by_cases c4 : Gp.long s 4 ≠ 16 + 12 * Gp.long s 12
        · rw [if_pos c4]; exact gread_wrong s w hl (by omega) (by omega) (by omega) c4
        · rw [if_neg c4]
          by_cases c5 : (s.length : Int) < 16 + 12 * Gp.long s 12
          · rw [if_pos c5]; exact gread_short s w hl (by omega) (by omega) (by omega) (by omega) c5
          · rw [if_neg c5]; exact gread_ok s w hl (by omega) (by omega) (by omega) (by omega) (by omega)
end Go.Proofs.Ytnlifmedkkboaaa
