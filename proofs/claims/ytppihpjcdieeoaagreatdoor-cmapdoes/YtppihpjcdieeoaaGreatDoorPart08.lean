/-
  Facts that the walks rest on: GrBase, GrRead, GrKeep. No conditions beyond those stated.
-/
import Derived.Test.YtppihpjcdieeoaaGreatDoorPart04
import Derived.Test.YtppihpjcdieeoaaGreatDoorPart07
import Derived.Test.YtppihpjcdieeoaaGreatDoorPart03
import Derived.RangeFuncNested
import Derived.RangeFuncBound
import Derived.RangeFuncCalls
import Derived.RangeFuncLeaves
import Derived.Shelf.Abstract
import Derived.Shelf.RegionOpen
import Derived.OwnWalkIn
import Derived.TacticsInMore
import Derived.LoopNIn
import Derived.LoopIn
import Derived.Maps.OwnIn
import Derived.Maps.AppendAt
/-
  Contracts of package group's small functions: which step a format has, how long a subtable is, the sizes ahead of the groups, if a span has a glyph. No conditions beyond those stated.
-/
namespace Gp
open Bn He Ch Sg
/-- Has a rune of a span a glyph? -/
def used (x : Span) : Bool := decide (0 < x.gl + x.st * (x.to - x.fr))
theorem used_iff {x : Span} (h : okSpan x = true) : used x = hasGl x := by
  obtain ⟨a1, a2, a3, a4, a5, a6, a7, a8⟩ := (okSpan_iff x).1 h
  unfold used hasGl
  rw [Bool.eq_iff_iff]
  simp only [Bool.or_eq_true, Bool.and_eq_true, decide_eq_true_eq]
  rcases (show x.st = 0 ∨ x.st = 1 by omega) with e | e
  · rw [e]; omega
  · rw [e]; omega
theorem setSt_self {step : Int} {x : Span} (h : x.st = step) : setSt step x = x := by
  cases x; simp only at h; simp [setSt, h]
theorem part_same {step : Int} {x : Span} (ho : okSpan x = true) (h : x.st = step) : part step x = if used x = true then [x] else [] := by
  rw [part_keep (.inl h), used_iff ho, setSt_self h]
/-- A span of another step becomes a span for each of its runes that has a glyph. -/
theorem part_other {step : Int} {x : Span} (ho : okSpan x = true) (h : x.st ≠ step) : part step x = cutTo step x (x.to - x.fr + 1).toNat := by
  obtain ⟨a1, a2, a3, a4, a5, a6, a7, a8⟩ := (okSpan_iff x).1 ho
  by_cases e : x.fr = x.to
  · rw [part_keep (.inr e), show (x.to - x.fr + 1).toNat = 0 + 1 by omega, cut_step (by simp; omega), cut_none, List.nil_append]
    rw [show ((0 : Nat) : Int) = 0 from rfl, Int.mul_zero, Int.add_zero, Int.add_zero]
    unfold hasGl
    by_cases g : x.gl = 0
    · rw [if_pos g, if_neg (by rw [g]; simp; omega)]
    · rw [if_neg g, if_pos (by simp; omega)]
      unfold setSt
      rw [← e]
  · exact part_cut (by rintro (k | k) <;> contradiction)
theorem part_len {step : Int} {x : Span} (ho : okSpan x = true) : (part step x).length ≤ 1114112 := by
  obtain ⟨a1, a2, a3, a4, a5, a6, a7, a8⟩ := (okSpan_iff x).1 ho
  by_cases h : x.st = step
  · rw [part_same ho h]; split <;> simp
  · rw [part_other ho h]
    have := cut_len step x (x.to - x.fr + 1).toNat
    omega
end Gp
namespace Go.Proofs.YtppihpjcdieeoaaGreatDoor
open Go.RowKit

set_option maxHeartbeats 800000 in
theorem gused_any (x : Ch.Span) (w : World) (h1 : 0 ≤ x.fr) (h2 : x.fr ≤ x.to) (h3 : x.to ≤ 1114111) (h4 : 0 ≤ x.st) (h5 : x.st ≤ 1) (h6 : 0 ≤ x.gl) (h7 : x.gl ≤ 65535) :
    Calls Tryz.prog 154 #[aggS x] w fun e w' => e = .returned (.bool (Gp.used x)) ∧ ∃ v, w' = w.alloc (.cells v 63) := by
  obtain ⟨fr, tt, gl, st⟩ := x
  unfold aggS Gp.used
  dsimp only at *
  rcases (show st = 0 ∨ st = 1 by omega) with rfl | rfl
  · go_enter Tryz.func154, Tryz.ntmps154
    go_wp2_with fail
    go_ret
    refine ⟨ret_bool ?_, _, rfl⟩
    rw [Int.zero_mul, Int.add_zero]
  · go_enter Tryz.func154, Tryz.ntmps154
    go_wp2_with fail
    go_ret
    refine ⟨ret_bool ?_, _, rfl⟩
    simp

set_option maxHeartbeats 400000 in
theorem glength_any (n : Int) (w : World) (h0 : 0 ≤ n) (h1 : n ≤ 4294967295) : Calls Tryz.prog 132 #[.int .i64 n] w fun e w' => e = .returned (.int .i64 (16 + 12 * n)) ∧ w = w' := by
  go_enter Tryz.func132, Tryz.ntmps132
  go_wp2_with fail
  go_ret
  exact ⟨ret_int (by first | omega | (simp [IntKind.wrap_i64]; omega) | (unfold wrap64; omega)), rfl⟩

def stepEnd (format : Int) : Ending := if format = 12 then .returned (.tuple #[.int .i64 1, .bool true]) else if format = 13 then .returned (.tuple #[.int .i64 0, .bool true]) else .returned (.tuple #[.int .i64 0, .bool false])
set_option maxHeartbeats 400000 in
theorem stepOf_any (f : Int) (w : World) : Calls Tryz.prog 131 #[.int .i64 f] w fun e w' => e = stepEnd f ∧ w' = w := by
  unfold stepEnd
  by_cases c1 : f = 12
  · rw [if_pos c1]
    subst c1
    go_enter Tryz.func131, Tryz.ntmps131
    go_wp2_with fail
    go_ret2
    exact ⟨rfl, rfl⟩
  · rw [if_neg c1]
    by_cases c2 : f = 13
    · rw [if_pos c2]
      subst c2
      go_enter Tryz.func131, Tryz.ntmps131
      go_wp2_with fail
      go_ret2
      exact ⟨rfl, rfl⟩
    · rw [if_neg c2]
      go_enter Tryz.func131, Tryz.ntmps131
      go_wp2_with fail
      go_ret2
      exact ⟨rfl, rfl⟩

set_option maxHeartbeats 400000 in
theorem headSizes_any (w : World) : Calls Tryz.prog 130 #[] w fun e w' => e = .returned (.slice (some ⟨w.heap.size, 0, none⟩) 5 5) ∧ w' = w.alloc (.cells #[.int .i64 2, .int .i64 2, .int .i64 4, .int .i64 4, .int .i64 4] 3) := by
  go_enter Tryz.func130, Tryz.ntmps130
  go_wp2_with fail
  go_ret
  exact ⟨rfl, rfl⟩
end Go.Proofs.YtppihpjcdieeoaaGreatDoor
/-
  Contract of group.read: the step of a subtable's spans and how many groups it has, or an error. No conditions beyond those stated.
-/
namespace Gp
open Bn He Ch Sg
/-- The error of a subtable as a whole, ahead of its groups. -/
def rerr (s : List UInt8) : Int :=
  if s.length < 16 then 4
  else if fld s 0 2 ≠ 12 ∧ fld s 0 2 ≠ 13 then 5
  else if 65536 < long s 12 then 7
  else if long s 4 ≠ 16 + 12 * long s 12 then 5
  else if (s.length : Int) < 16 + 12 * long s 12 then 4
  else 0
theorem get_rerr {s : List UInt8} (h : rerr s ≠ 0) : get s = ([], rerr s) := by
  unfold rerr at *
  unfold get
  by_cases c1 : s.length < 16
  · rw [if_pos c1, if_pos c1]
  · rw [if_neg c1] at h ⊢
    rw [if_neg c1]
    by_cases c2 : fld s 0 2 ≠ 12 ∧ fld s 0 2 ≠ 13
    · rw [if_pos c2, if_pos c2]
    · rw [if_neg c2] at h ⊢
      rw [if_neg c2]
      by_cases c3 : 65536 < long s 12
      · rw [if_pos c3, if_pos c3]
      · rw [if_neg c3] at h ⊢
        rw [if_neg c3]
        by_cases c4 : long s 4 ≠ 16 + 12 * long s 12
        · rw [if_pos c4, if_pos c4]
        · rw [if_neg c4] at h ⊢
          rw [if_neg c4]
          by_cases c5 : (s.length : Int) < 16 + 12 * long s 12
          · rw [if_pos c5, if_pos c5]
          · rw [if_neg c5] at h; exact absurd rfl h
theorem get_rok {s : List UInt8} (h : rerr s = 0) : get s = (if isL (rows s) = true then (rows s, 0) else ([], 5)) ∧ 16 ≤ s.length ∧ (fld s 0 2 = 12 ∨ fld s 0 2 = 13) ∧ long s 12 ≤ 65536 ∧ 16 + 12 * (rows s).length ≤ s.length := by
  have hb := long_bound s 12
  unfold rerr at h
  unfold get
  by_cases c1 : s.length < 16
  · rw [if_pos c1] at h; cases h
  · rw [if_neg c1] at h ⊢
    by_cases c2 : fld s 0 2 ≠ 12 ∧ fld s 0 2 ≠ 13
    · rw [if_pos c2] at h; cases h
    · rw [if_neg c2] at h ⊢
      by_cases c3 : 65536 < long s 12
      · rw [if_pos c3] at h; cases h
      · rw [if_neg c3] at h ⊢
        by_cases c4 : long s 4 ≠ 16 + 12 * long s 12
        · rw [if_pos c4] at h; cases h
        · rw [if_neg c4] at h ⊢
          by_cases c5 : (s.length : Int) < 16 + 12 * long s 12
          · rw [if_pos c5] at h; cases h
          · rw [if_neg c5]
            refine ⟨?_, by omega, by omega, by omega, ?_⟩
            · cases e : isL (rows s) with
              | true => rfl
              | false => rfl
            · unfold rows
              rw [List.length_map, List.length_range]
              omega
theorem bget_head (s : List UInt8) : Bn.get s 0 [2, 2, 4, 4, 4] = if s.length < 16 then ([], 4) else ([fld s 0 2, fld s 2 2, fld s 4 4, fld s 8 4, fld s 12 4], 0) := by
  unfold Bn.get
  rw [if_neg (by
    rintro (h | h)
    · exact absurd h (by decide)
    · omega)]
  have hm : Bn.many [2, 2, 4, 4, 4] = 16 := rfl
  rw [hm]
  by_cases c : s.length < 16
  · rw [if_pos c, if_pos (by omega)]
  · rw [if_neg c, if_neg (by omega)]
    unfold fld
    simp only [fields, Int.toNat_zero, List.drop_zero, List.drop_drop]
    rfl
theorem bget_three (s : List UInt8) (pos : Nat) : Bn.get s (pos : Int) [4, 4, 4] = if s.length < pos + 12 then ([], 4) else ([fld s pos 4, fld s (pos + 4) 4, fld s (pos + 8) 4], 0) := by
  have := Ch.bget_rep s pos 3 (size := 4) (by decide)
  rw [show List.replicate 3 (4 : Int) = [4, 4, 4] from rfl] at this
  rw [this]
  rfl
theorem long_le (s : List UInt8) (p : Nat) : long s p ≤ 4294967295 := by
  unfold long fld one
  rw [if_neg (by omega)]
  have h1 := be_lt ((s.drop p).take (4 : Int).natAbs)
  have h2 : ((s.drop p).take (4 : Int).natAbs).length ≤ 4 := by rw [List.length_take]; exact Nat.min_le_left _ _
  have h3 : 256 ^ ((s.drop p).take (4 : Int).natAbs).length ≤ 256 ^ 4 := Nat.pow_le_pow_right (by decide) h2
  have h4 : (256 : Nat) ^ 4 = 4294967296 := rfl
  omega
theorem word_le (s : List UInt8) (p : Nat) : 0 ≤ fld s p 2 ∧ fld s p 2 ≤ 65535 := by
  unfold fld one
  rw [if_neg (by omega)]
  have h1 := be_lt ((s.drop p).take (2 : Int).natAbs)
  have h2 : ((s.drop p).take (2 : Int).natAbs).length ≤ 2 := by rw [List.length_take]; exact Nat.min_le_left _ _
  have h3 : 256 ^ ((s.drop p).take (2 : Int).natAbs).length ≤ 256 ^ 2 := Nat.pow_le_pow_right (by decide) h2
  have h4 : (256 : Nat) ^ 2 = 65536 := rfl
  omega
end Gp
namespace Go.Proofs.YtppihpjcdieeoaaGreatDoor
open Go.RowKit

theorem Row.five5 {w : World} {p : Option Addr} {c : Nat} {x0 x1 x2 x3 x4 : Int} (h : Row w (.slice p 5 c) [x0, x1, x2, x3, x4]) :
    ∃ b off, p = some ⟨b, off, none⟩ ∧ w.cell? ⟨b, off, none⟩ = some (.int .i64 x0) ∧ w.cell? ⟨b, off + 2, none⟩ = some (.int .i64 x2) ∧ w.cell? ⟨b, off + 4, none⟩ = some (.int .i64 x4) := by
  obtain ⟨b, off, rfl, h0⟩ := h.at_ (k := 0) (by omega)
  obtain ⟨b1, off1, e1, h1⟩ := h.at_ (k := 2) (by omega)
  obtain ⟨b3, off3, e3, h3⟩ := h.at_ (k := 4) (by omega)
  simp only [Option.some.injEq, Addr.mk.injEq, and_true] at e1 e3
  obtain ⟨rfl, rfl⟩ := e1
  obtain ⟨rfl, rfl⟩ := e3
  exact ⟨b, off, rfl, h0, h1, h3⟩

/-- No groups, and an error. -/
def noGroups (k : Int) : Ending := .returned (.tuple #[.int .i64 0, .int .i64 0, .int .i64 k])
theorem head_row (w : World) : Row (w.alloc (.cells #[.int .i64 2, .int .i64 2, .int .i64 4, .int .i64 4, .int .i64 4] 3)) (.slice (some ⟨w.heap.size, 0, none⟩) 5 5) [2, 2, 4, 4, 4] :=
  .inr ⟨w.heap.size, 0, 5, rfl, by simp, by simp, by simp, fun i hi => by
    have hi : i < 5 := hi
    obtain rfl | rfl | rfl | rfl | rfl : i = 0 ∨ i = 1 ∨ i = 2 ∨ i = 3 ∨ i = 4 := by omega
    all_goals simp [go_sem]⟩

set_option maxRecDepth 100000 in
set_option maxHeartbeats 1600000 in
theorem gread_more (s : List UInt8) (w : World) (h : s.length < 16) :
    Calls Tryz.prog 98 #[.string ⟨s.toArray⟩] w fun e w' => e = noGroups 4 ∧ Lo w w' := by
  have HM := Lib.hid headSizes_any
  have HG := Lib.hid (fun (W : World) (v : Value) (hr : Row W v [2, 2, 4, 4, 4]) => get_any s 0 v _ W hr (by simp) (by omega) (by omega))
  rw [Gp.bget_head, if_pos h] at HG
  unfold GotRow at HG
  unfold noGroups
  go_enter Tryz.func98, Tryz.ntmps98
  go_wp2_with fail
  refine (HM.out _).mono ?_
  rintro e w1 ⟨rfl, rfl⟩
  have HR := Lib.hid (head_row w)
  have HL := Lib.hid ((Lo.refl w).alloc (.cells #[.int .i64 2, .int .i64 2, .int .i64 4, .int .i64 4, .int .i64 4] 3))
  clear HM
  go_wp2_with fail
  refine (HG.out _ _ HR.out).mono ?_
  rintro e w2 ⟨p2, c2, rfl, _, lo⟩
  have HL := Lib.hid (HL.out.trans lo)
  clear lo HR HG
  go_wp2_with fail
  go_ret3
  exact ⟨rfl, HL.out⟩
/-! Each end. -/
set_option maxRecDepth 100000 in
set_option maxHeartbeats 1600000 in
theorem gread_form (s : List UInt8) (w : World) (hl : s.length ≤ 9223372036854775807) (h : 16 ≤ s.length) (h2 : He.fld s 0 2 ≠ 12 ∧ He.fld s 0 2 ≠ 13) :
    Calls Tryz.prog 98 #[.string ⟨s.toArray⟩] w fun e w' => e = noGroups 5 ∧ Lo w w' := by
  have HM := Lib.hid headSizes_any
  have HG := Lib.hid (fun (W : World) (v : Value) (hr : Row W v [2, 2, 4, 4, 4]) => get_any s 0 v _ W hr (by simp) hl (by omega))
  rw [Gp.bget_head, if_neg (by omega)] at HG
  have b12 := Gp.long_bound s 12
  have c12 := Gp.long_le s 12
  unfold GotRow at HG
  unfold noGroups
  unfold Gp.long at *
  simp only [List.length_cons, List.length_nil, Nat.zero_add, Nat.reduceAdd] at HG
  generalize He.fld s 0 2 = x0 at *
  generalize He.fld s 2 2 = x1 at *
  generalize He.fld s 4 4 = x2 at *
  generalize He.fld s 8 4 = x3 at *
  generalize He.fld s 12 4 = x4 at *
  have HS := Lib.hid (fun W => stepOf_any x0 W)
  unfold stepEnd at HS
  rw [if_neg h2.1, if_neg h2.2] at HS
  go_enter Tryz.func98, Tryz.ntmps98
  go_wp2_with fail
  refine (HM.out _).mono ?_
  rintro e w1 ⟨rfl, rfl⟩
  have HR := Lib.hid (head_row w)
  have HL := Lib.hid ((Lo.refl w).alloc (.cells #[.int .i64 2, .int .i64 2, .int .i64 4, .int .i64 4, .int .i64 4] 3))
  clear HM
  go_wp2_with fail
  refine (HG.out _ _ HR.out).mono ?_
  rintro e w2 ⟨p2, cp2, rfl, hrow, lo⟩
  have HL := Lib.hid (HL.out.trans lo)
  obtain ⟨b, off, rfl, r0, r2, r4⟩ := Row.five5 hrow
  clear lo HR HG hrow
  go_wp2_with fail
  refine (HS.out _).mono ?_
  rintro e w3 ⟨rfl, rfl⟩
  clear HS
  go_wp2_with fail
  go_ret3
  exact ⟨rfl, HL.out⟩

set_option maxRecDepth 100000 in
set_option maxHeartbeats 1600000 in
theorem gread_long (s : List UInt8) (w : World) (hl : s.length ≤ 9223372036854775807) (h : 16 ≤ s.length) (h2 : He.fld s 0 2 = 12 ∨ He.fld s 0 2 = 13) (h3 : 65536 < Gp.long s 12) :
    Calls Tryz.prog 98 #[.string ⟨s.toArray⟩] w fun e w' => e = noGroups 7 ∧ Lo w w' := by
  have HM := Lib.hid headSizes_any
  have HG := Lib.hid (fun (W : World) (v : Value) (hr : Row W v [2, 2, 4, 4, 4]) => get_any s 0 v _ W hr (by simp) hl (by omega))
  rw [Gp.bget_head, if_neg (by omega)] at HG
  have b12 := Gp.long_bound s 12
  have c12 := Gp.long_le s 12
  unfold GotRow at HG
  unfold noGroups
  unfold Gp.long at *
  simp only [List.length_cons, List.length_nil, Nat.zero_add, Nat.reduceAdd] at HG
  generalize He.fld s 0 2 = x0 at *
  generalize He.fld s 2 2 = x1 at *
  generalize He.fld s 4 4 = x2 at *
  generalize He.fld s 8 4 = x3 at *
  generalize He.fld s 12 4 = x4 at *
  have HS := Lib.hid (fun W => stepOf_any x0 W)
  unfold stepEnd at HS
  have HS : Hid (∀ W, Calls Tryz.prog 131 #[.int .i64 x0] W fun e w' => e = .returned (.tuple #[.int .i64 (13 - x0), .bool true]) ∧ w' = W) := by
    rcases h2 with rfl | rfl
    · exact HS
    · exact HS
  go_enter Tryz.func98, Tryz.ntmps98
  go_wp2_with fail
  refine (HM.out _).mono ?_
  rintro e w1 ⟨rfl, rfl⟩
  have HR := Lib.hid (head_row w)
  have HL := Lib.hid ((Lo.refl w).alloc (.cells #[.int .i64 2, .int .i64 2, .int .i64 4, .int .i64 4, .int .i64 4] 3))
  clear HM
  go_wp2_with fail
  refine (HG.out _ _ HR.out).mono ?_
  rintro e w2 ⟨p2, cp2, rfl, hrow, lo⟩
  have HL := Lib.hid (HL.out.trans lo)
  obtain ⟨b, off, rfl, r0, r2, r4⟩ := Row.five5 hrow
  clear lo HR HG hrow
  go_wp2_with fail
  refine (HS.out _).mono ?_
  rintro e w3 ⟨rfl, rfl⟩
  clear HS
  go_wp2_with fail
  go_ret3
  exact ⟨rfl, HL.out⟩

set_option maxRecDepth 100000 in
set_option maxHeartbeats 1600000 in
theorem gread_wrong (s : List UInt8) (w : World) (hl : s.length ≤ 9223372036854775807) (h : 16 ≤ s.length) (h2 : He.fld s 0 2 = 12 ∨ He.fld s 0 2 = 13) (h3 : Gp.long s 12 ≤ 65536) (h4 : Gp.long s 4 ≠ 16 + 12 * Gp.long s 12) :
    Calls Tryz.prog 98 #[.string ⟨s.toArray⟩] w fun e w' => e = noGroups 5 ∧ Lo w w' := by
  have HM := Lib.hid headSizes_any
  have HG := Lib.hid (fun (W : World) (v : Value) (hr : Row W v [2, 2, 4, 4, 4]) => get_any s 0 v _ W hr (by simp) hl (by omega))
  rw [Gp.bget_head, if_neg (by omega)] at HG
  have b12 := Gp.long_bound s 12
  have c12 := Gp.long_le s 12
  unfold GotRow at HG
  unfold noGroups
  unfold Gp.long at *
  simp only [List.length_cons, List.length_nil, Nat.zero_add, Nat.reduceAdd] at HG
  generalize He.fld s 0 2 = x0 at *
  generalize He.fld s 2 2 = x1 at *
  generalize He.fld s 4 4 = x2 at *
  generalize He.fld s 8 4 = x3 at *
  generalize He.fld s 12 4 = x4 at *
  have HS := Lib.hid (fun W => stepOf_any x0 W)
  unfold stepEnd at HS
  have HS : Hid (∀ W, Calls Tryz.prog 131 #[.int .i64 x0] W fun e w' => e = .returned (.tuple #[.int .i64 (13 - x0), .bool true]) ∧ w' = W) := by
    rcases h2 with rfl | rfl
    · exact HS
    · exact HS
  have HLn := Lib.hid (fun W => glength_any x4 W b12 c12)
  go_enter Tryz.func98, Tryz.ntmps98
  go_wp2_with fail
  refine (HM.out _).mono ?_
  rintro e w1 ⟨rfl, rfl⟩
  have HR := Lib.hid (head_row w)
  have HL := Lib.hid ((Lo.refl w).alloc (.cells #[.int .i64 2, .int .i64 2, .int .i64 4, .int .i64 4, .int .i64 4] 3))
  clear HM
  go_wp2_with fail
  refine (HG.out _ _ HR.out).mono ?_
  rintro e w2 ⟨p2, cp2, rfl, hrow, lo⟩
  have HL := Lib.hid (HL.out.trans lo)
  obtain ⟨b, off, rfl, r0, r2, r4⟩ := Row.five5 hrow
  clear lo HR HG hrow
  go_wp2_with fail
  refine (HS.out _).mono ?_
  rintro e w3 ⟨rfl, rfl⟩
  clear HS
  go_wp2_with fail
  go_quiet (first | (go_at_call 132; exact quiet' (HLn.out _)))
  go_wp2_with fail
  go_ret3
  exact ⟨rfl, HL.out.drewN _⟩

set_option maxRecDepth 100000 in
set_option maxHeartbeats 1600000 in
theorem gread_short (s : List UInt8) (w : World) (hl : s.length ≤ 9223372036854775807) (h : 16 ≤ s.length) (h2 : He.fld s 0 2 = 12 ∨ He.fld s 0 2 = 13) (h3 : Gp.long s 12 ≤ 65536) (h4 : Gp.long s 4 = 16 + 12 * Gp.long s 12) (h5 : (s.length : Int) < 16 + 12 * Gp.long s 12) :
    Calls Tryz.prog 98 #[.string ⟨s.toArray⟩] w fun e w' => e = noGroups 4 ∧ Lo w w' := by
  have HM := Lib.hid headSizes_any
  have HG := Lib.hid (fun (W : World) (v : Value) (hr : Row W v [2, 2, 4, 4, 4]) => get_any s 0 v _ W hr (by simp) hl (by omega))
  rw [Gp.bget_head, if_neg (by omega)] at HG
  have b12 := Gp.long_bound s 12
  have c12 := Gp.long_le s 12
  unfold GotRow at HG
  unfold noGroups
  unfold Gp.long at *
  simp only [List.length_cons, List.length_nil, Nat.zero_add, Nat.reduceAdd] at HG
  generalize He.fld s 0 2 = x0 at *
  generalize He.fld s 2 2 = x1 at *
  generalize He.fld s 4 4 = x2 at *
  generalize He.fld s 8 4 = x3 at *
  generalize He.fld s 12 4 = x4 at *
  have HS := Lib.hid (fun W => stepOf_any x0 W)
  unfold stepEnd at HS
  have HS : Hid (∀ W, Calls Tryz.prog 131 #[.int .i64 x0] W fun e w' => e = .returned (.tuple #[.int .i64 (13 - x0), .bool true]) ∧ w' = W) := by
    rcases h2 with rfl | rfl
    · exact HS
    · exact HS
  have HLn := Lib.hid (fun W => glength_any x4 W b12 c12)
  go_enter Tryz.func98, Tryz.ntmps98
  go_wp2_with fail
  refine (HM.out _).mono ?_
  rintro e w1 ⟨rfl, rfl⟩
  have HR := Lib.hid (head_row w)
  have HL := Lib.hid ((Lo.refl w).alloc (.cells #[.int .i64 2, .int .i64 2, .int .i64 4, .int .i64 4, .int .i64 4] 3))
  clear HM
  go_wp2_with fail
  refine (HG.out _ _ HR.out).mono ?_
  rintro e w2 ⟨p2, cp2, rfl, hrow, lo⟩
  have HL := Lib.hid (HL.out.trans lo)
  obtain ⟨b, off, rfl, r0, r2, r4⟩ := Row.five5 hrow
  clear lo HR HG hrow
  go_wp2_with fail
  refine (HS.out _).mono ?_
  rintro e w3 ⟨rfl, rfl⟩
  clear HS
  go_wp2_with fail
  go_quiet (first | (go_at_call 132; exact quiet' (HLn.out _)))
  go_wp2_with fail
  refine (HLn.out _).mono ?_
  rintro e w4 ⟨rfl, rfl⟩
  go_wp2_with fail
  go_ret3
  exact ⟨rfl, HL.out.drewN _⟩

set_option maxRecDepth 100000 in
set_option maxHeartbeats 1600000 in
theorem gread_ok (s : List UInt8) (w : World) (hl : s.length ≤ 9223372036854775807) (h : 16 ≤ s.length) (h2 : He.fld s 0 2 = 12 ∨ He.fld s 0 2 = 13) (h3 : Gp.long s 12 ≤ 65536) (h4 : Gp.long s 4 = 16 + 12 * Gp.long s 12) (h5 : 16 + 12 * Gp.long s 12 ≤ (s.length : Int)) :
    Calls Tryz.prog 98 #[.string ⟨s.toArray⟩] w fun e w' => e = .returned (.tuple #[.int .i64 (13 - He.fld s 0 2), .int .i64 (Gp.long s 12), .int .i64 0]) ∧ Lo w w' := by
  have HM := Lib.hid headSizes_any
  have HG := Lib.hid (fun (W : World) (v : Value) (hr : Row W v [2, 2, 4, 4, 4]) => get_any s 0 v _ W hr (by simp) hl (by omega))
  rw [Gp.bget_head, if_neg (by omega)] at HG
  have b12 := Gp.long_bound s 12
  have c12 := Gp.long_le s 12
  unfold GotRow at HG
  unfold Gp.long at *
  simp only [List.length_cons, List.length_nil, Nat.zero_add, Nat.reduceAdd] at HG
  generalize He.fld s 0 2 = x0 at *
  generalize He.fld s 2 2 = x1 at *
  generalize He.fld s 4 4 = x2 at *
  generalize He.fld s 8 4 = x3 at *
  generalize He.fld s 12 4 = x4 at *
  have HS := Lib.hid (fun W => stepOf_any x0 W)
  unfold stepEnd at HS
  have HS : Hid (∀ W, Calls Tryz.prog 131 #[.int .i64 x0] W fun e w' => e = .returned (.tuple #[.int .i64 (13 - x0), .bool true]) ∧ w' = W) := by
    rcases h2 with rfl | rfl
    · exact HS
    · exact HS
  have HLn := Lib.hid (fun W => glength_any x4 W b12 c12)
  go_enter Tryz.func98, Tryz.ntmps98
  go_wp2_with fail
  refine (HM.out _).mono ?_
  rintro e w1 ⟨rfl, rfl⟩
  have HR := Lib.hid (head_row w)
  have HL := Lib.hid ((Lo.refl w).alloc (.cells #[.int .i64 2, .int .i64 2, .int .i64 4, .int .i64 4, .int .i64 4] 3))
  clear HM
  go_wp2_with fail
  refine (HG.out _ _ HR.out).mono ?_
  rintro e w2 ⟨p2, cp2, rfl, hrow, lo⟩
  have HL := Lib.hid (HL.out.trans lo)
  obtain ⟨b, off, rfl, r0, r2, r4⟩ := Row.five5 hrow
  clear lo HR HG hrow
  go_wp2_with fail
  refine (HS.out _).mono ?_
  rintro e w3 ⟨rfl, rfl⟩
  clear HS
  go_wp2_with fail
  go_quiet (first | (go_at_call 132; exact quiet' (HLn.out _)))
  go_wp2_with fail
  refine (HLn.out _).mono ?_
  rintro e w4 ⟨rfl, rfl⟩
  go_wp2_with fail
  go_ret3
  exact ⟨rfl, HL.out.drewN _⟩

/-- What read tells. -/
def readEnd (s : List UInt8) : Ending := if Gp.rerr s = 0 then .returned (.tuple #[.int .i64 (13 - He.fld s 0 2), .int .i64 (Gp.long s 12), .int .i64 0]) else noGroups (Gp.rerr s)
theorem gread_any (s : List UInt8) (w : World) (hl : s.length ≤ 9223372036854775807) : Calls Tryz.prog 98 #[.string ⟨s.toArray⟩] w fun e w' => e = readEnd s ∧ Lo w w' := by
  unfold readEnd Gp.rerr
  by_cases c1 : s.length < 16
  · rw [if_pos c1]; exact gread_more s w c1
  · rw [if_neg c1]
    by_cases c2 : He.fld s 0 2 ≠ 12 ∧ He.fld s 0 2 ≠ 13
    · rw [if_pos c2]; exact gread_form s w hl (by omega) c2
    · rw [if_neg c2]
      by_cases c3 : 65536 < Gp.long s 12
      · rw [if_pos c3]; exact gread_long s w hl (by omega) (by omega) c3
      · rw [if_neg c3]
        by_cases c4 : Gp.long s 4 ≠ 16 + 12 * Gp.long s 12
        · rw [if_pos c4]; exact gread_wrong s w hl (by omega) (by omega) (by omega) c4
        · rw [if_neg c4]
          by_cases c5 : (s.length : Int) < 16 + 12 * Gp.long s 12
          · rw [if_pos c5]; exact gread_short s w hl (by omega) (by omega) (by omega) (by omega) c5
          · rw [if_neg c5]; exact gread_ok s w hl (by omega) (by omega) (by omega) (by omega) (by omega)
end Go.Proofs.YtppihpjcdieeoaaGreatDoor
/-
  What a loop over an iterator keeps of the iterator's own blocks, where the loop's body appends to a slice of its own: all but the slice's row. No conditions beyond those stated.
-/
namespace Go.Proofs.YtppihpjcdieeoaaGreatDoor
open Go.RowKit Go.Shelf

theorem wide_fn (f : FuncId) : Fence.wide.fn f = True := rfl
theorem wide_depth : Fence.wide.depth = none := rfl

/-- The slice that lies in the box B has block b for its row. -/
def Owned (B : Nat) (W : World) (b : Nat) : Prop := ∃ v, W.cell? ⟨B, 0, none⟩ = some v ∧ v.ownBlock = some b
structure Good (B : Nat) (W : World) : Prop where
  lt : B < W.heap.size
  own : ∀ b, Owned B W b → b < W.heap.size
structure KpS (n₀ n₁ B : Nat) (W W' : World) : Prop where
  below : Below n₀ W W'
  good : Good B W → Good B W'
  own : Good B W → ∀ b, Owned B W' b → Owned B W b ∨ W.heap.size ≤ b
  same : Good B W → ∀ b o, W.heap[b]? = some o → o.isCells = true → n₁ ≤ b → ¬ Owned B W b → W'.heap[b]? = some o
theorem KpS.refl (n₀ n₁ B : Nat) (W : World) : KpS n₀ n₁ B W W := ⟨Below.refl _ _, id, fun _ _ h => .inl h, fun _ _ _ h _ _ _ => h⟩
theorem KpS.trans {n₀ n₁ B : Nat} {A W C : World} (h : KpS n₀ n₁ B A W) (k : KpS n₀ n₁ B W C) : KpS n₀ n₁ B A C := by
  refine ⟨h.below.trans k.below, fun g => k.good (h.good g), fun g b hb => ?_, fun g b o hb hc hn ho => ?_⟩
  · rcases k.own (h.good g) b hb with h1 | h1
    · exact h.own g b h1
    · exact .inr (Nat.le_trans h.below.size h1)
  · refine k.same (h.good g) b o (h.same g b o hb hc hn ho) hc hn fun hw => ?_
    rcases h.own g b hw with h1 | h1
    · exact ho h1
    · have := (Array.getElem?_eq_some_iff.1 hb).1; omega
theorem owned_alloc {B : Nat} {W : World} (hB : B < W.heap.size) (o : Obj) (b : Nat) : Owned B (W.alloc o) b ↔ Owned B W b := by
  unfold Owned
  rw [show (W.alloc o).cell? ⟨B, 0, none⟩ = W.cell? ⟨B, 0, none⟩ from World.cell?_alloc_old _ _ _ (by show B ≠ _; omega)]
theorem Good.alloc {B : Nat} {W : World} (h : Good B W) (o : Obj) : Good B (W.alloc o) :=
  ⟨by rw [World.size_alloc]; have := h.lt; omega, fun b hb => by rw [World.size_alloc]; have := h.own b ((owned_alloc h.lt o b).1 hb); omega⟩
theorem Good.new {B : Nat} {W : World} (h : Good B W) (o : Obj) : ¬ Owned B (W.alloc o) W.heap.size := fun hb => by
  have := h.own _ ((owned_alloc h.lt o _).1 hb); omega
theorem KpS.alloc {n₀ n₁ B : Nat} {W : World} (hn : n₀ ≤ W.heap.size) (o : Obj) : KpS n₀ n₁ B W (W.alloc o) :=
  ⟨(Below.refl _ W).alloc hn o, fun g => g.alloc o, fun g b hb => .inl ((owned_alloc g.lt o b).1 hb),
   fun _ b _ hb _ _ _ => (Below.heap_alloc W o b (Array.getElem?_eq_some_iff.1 hb).1).trans hb⟩
theorem KpS.drew (n₀ n₁ B : Nat) (W : World) : KpS n₀ n₁ B W W.drew := ⟨(Below.refl _ W).drew, fun g => ⟨g.lt, g.own⟩, fun _ _ h => .inl h, fun _ _ _ h _ _ _ => h⟩
/-- A block of the iterator's stands, and is not the slice's row. -/
theorem KpS.keep {n₀ n₁ B b : Nat} {W W' : World} {o : Obj} (h : KpS n₀ n₁ B W W') (g : Good B W) (hb : W.heap[b]? = some o) (hc : o.isCells = true) (hn : n₁ ≤ b) (ho : ¬ Owned B W b) : W'.heap[b]? = some o ∧ ¬ Owned B W' b :=
  ⟨h.same g b o hb hc hn ho, fun hw => by
    rcases h.own g b hw with h1 | h1
    · exact ho h1
    · have := (Array.getElem?_eq_some_iff.1 hb).1; omega⟩
theorem kpS_t {n₀ n₁ B : Nat} {A W C : World} (h : KpS n₀ n₁ B A W) (k : KpS n₀ n₁ B W C) : KpS n₀ n₁ B A C := h.trans k
theorem kpS_b {n₀ n₁ B : Nat} {w : World} (hB : B < w.heap.size) (hn : n₀ ≤ w.heap.size) (W : World) (l : Nat) (o o' : Obj) (hl : w.heap.size ≤ l) (h : W.heap[l]? = some o) (hc : o.isCells = false) (hw : o.isWalk = false) : KpS n₀ n₁ B W (W.putObj l o') := by
  have hlt := (Array.getElem?_eq_some_iff.1 h).1
  have hcell : (W.putObj l o').cell? ⟨B, 0, none⟩ = W.cell? ⟨B, 0, none⟩ := by
    unfold World.cell?
    rw [show (W.putObj l o').heap[B]? = W.heap[B]? from World.putObj_heap_other (by omega)]
  have hsz : (W.putObj l o').heap.size = W.heap.size := by simp
  refine ⟨belowK_b hn W l o o' hl h hc hw, fun g => ⟨by rw [hsz]; exact g.lt, fun b hb => ?_⟩, fun _ b hb => .inl ?_, fun _ b u hb hu _ _ => ?_⟩
  · rw [hsz]; refine g.own b ?_
    unfold Owned at *; rwa [hcell] at hb
  · unfold Owned at *; rwa [hcell] at hb
  · refine (World.putObj_heap_other ?_).trans hb
    rintro rfl
    rw [h] at hb; cases hb; rw [hc] at hu; cases hu
/-- The box holds a slice of the call's own: an append turns no more than the box and the slice's row. -/
theorem KpS.grown {n₀ n₁ B : Nat} {t e : TypeId} {size k m : Nat} {v v' : Value} {xs ys : List Value} {tmp : Obj} {W w1 : World} (hv : Boxed W B t v) (hte : t ≠ e) (hrow : W.ownsRow n₀ e size v k xs)
    (hn₀ : n₀ ≤ W.heap.size) (hB : n₀ ≤ B) (hB1 : B < n₁) (hown' : w1.ownsRow n₀ e size v' m ys) (hgrow : (W.alloc tmp).grownBy w1 v.ownBlock) (hat : v'.ownBlock = v.ownBlock ∨ v'.ownBlock = some (W.alloc tmp).heap.size) :
    KpS n₀ n₁ B W (w1.setCell ⟨B, 0, none⟩ v') := by
  obtain ⟨hv1, hv2, hr2, hk2, hb2⟩ := hv.appended hte hrow hn₀ hB hown' hgrow
  have hlt2 : ∀ b, v'.ownBlock = some b → b < (w1.setCell ⟨B, 0, none⟩ v').heap.size := fun b hb => by
    rcases hr2.2 with ⟨rfl, _⟩ | ⟨g, cap, cur, rfl, _, hgb, _⟩
    · simp [Value.ownBlock] at hb
    · obtain rfl : g = b := by simpa [Value.ownBlock] using hb
      exact (Array.getElem?_eq_some_iff.1 hgb).1
  have hown2 : ∀ b, Owned B (w1.setCell ⟨B, 0, none⟩ v') b → v'.ownBlock = some b := by
    rintro b ⟨u, hu, hb⟩
    rw [hv2.cell] at hu
    cases hu
    exact hb
  refine ⟨hb2, fun _ => ⟨hv2.lt, fun b hb => hlt2 b (hown2 b hb)⟩, fun _ b hb => ?_, fun _ b o hb hc hn ho => ?_⟩
  · have h1 := hown2 b hb
    rcases hat with h | h
    · exact .inl ⟨v, hv.cell, by rw [← h]; exact h1⟩
    · rw [h] at h1
      cases h1
      exact .inr (by simp)
  · have hne : b ≠ B := by omega
    have hlt := (Array.getElem?_eq_some_iff.1 hb).1
    have h1 : (W.alloc tmp).heap[b]? = some o := (Below.heap_alloc W tmp b hlt).trans hb
    have h2 : w1.heap[b]? = some o := (hgrow.block b (by rw [World.size_alloc]; omega) (fun e' => ho ⟨v, hv.cell, e'.symm⟩)).trans h1
    exact (Below.heap_setCell w1 ⟨B, 0, none⟩ v' b hne).trans h2

theorem RoundIn.anyDepth {F : Fence} (hd : F.depth = none) {m m' : Nat} {P : Program} {l : Nat} {f : FuncId} {tmps : Array Value} {assign body : Code} {w : World} {R : Ending → World → Prop}
    (h : RoundIn F m P l f tmps assign body w R) : RoundIn F m' P l f tmps assign body w R := ⟨h.1, fun c cs _ => h.2 c cs (fun d hh => by rw [hd] at hh; cases hh)⟩
theorem YieldAt.anyDepth {F : Fence} (hd : F.depth = none) {m : Nat} (m' : Nat) {P : Program} {l : Nat} {args : Array Value} {W : World} {R : Ending → World → Prop} (h : YieldAt F m P l args W R) : YieldAt F m' P l args W R := by
  obtain ⟨fn, tmps, assign, body, hy, hR⟩ := h
  exact ⟨fn, tmps, assign, body, hy, RoundIn.anyDepth hd hR⟩
end Go.Proofs.YtppihpjcdieeoaaGreatDoor
