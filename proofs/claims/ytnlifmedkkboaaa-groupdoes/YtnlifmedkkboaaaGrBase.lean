/-
  Contracts of package group's small functions: which step a format has, how long a subtable is, the sizes ahead of the groups, if a span has a glyph. No conditions beyond those stated.
-/
import Derived.Test.YtnlifmedkkboaaaChBase
import Derived.Test.YtnlifmedkkboaaaGpFacts
namespace Gp
open Bn He Ch Sg
/-- Has a rune of a span a glyph? -/
def used (x : Span) : Bool := decide (0 < x.gl + x.st * (x.to - x.fr))
theorem used_iff {x : Span} (h : okSpan x = true) : used x = hasGl x := by
  obtain ⟨a1, a2, a3, a4, a5, a6, a7, a8⟩ := (okSpan_iff x).1 h
  unfold used hasGl
  rw [Bool.eq_iff_iff]
  simp only [Bool.or_eq_true, Bool.and_eq_true, decide_eq_true_eq]
  rcases (show x.st = 0 ∨ x.st = 1 by omega) with e | e
  · rw [e]; omega
  · rw [e]; omega
theorem setSt_self {step : Int} {x : Span} (h : x.st = step) : setSt step x = x := by
  cases x; simp only at h; simp [setSt, h]
theorem part_same {step : Int} {x : Span} (ho : okSpan x = true) (h : x.st = step) : part step x = if used x = true then [x] else [] := by
  rw [part_keep (.inl h), used_iff ho, setSt_self h]
/-- A span of another step becomes a span for each of its runes that has a glyph. -/
theorem part_other {step : Int} {x : Span} (ho : okSpan x = true) (h : x.st ≠ step) : part step x = cutTo step x (x.to - x.fr + 1).toNat := by
  obtain ⟨a1, a2, a3, a4, a5, a6, a7, a8⟩ := (okSpan_iff x).1 ho
  by_cases e : x.fr = x.to
  · rw [part_keep (.inr e), show (x.to - x.fr + 1).toNat = 0 + 1 by omega, cut_step (by simp; omega), cut_none, List.nil_append]
    rw [show ((0 : Nat) : Int) = 0 from rfl, Int.mul_zero, Int.add_zero, Int.add_zero]
    unfold hasGl
    by_cases g : x.gl = 0
    · rw [if_pos g, if_neg (by rw [g]; simp; omega)]
    · rw [if_neg g, if_pos (by simp; omega)]
      unfold setSt
      rw [← e]
  · exact part_cut (by rintro (k | k) <;> contradiction)
theorem part_len {step : Int} {x : Span} (ho : okSpan x = true) : (part step x).length ≤ 1114112 := by
  obtain ⟨a1, a2, a3, a4, a5, a6, a7, a8⟩ := (okSpan_iff x).1 ho
  by_cases h : x.st = step
  · rw [part_same ho h]; split <;> simp
  · rw [part_other ho h]
    have := cut_len step x (x.to - x.fr + 1).toNat
    omega
end Gp
namespace Go.Proofs.Ytnlifmedkkboaaa
open Go.RowKit

set_option maxHeartbeats 800000 in
theorem gused_any (x : Ch.Span) (w : World) (h1 : 0 ≤ x.fr) (h2 : x.fr ≤ x.to) (h3 : x.to ≤ 1114111) (h4 : 0 ≤ x.st) (h5 : x.st ≤ 1) (h6 : 0 ≤ x.gl) (h7 : x.gl ≤ 65535) :
    Calls Try.prog 56 #[aggS x] w fun e w' => e = .returned (.bool (Gp.used x)) ∧ ∃ v, w' = w.alloc (.cells v 36) := by
  obtain ⟨fr, tt, gl, st⟩ := x
  unfold aggS Gp.used
  dsimp only at *
  rcases (show st = 0 ∨ st = 1 by omega) with rfl | rfl
  · go_enter Try.func56, Try.ntmps56
    go_wp2_with fail
    go_ret
    refine ⟨ret_bool ?_, _, rfl⟩
    rw [Int.zero_mul, Int.add_zero]
  · go_enter Try.func56, Try.ntmps56
    go_wp2_with fail
    go_ret
    refine ⟨ret_bool ?_, _, rfl⟩
    simp

set_option maxHeartbeats 400000 in
theorem length_any (n : Int) (w : World) (h0 : 0 ≤ n) (h1 : n ≤ 4294967295) : Calls Try.prog 25 #[.int .i64 n] w fun e w' => e = .returned (.int .i64 (16 + 12 * n)) ∧ w = w' := by
  go_enter Try.func25, Try.ntmps25
  go_wp2_with fail
  go_ret
  exact ⟨ret_int (by first | omega | (simp [IntKind.wrap_i64]; omega) | (unfold wrap64; omega)), rfl⟩

def stepEnd (format : Int) : Ending := if format = 12 then .returned (.tuple #[.int .i64 1, .bool true]) else if format = 13 then .returned (.tuple #[.int .i64 0, .bool true]) else .returned (.tuple #[.int .i64 0, .bool false])
set_option maxHeartbeats 400000 in
theorem stepOf_any (f : Int) (w : World) : Calls Try.prog 24 #[.int .i64 f] w fun e w' => e = stepEnd f ∧ w' = w := by
  unfold stepEnd
  by_cases c1 : f = 12
  · rw [if_pos c1]
    subst c1
    go_enter Try.func24, Try.ntmps24
    go_wp2_with fail
    go_ret2
    exact ⟨rfl, rfl⟩
  · rw [if_neg c1]
    by_cases c2 : f = 13
    · rw [if_pos c2]
      subst c2
      go_enter Try.func24, Try.ntmps24
      go_wp2_with fail
      go_ret2
      exact ⟨rfl, rfl⟩
    · rw [if_neg c2]
      go_enter Try.func24, Try.ntmps24
      go_wp2_with fail
      go_ret2
      exact ⟨rfl, rfl⟩

set_option maxHeartbeats 400000 in
theorem headSizes_any (w : World) : Calls Try.prog 28 #[] w fun e w' => e = .returned (.slice (some ⟨w.heap.size, 0, none⟩) 5 5) ∧ w' = w.alloc (.cells #[.int .i64 2, .int .i64 2, .int .i64 4, .int .i64 4, .int .i64 4] 3) := by
  go_enter Try.func28, Try.ntmps28
  go_wp2_with fail
  go_ret
  exact ⟨rfl, rfl⟩
end Go.Proofs.Ytnlifmedkkboaaa
