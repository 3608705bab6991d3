/-
  Contracts of package segment's small functions: wrapped, length, repeated, listedGlyphs, counted. No conditions beyond those stated.
-/
import Derived.Test.YtfnpindohoflaaaChGot
import Derived.Test.YtfnpindohoflaaaPlain
namespace Sg
/-- Spans of glyphs that rise by one, told as the program tells them. -/
def nearL (fr tt g : Int) : List Ch.Span := if tt < fr + 65536 - g then [⟨fr, tt, g, 1⟩] else [⟨fr, fr + 65536 - g - 1, g, 1⟩, ⟨fr + 65536 - g, tt, 0, 1⟩]
end Sg
namespace Go.Proofs.Ytfnpindohoflaaa
open Go.RowKit

set_option maxHeartbeats 400000 in
theorem wrapped_any (x : Int) (w : World) : Calls Try.prog 49 #[.int .i64 x] w fun e w' => e = .returned (.int .i64 (x % 65536)) ∧ w = w' := by
  go_enter Try.func49, Try.ntmps49
  go_wp2_with fail
  go_ret
  refine ⟨ret_int ?_, rfl⟩
  have e : IntKind.u16.wrap x = x % 65536 := by first | rfl | (simp [IntKind.wrap]; done) | (simp [IntKind.wrap, IntKind.bits]; done)
  rw [e, wrap_id (by omega) (by omega)]

set_option maxHeartbeats 400000 in
theorem length_any (n g : Nat) (w : World) (hn : n ≤ 10000000) (hg : g ≤ 10000000) : Calls Try.prog 27 #[.int .i64 (n : Int), .int .i64 (g : Int)] w fun e w' => e = .returned (.int .i64 ((16 + 8 * n + 2 * g : Nat) : Int)) ∧ w = w' := by
  go_enter Try.func27, Try.ntmps27
  go_wp2_with fail
  go_ret
  exact ⟨ret_int (by first | omega | (simp [IntKind.wrap_i64]; omega)), rfl⟩

set_option maxHeartbeats 400000 in
theorem srepeated_any (z : Int) (n : Nat) (w : World) (hn : n ≤ 1000000) : Calls Try.prog 31 #[.int .i64 z, .int .i64 (n : Int)] w (Many z n w) := by
  have HR := Lib.hid (fun (v : Value) (W : World) (h : Row W v [z]) => repeat_any z n v W h hn)
  unfold Many
  go_enter Try.func31, Try.ntmps31
  go_wp2_with fail
  refine (HR.out _ _ (row1 w _ rfl z)).mono ?_
  rintro e w1 ⟨G, rfl, hF, lo⟩
  have HF := Lib.hid hF
  have HL := Lib.hid (((Lo.refl w).alloc _).trans lo)
  clear hF lo HR
  go_wp2_with fail
  go_ret
  exact ⟨_, _, rfl, fill_row HF.out hn, HL.out⟩

set_option maxHeartbeats 800000 in
theorem listedGlyphs_any {x : Ch.Span} (h : Ch.okSpan x = true) (w : World) : Calls Try.prog 53 #[aggS x] w fun e w' => e = .returned (.int .i64 ((Sg.wid x : Nat) : Int)) ∧ Lo w w' := by
  obtain ⟨a1, a2, a3, a4, a5, a6, a7, a8⟩ := (Ch.okSpan_iff x).1 h
  clear h a8
  obtain ⟨fr, tt, gl, st⟩ := x
  unfold Sg.wid Sg.isRow aggS
  dsimp only at *
  by_cases hs : st = 1
  · subst hs
    have e : ((if (decide ((1 : Int) = 0) && decide (fr < tt)) = true then (tt - fr + 1).toNat else 0 : Nat) : Int) = 0 := by simp
    rw [e]
    clear e
    go_enter Try.func53, Try.ntmps53
    go_wp2_with fail
    go_ret
    exact ⟨rfl, (Lo.refl w).alloc _⟩
  · obtain rfl : st = 0 := by omega
    by_cases hf : fr = tt
    · subst hf
      have e : ((if (decide ((0 : Int) = 0) && decide (fr < fr)) = true then (fr - fr + 1).toNat else 0 : Nat) : Int) = 0 := by simp
      rw [e]
      clear e
      go_enter Try.func53, Try.ntmps53
      go_wp2_with fail
      go_ret
      exact ⟨rfl, (Lo.refl w).alloc _⟩
    · have e : ((if (decide ((0 : Int) = 0) && decide (fr < tt)) = true then (tt - fr + 1).toNat else 0 : Nat) : Int) = tt - fr + 1 := by
        rw [decide_eq_true rfl, Bool.true_and, decide_eq_true (by omega), if_pos rfl]
        omega
      rw [e]
      clear e
      go_enter Try.func53, Try.ntmps53
      go_wp2_with fail
      go_ret
      exact ⟨ret_int (by first | rfl | omega | (simp [IntKind.wrap_i64]; omega)), (Lo.refl w).alloc _⟩

set_option maxHeartbeats 800000 in
theorem counted_any (fr tt g : Int) (w : World) (h1 : 0 ≤ fr) (h2 : fr ≤ 65535) (h3 : 0 ≤ tt) (h4 : tt ≤ 65535) (h5 : 0 ≤ g) (h6 : g ≤ 65535) : Calls Try.prog 48 #[.int .i64 fr, .int .i64 tt, .int .i64 g] w (GotSpans (Sg.nearL fr tt g) w) := by
  unfold GotSpans Sg.nearL
  by_cases h : tt < fr + 65536 - g
  · rw [if_pos h]
    go_enter Try.func48, Try.ntmps48
    go_wp2_with fail
    go_ret
    exact ⟨_, _, rfl, srow1 w _ rfl ⟨fr, tt, g, 1⟩ _, (Lo.refl w).alloc _⟩
  · rw [if_neg h]
    go_enter Try.func48, Try.ntmps48
    go_wp2_with fail
    go_ret
    exact ⟨_, _, rfl, srow2 w ⟨fr, fr + 65536 - g - 1, g, 1⟩ ⟨fr + 65536 - g, tt, 0, 1⟩ _, (Lo.refl w).alloc _⟩
end Go.Proofs.Ytfnpindohoflaaa
