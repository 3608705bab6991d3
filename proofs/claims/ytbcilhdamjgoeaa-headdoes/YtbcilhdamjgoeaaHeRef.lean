/-
  Contracts of the document's answers for layer 5: Noughts, short, Is and Units. No conditions beyond those stated.
-/
import Derived.Test.YtbcilhdamjgoeaaHeHeaded
import Derived.Test.YtbcilhdamjgoeaaBnRefB
import Derived.Test.YtbcilhdamjgoeaaFxRefM
namespace Go.Proofs.Ytbcilhdamjgoeaa
open Go.RowKit

theorem nts_succ (k : Nat) : He.nts (k + 1) = He.nts k ++ [0] := He.nts_add k 1

set_option maxHeartbeats 800000 in
theorem rnoughts_any (n : Nat) (w : World) (hn : n ≤ 1000) : Calls Try.prog 57 #[.int .i64 n] w fun e w' => e = .returned (.string ⟨(He.nts n).toArray⟩) ∧ w = w' := by
  go_enter Try.func57, Try.ntmps57
  go_wp2_with fail
  go_loop [3, 4] (fun s i => ∃ k : Nat, k ≤ n ∧ i = .int .i64 k ∧ s = .string ⟨(He.nts k).toArray⟩) (fun _ i => n - (intOf i).toNat)
  case atStart => exact ⟨0, Nat.zero_le _, rfl, rfl⟩
  case round =>
    obtain ⟨k, hk, rfl, rfl⟩ := hrel
    by_cases hlt : k < n
    · have hc := Gk.cat_list (He.nts k) [0]
      rw [← nts_succ] at hc
      have hl := He.nts_len k
      have HS := Lib.hid hc
      generalize hs : He.nts k = s at *
      clear hs hc
      go_wp2_with fail
      go_round
      case rel => exact ⟨k + 1, by omega, by go_num, congrArg Value.string HS.out⟩
      case measure => simp [intOf]; omega
    · obtain rfl : k = n := by omega
      go_wp2_with fail
      go_ret
      exact ⟨rfl, rfl⟩

set_option maxHeartbeats 400000 in
theorem rshort_any (n : Int) (w : World) : Calls Try.prog 62 #[.int .i64 n] w fun e w' => e = .returned (.bool (He.short n)) ∧ w = w' := by
  unfold He.short
  by_cases h1 : -32768 ≤ n
  · by_cases h2 : n ≤ 32767
    · go_enter Try.func62, Try.ntmps62
      go_wp2_with fail
      go_ret
      exact ⟨ret_bool (by simp [h1, h2]), rfl⟩
    · go_enter Try.func62, Try.ntmps62
      go_wp2_with fail
      go_ret
      exact ⟨ret_bool (by simp; omega), rfl⟩
  · go_enter Try.func62, Try.ntmps62
    go_wp2_with fail
    go_ret
    exact ⟨ret_bool (by simp; omega), rfl⟩

set_option maxRecDepth 100000 in
set_option maxHeartbeats 1600000 in
theorem ris5_any (h : He.Head) (w : World) : Calls Try.prog 28 #[aggH h] w fun e w' => e = .returned (.bool (He.isHead h)) ∧ Lo w w' := by
  have H1 := Lib.hid (fun W => rshort_any h.asc W)
  have H2 := Lib.hid (fun W => rshort_any h.desc W)
  unfold He.isHead aggH
  generalize He.short h.asc = s1 at *
  generalize He.short h.desc = s2 at *
  generalize h.upem = x0 at *
  generalize h.glyphs = x1 at *
  generalize h.metrics = x2 at *
  generalize h.asc = x3 at *
  generalize h.desc = x4 at *
  generalize h.long = x5 at *
  by_cases c : 16 ≤ x0 ∧ x0 ≤ 16384 ∧ 1 ≤ x1 ∧ x1 ≤ 65535 ∧ 1 ≤ x2 ∧ x2 ≤ x1
  · obtain ⟨c1, c2, c3, c4, c5, c6⟩ := c
    cases s1 with
    | false =>
      go_enter Try.func28, Try.ntmps28
      go_wp2_with fail
      refine (H1.out _).mono ?_
      rintro e w1 ⟨rfl, rfl⟩
      go_wp2_with fail
      go_ret
      exact ⟨ret_bool (by simp), (Lo.refl w).alloc _⟩
    | true =>
      go_enter Try.func28, Try.ntmps28
      go_wp2_with fail
      refine (H1.out _).mono ?_
      rintro e w1 ⟨rfl, rfl⟩
      go_wp2_with fail
      refine (H2.out _).mono ?_
      rintro e w2 ⟨rfl, rfl⟩
      go_wp2_with fail
      go_ret
      exact ⟨ret_bool (by simp [c1, c2, c3, c4, c5, c6]), (Lo.refl w).alloc _⟩
  · have hy : (decide (16 ≤ x0) && decide (x0 ≤ 16384) && decide (1 ≤ x1) && decide (x1 ≤ 65535) && decide (1 ≤ x2) && decide (x2 ≤ x1) && s1 && s2) = false := by
      rw [Bool.eq_false_iff]
      intro hc
      simp only [Bool.and_eq_true, decide_eq_true_eq, and_assoc] at hc
      exact c ⟨hc.1, hc.2.1, hc.2.2.1, hc.2.2.2.1, hc.2.2.2.2.1, hc.2.2.2.2.2.1⟩
    rw [hy]
    clear hy
    have hcase : x0 < 16 ∨ (16 ≤ x0 ∧ 16384 < x0) ∨ (16 ≤ x0 ∧ x0 ≤ 16384 ∧ x1 < 1) ∨ (16 ≤ x0 ∧ x0 ≤ 16384 ∧ 1 ≤ x1 ∧ 65535 < x1) ∨ (16 ≤ x0 ∧ x0 ≤ 16384 ∧ 1 ≤ x1 ∧ x1 ≤ 65535 ∧ x2 < 1) ∨ (16 ≤ x0 ∧ x0 ≤ 16384 ∧ 1 ≤ x1 ∧ x1 ≤ 65535 ∧ 1 ≤ x2 ∧ x1 < x2) := by omega
    clear c
    rcases hcase with c1 | ⟨c1, c2⟩ | ⟨c1, c2, c3⟩ | ⟨c1, c2, c3, c4⟩ | ⟨c1, c2, c3, c4, c5⟩ | ⟨c1, c2, c3, c4, c5, c6⟩
    all_goals
      go_enter Try.func28, Try.ntmps28
      go_wp2_with fail
      go_ret
      exact ⟨rfl, (Lo.refl w).alloc _⟩

set_option maxRecDepth 100000 in
set_option maxHeartbeats 800000 in
theorem runits_any (h : He.Head) (n size : Int) (w : World) : Calls Try.prog 25 #[aggH h, .int .i64 n, .int .i64 size] w fun e w' => e = tup (He.units h n size) ∧ Lo w w' := by
  have HI := Lib.hid (fun W => ris5_any h W)
  have HM := Lib.hid (fun W => rmuldiv_any n size h.upem W)
  unfold tup at *
  unfold He.units aggH at *
  cases hh : He.isHead h with
  | false =>
    rw [hh] at HI
    simp only [if_true]
    go_enter Try.func25, Try.ntmps25
    go_wp2_with fail
    refine (HI.out _).mono ?_
    rintro e w1 ⟨rfl, lo⟩
    have HL := Lib.hid (((Lo.refl w).alloc _).trans lo)
    clear lo
    go_wp2_with fail
    go_ret2
    exact ⟨rfl, HL.out⟩
  | true =>
    rw [hh] at HI
    simp only [Bool.true_eq_false, if_false]
    generalize Fx.mulDiv n size h.upem = y at *
    go_enter Try.func25, Try.ntmps25
    go_wp2_with fail
    refine (HI.out _).mono ?_
    rintro e w1 ⟨rfl, lo⟩
    have HL := Lib.hid (((Lo.refl w).alloc _).trans lo)
    obtain ⟨⟨r0, r1, r2, r3, r4, r5⟩, _⟩ := six_at (lo_block lo (new_block w _))
    clear lo
    go_wp2_with fail
    refine (HM.out _).mono ?_
    rintro e w2 ⟨rfl, rfl⟩
    go_wp2_with fail
    go_ret2
    exact ⟨rfl, HL.out⟩
end Go.Proofs.Ytbcilhdamjgoeaa
