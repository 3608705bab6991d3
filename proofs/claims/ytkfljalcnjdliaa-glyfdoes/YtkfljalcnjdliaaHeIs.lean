/-
  Contracts of package head's checks and Is: whether a head is right. No conditions.
-/
import Derived.Test.YtkfljalcnjdliaaHeMath
import Derived.Test.YtkfljalcnjdliaaGkBytes
import Derived.Test.YtkfljalcnjdliaaGkBlock
import Derived.Laws.EntriesVeiled
namespace He
/-- What must hold, a number for each. -/
def chk (h : Head) (k : Nat) : Bool :=
  match k with
  | 0 => decide (16 ≤ h.upem) && decide (h.upem ≤ 16384)
  | 1 => decide (1 ≤ h.glyphs) && decide (h.glyphs ≤ 65535)
  | 2 => decide (1 ≤ h.metrics) && decide (h.metrics ≤ h.glyphs)
  | 3 => decide (-32768 ≤ h.asc) && decide (h.asc ≤ 32767)
  | _ => decide (-32768 ≤ h.desc) && decide (h.desc ≤ 32767)
theorem isHead_chk (h : Head) : isHead h = (chk h 0 && chk h 1 && chk h 2 && chk h 3 && chk h 4) := by
  unfold isHead chk short
  simp only [Bool.and_assoc]
theorem chk_false {h : Head} {k : Nat} (hk : k < 5) (hc : chk h k = false) : isHead h = false := by
  rw [isHead_chk]
  obtain rfl | rfl | rfl | rfl | rfl : k = 0 ∨ k = 1 ∨ k = 2 ∨ k = 3 ∨ k = 4 := by omega
  all_goals rw [hc]; simp
theorem chk_true {h : Head} (hc : ∀ k, k < 5 → chk h k = true) : isHead h = true := by
  rw [isHead_chk, hc 0 (by omega), hc 1 (by omega), hc 2 (by omega), hc 3 (by omega), hc 4 (by omega)]; rfl
end He
namespace Go.Proofs.Ytkfljalcnjdliaa
open Go.RowKit

/-- A head, as a value. -/
def aggH (h : He.Head) : Value := .agg #[.int .i64 h.upem, .int .i64 h.glyphs, .int .i64 h.metrics, .int .i64 h.asc, .int .i64 h.desc, .bool h.long]

set_option maxHeartbeats 400000 in
theorem hwithin_any (n a b : Int) (w : World) : Calls Try.prog 47 #[.int .i64 n, .int .i64 a, .int .i64 b] w fun e w' => e = .returned (.bool (decide (a ≤ n) && decide (n ≤ b))) ∧ w = w' := by
  by_cases h1 : a ≤ n
  · by_cases h2 : n ≤ b
    · go_enter Try.func47, Try.ntmps47
      go_wp2_with fail
      go_ret
      exact ⟨ret_bool (by simp [h1, h2]), rfl⟩
    · go_enter Try.func47, Try.ntmps47
      go_wp2_with fail
      go_ret
      exact ⟨ret_bool (by simp [h2]), rfl⟩
  · go_enter Try.func47, Try.ntmps47
    go_wp2_with fail
    go_ret
    exact ⟨ret_bool (by simp; omega), rfl⟩

set_option maxHeartbeats 400000 in
theorem fitsSigned_any (n : Int) (w : World) : Calls Try.prog 51 #[.int .i64 n] w fun e w' => e = .returned (.bool (decide (-32768 ≤ n) && decide (n ≤ 32767))) ∧ w = w' := by
  have HW := Lib.hid (fun W => hwithin_any n (-32768) 32767 W)
  generalize (decide (-32768 ≤ n) && decide (n ≤ 32767)) = y at *
  go_enter Try.func51, Try.ntmps51
  go_wp2_with fail
  refine (HW.out _).mono ?_
  rintro e w1 ⟨rfl, rfl⟩
  go_wp2_with fail
  go_ret
  exact ⟨rfl, rfl⟩

set_option maxHeartbeats 400000 in
theorem check1_any (h : He.Head) (w : World) : Calls Try.prog 46 #[aggH h] w fun e w' => e = .returned (.bool (He.chk h 0)) ∧ Lo w w' := by
  have HW := Lib.hid (fun W => hwithin_any h.upem 16 16384 W)
  unfold He.chk aggH
  simp only at *
  generalize (decide (16 ≤ h.upem) && decide (h.upem ≤ 16384)) = y at *
  go_enter Try.func46, Try.ntmps46
  go_wp2_with fail
  refine (HW.out _).mono ?_
  rintro e w1 ⟨rfl, rfl⟩
  go_wp2_with fail
  go_ret
  exact ⟨rfl, (Lo.refl w).alloc _⟩
set_option maxHeartbeats 400000 in
theorem check2_any (h : He.Head) (w : World) : Calls Try.prog 48 #[aggH h] w fun e w' => e = .returned (.bool (He.chk h 1)) ∧ Lo w w' := by
  have HW := Lib.hid (fun W => hwithin_any h.glyphs 1 65535 W)
  unfold He.chk aggH
  simp only at *
  generalize (decide (1 ≤ h.glyphs) && decide (h.glyphs ≤ 65535)) = y at *
  go_enter Try.func48, Try.ntmps48
  go_wp2_with fail
  refine (HW.out _).mono ?_
  rintro e w1 ⟨rfl, rfl⟩
  go_wp2_with fail
  go_ret
  exact ⟨rfl, (Lo.refl w).alloc _⟩
set_option maxHeartbeats 400000 in
theorem check3_any (h : He.Head) (w : World) : Calls Try.prog 49 #[aggH h] w fun e w' => e = .returned (.bool (He.chk h 2)) ∧ Lo w w' := by
  have HW := Lib.hid (fun W => hwithin_any h.metrics 1 h.glyphs W)
  unfold He.chk aggH
  simp only at *
  generalize (decide (1 ≤ h.metrics) && decide (h.metrics ≤ h.glyphs)) = y at *
  go_enter Try.func49, Try.ntmps49
  go_wp2_with fail
  refine (HW.out _).mono ?_
  rintro e w1 ⟨rfl, rfl⟩
  go_wp2_with fail
  go_ret
  exact ⟨rfl, (Lo.refl w).alloc _⟩
set_option maxHeartbeats 400000 in
theorem check4_any (h : He.Head) (w : World) : Calls Try.prog 50 #[aggH h] w fun e w' => e = .returned (.bool (He.chk h 3)) ∧ Lo w w' := by
  have HW := Lib.hid (fun W => fitsSigned_any h.asc W)
  unfold He.chk aggH
  simp only at *
  generalize (decide (-32768 ≤ h.asc) && decide (h.asc ≤ 32767)) = y at *
  go_enter Try.func50, Try.ntmps50
  go_wp2_with fail
  refine (HW.out _).mono ?_
  rintro e w1 ⟨rfl, rfl⟩
  go_wp2_with fail
  go_ret
  exact ⟨rfl, (Lo.refl w).alloc _⟩
set_option maxHeartbeats 400000 in
theorem check5_any (h : He.Head) (w : World) : Calls Try.prog 52 #[aggH h] w fun e w' => e = .returned (.bool (He.chk h 4)) ∧ Lo w w' := by
  have HW := Lib.hid (fun W => fitsSigned_any h.desc W)
  unfold He.chk aggH
  simp only at *
  generalize (decide (-32768 ≤ h.desc) && decide (h.desc ≤ 32767)) = y at *
  go_enter Try.func52, Try.ntmps52
  go_wp2_with fail
  refine (HW.out _).mono ?_
  rintro e w1 ⟨rfl, rfl⟩
  go_wp2_with fail
  go_ret
  exact ⟨rfl, (Lo.refl w).alloc _⟩

/-- The row of checks. -/
def aggChecks : Value := .agg #[.func (.func 46) #[] #[], .func (.func 48) #[] #[], .func (.func 49) #[] #[], .func (.func 50) #[] #[], .func (.func 52) #[] #[]]
set_option maxHeartbeats 400000 in
theorem checks_any (w : World) : Calls Try.prog 30 #[] w fun e w' => e = .returned aggChecks ∧ Lo w w' := by
  go_enter Try.func30, Try.ntmps30
  go_wp2_with fail
  refine bodyPost_ret (v := aggChecks) ?_ rfl ⟨rfl, ?_⟩
  · simp [results, Try.results30, go_sem, aggChecks]
  · exact (Lo.refl w).alloc _

theorem checks_at0 (W : World) : (Instr.index 60 aggChecks (.int .i64 0)).run Try.prog W = .ok (.func (.func 46) #[] #[]) W := by
  unfold aggChecks
  simp [Instr.index, run_underlying Try.underlying60, asIntOf, go_sem]
theorem checks_at1 (W : World) : (Instr.index 60 aggChecks (.int .i64 1)).run Try.prog W = .ok (.func (.func 48) #[] #[]) W := by
  unfold aggChecks
  simp [Instr.index, run_underlying Try.underlying60, asIntOf, go_sem]
theorem checks_at2 (W : World) : (Instr.index 60 aggChecks (.int .i64 2)).run Try.prog W = .ok (.func (.func 49) #[] #[]) W := by
  unfold aggChecks
  simp [Instr.index, run_underlying Try.underlying60, asIntOf, go_sem]
theorem checks_at3 (W : World) : (Instr.index 60 aggChecks (.int .i64 3)).run Try.prog W = .ok (.func (.func 50) #[] #[]) W := by
  unfold aggChecks
  simp [Instr.index, run_underlying Try.underlying60, asIntOf, go_sem]
theorem checks_at4 (W : World) : (Instr.index 60 aggChecks (.int .i64 4)).run Try.prog W = .ok (.func (.func 52) #[] #[]) W := by
  unfold aggChecks
  simp [Instr.index, run_underlying Try.underlying60, asIntOf, go_sem]
set_option maxRecDepth 100000 in
set_option maxHeartbeats 1600000 in
theorem his_any (h : He.Head) (w : World) : Calls Try.prog 16 #[aggH h] w fun e w' => e = .returned (.bool (He.isHead h)) ∧ Lo w w' := by
  have H1 := Lib.hid (fun W => check1_any h W)
  have H2 := Lib.hid (fun W => check2_any h W)
  have H3 := Lib.hid (fun W => check3_any h W)
  have H4 := Lib.hid (fun W => check4_any h W)
  have H5 := Lib.hid (fun W => check5_any h W)
  have HC := Lib.hid (fun W => checks_any W)
  have HF := Lib.hid (fun k => @He.chk_false h k)
  have HT := Lib.hid (@He.chk_true h)
  generalize He.isHead h = y at *
  generalize hch : He.chk h = ch at *
  clear hch
  unfold aggH at *
  unfold aggChecks at HC
  generalize h.upem = a1 at *
  generalize h.glyphs = a2 at *
  generalize h.metrics = a3 at *
  generalize h.asc = a4 at *
  generalize h.desc = a5 at *
  generalize h.long = a6 at *
  go_enter Try.func16, Try.ntmps16
  go_wp2_with fail
  refine (HC.out _).mono ?_
  rintro e w1 ⟨rfl, hlo⟩
  have HL := Lib.hid (((Lo.refl w).alloc _).trans hlo)
  have HB := Lib.hid (lo_block hlo (new_block w _))
  clear hlo HC
  obtain ⟨⟨c0, c1, c2, c3, c4, c5⟩, _⟩ := six_at HB.out
  have HD := Lib.hid HB.out
  clear HB c0 c1 c2 c3 c4 c5
  go_wp2_with fail
  go_loopw [4, 6] (fun _ i W => ∃ k : Nat, k ≤ 5 ∧ i = .int .i64 k ∧ Hid (∀ j, j < k → ch j = true) ∧ Hid (Lo w1 W)) (fun _ i _ => 5 - (intOf i).toNat)
  case atStart => exact ⟨0, by omega, rfl, Lib.hid (by omega), Lib.hid (Lo.refl _)⟩
  case round =>
    obtain ⟨k, hk, rfl, HI, HL2⟩ := hrel
    obtain ⟨⟨c0, c1, c2, c3, c4, c5⟩, _⟩ := six_at (lo_block HL2.out HD.out)
    have HA : ∀ b : Bool, Hid (ch k = b → k < 5 → (b = false → y = false) ∧ (b = true → ∀ j, j < k + 1 → ch j = true)) := fun b => Lib.hid (by
      intro hb h5
      refine ⟨fun h => HF.out k h5 (hb.trans h), fun h j hj => ?_⟩
      rcases Nat.lt_or_ge j k with hl | hl
      · exact HI.out j hl
      · obtain rfl : j = k := by omega
        exact hb.trans h)
    by_cases h5 : k = 5
    · subst h5
      have HE : Hid (y = true) := Lib.hid (HT.out HI.out)
      go_wp2_with fail
      go_ret
      exact ⟨ret_bool HE.out.symm, HL.out.trans HL2.out⟩
    · obtain rfl | rfl | rfl | rfl | rfl : k = 0 ∨ k = 1 ∨ k = 2 ∨ k = 3 ∨ k = 4 := by omega
      · cases hb : ch 0 with
        | false =>
          rw [hb] at H1
          have hix := fun W => checks_at0 W
          unfold aggChecks at hix
          have HE := Lib.hid (((HA false).out hb (by omega)).1 rfl)
          clear hb HA
          go_wp2_with fail
          refine (H1.out _).mono ?_
          rintro e w2 ⟨rfl, hlo⟩
          have HL3 := Lib.hid ((HL.out.trans HL2.out).trans hlo)
          clear hlo
          go_wp2_with fail
          go_ret
          exact ⟨ret_bool HE.out.symm, HL3.out⟩
        | true =>
          rw [hb] at H1
          have hix := fun W => checks_at0 W
          unfold aggChecks at hix
          have HE := Lib.hid (((HA true).out hb (by omega)).2 rfl)
          clear hb HA
          go_wp2_with fail
          refine (H1.out _).mono ?_
          rintro e w2 ⟨rfl, hlo⟩
          have HL3 := Lib.hid (HL2.out.trans hlo)
          clear hlo
          go_wp2_with fail
          go_roundw
          case rel => exact ⟨0 + 1, by omega, by go_num, HE, HL3⟩
          case measure => simp [intOf]
      · cases hb : ch 1 with
        | false =>
          rw [hb] at H2
          have hix := fun W => checks_at1 W
          unfold aggChecks at hix
          have HE := Lib.hid (((HA false).out hb (by omega)).1 rfl)
          clear hb HA
          go_wp2_with fail
          refine (H2.out _).mono ?_
          rintro e w2 ⟨rfl, hlo⟩
          have HL3 := Lib.hid ((HL.out.trans HL2.out).trans hlo)
          clear hlo
          go_wp2_with fail
          go_ret
          exact ⟨ret_bool HE.out.symm, HL3.out⟩
        | true =>
          rw [hb] at H2
          have hix := fun W => checks_at1 W
          unfold aggChecks at hix
          have HE := Lib.hid (((HA true).out hb (by omega)).2 rfl)
          clear hb HA
          go_wp2_with fail
          refine (H2.out _).mono ?_
          rintro e w2 ⟨rfl, hlo⟩
          have HL3 := Lib.hid (HL2.out.trans hlo)
          clear hlo
          go_wp2_with fail
          go_roundw
          case rel => exact ⟨1 + 1, by omega, by go_num, HE, HL3⟩
          case measure => simp [intOf]
      · cases hb : ch 2 with
        | false =>
          rw [hb] at H3
          have hix := fun W => checks_at2 W
          unfold aggChecks at hix
          have HE := Lib.hid (((HA false).out hb (by omega)).1 rfl)
          clear hb HA
          go_wp2_with fail
          refine (H3.out _).mono ?_
          rintro e w2 ⟨rfl, hlo⟩
          have HL3 := Lib.hid ((HL.out.trans HL2.out).trans hlo)
          clear hlo
          go_wp2_with fail
          go_ret
          exact ⟨ret_bool HE.out.symm, HL3.out⟩
        | true =>
          rw [hb] at H3
          have hix := fun W => checks_at2 W
          unfold aggChecks at hix
          have HE := Lib.hid (((HA true).out hb (by omega)).2 rfl)
          clear hb HA
          go_wp2_with fail
          refine (H3.out _).mono ?_
          rintro e w2 ⟨rfl, hlo⟩
          have HL3 := Lib.hid (HL2.out.trans hlo)
          clear hlo
          go_wp2_with fail
          go_roundw
          case rel => exact ⟨2 + 1, by omega, by go_num, HE, HL3⟩
          case measure => simp [intOf]
      · cases hb : ch 3 with
        | false =>
          rw [hb] at H4
          have hix := fun W => checks_at3 W
          unfold aggChecks at hix
          have HE := Lib.hid (((HA false).out hb (by omega)).1 rfl)
          clear hb HA
          go_wp2_with fail
          refine (H4.out _).mono ?_
          rintro e w2 ⟨rfl, hlo⟩
          have HL3 := Lib.hid ((HL.out.trans HL2.out).trans hlo)
          clear hlo
          go_wp2_with fail
          go_ret
          exact ⟨ret_bool HE.out.symm, HL3.out⟩
        | true =>
          rw [hb] at H4
          have hix := fun W => checks_at3 W
          unfold aggChecks at hix
          have HE := Lib.hid (((HA true).out hb (by omega)).2 rfl)
          clear hb HA
          go_wp2_with fail
          refine (H4.out _).mono ?_
          rintro e w2 ⟨rfl, hlo⟩
          have HL3 := Lib.hid (HL2.out.trans hlo)
          clear hlo
          go_wp2_with fail
          go_roundw
          case rel => exact ⟨3 + 1, by omega, by go_num, HE, HL3⟩
          case measure => simp [intOf]
      · cases hb : ch 4 with
        | false =>
          rw [hb] at H5
          have hix := fun W => checks_at4 W
          unfold aggChecks at hix
          have HE := Lib.hid (((HA false).out hb (by omega)).1 rfl)
          clear hb HA
          go_wp2_with fail
          refine (H5.out _).mono ?_
          rintro e w2 ⟨rfl, hlo⟩
          have HL3 := Lib.hid ((HL.out.trans HL2.out).trans hlo)
          clear hlo
          go_wp2_with fail
          go_ret
          exact ⟨ret_bool HE.out.symm, HL3.out⟩
        | true =>
          rw [hb] at H5
          have hix := fun W => checks_at4 W
          unfold aggChecks at hix
          have HE := Lib.hid (((HA true).out hb (by omega)).2 rfl)
          clear hb HA
          go_wp2_with fail
          refine (H5.out _).mono ?_
          rintro e w2 ⟨rfl, hlo⟩
          have HL3 := Lib.hid (HL2.out.trans hlo)
          clear hlo
          go_wp2_with fail
          go_roundw
          case rel => exact ⟨4 + 1, by omega, by go_num, HE, HL3⟩
          case measure => simp [intOf]
end Go.Proofs.Ytkfljalcnjdliaa
