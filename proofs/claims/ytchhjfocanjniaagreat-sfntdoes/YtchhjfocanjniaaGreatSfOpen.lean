/-
  The contract of sfnt.open: a file's head, or an error. No conditions beyond those stated.
-/
import Derived.Test.YtchhjfocanjniaaGreatSfPut
namespace Sf
/-- What is wrong ahead of the records. -/
def front (s : List UInt8) : Int :=
  if 16777216 < s.length then 7 else if s.length < 12 then 4 else if isVer (num s 0 4 : Nat) = false then 5
  else if 64 < num s 4 2 then 7 else if s.length < 12 + 16 * num s 4 2 then 4 else 0
theorem one_pos (l : List UInt8) (n : Nat) : Bn.one l (n : Int) = (Bn.be l : Int) := by
  unfold Bn.one; rw [if_neg (by rintro ⟨h, _⟩; omega)]
theorem one4 (l : List UInt8) : Bn.one l 4 = (Bn.be l : Int) := one_pos l 4
theorem one2 (l : List UInt8) : Bn.one l 2 = (Bn.be l : Int) := one_pos l 2
/-- The five numbers ahead of the records. -/
def heads (s : List UInt8) : List Int := [((num s 0 4 : Nat) : Int), ((num s 4 2 : Nat) : Int), ((num s 6 2 : Nat) : Int), ((num s 8 2 : Nat) : Int), ((num s 10 2 : Nat) : Int)]
theorem get_head (s : List UInt8) : Bn.get s 0 [4, 2, 2, 2, 2] = if s.length < 12 then ([], 4) else (heads s, 0) := by
  unfold Bn.get
  rw [if_neg (by rintro (h | h) <;> first | omega | (revert h; decide))]
  by_cases h : s.length < 12
  · rw [if_pos h, if_pos]
    exact .inr (by rw [show Bn.many [4, 2, 2, 2, 2] = 12 from rfl]; omega)
  · rw [if_neg h, if_neg (by rw [show Bn.many [4, 2, 2, 2, 2] = 12 from rfl]; omega)]
    simp [Bn.fields, heads, num, one4, one2, List.drop_drop]
theorem num_lt2 (s : List UInt8) (pos : Nat) : num s pos 2 < 65536 := by
  have h := Bn.be_lt ((s.drop pos).take 2)
  refine Nat.lt_of_lt_of_le h ?_
  have : ((s.drop pos).take 2).length ≤ 2 := by simp; omega
  exact Nat.le_trans (Nat.pow_le_pow_right (by omega) this) (by decide)
theorem num_lt4 (s : List UInt8) (pos : Nat) : num s pos 4 < 4294967296 := by
  have h := Bn.be_lt ((s.drop pos).take 4)
  refine Nat.lt_of_lt_of_le h ?_
  have : ((s.drop pos).take 4).length ≤ 4 := by simp; omega
  exact Nat.le_trans (Nat.pow_le_pow_right (by omega) this) (by decide)
end Sf
namespace Go.Proofs.YtchhjfocanjniaaGreat
open Go.RowKit

/-- A directory that is none, and an error. -/
def noDir (k : Int) : Ending := .returned (.tuple #[.agg #[.int .i64 0, .string ⟨#[]⟩, .int .i64 0, .int .i64 0], .int .i64 k])
/-- A directory. -/
def aDir (s : List UInt8) : Value := .agg #[.int .i64 (12 + 16 * Sf.num s 4 2 : Nat), .string ⟨s.toArray⟩, .int .i64 (Sf.num s 0 4 : Nat), .int .i64 (Sf.num s 4 2 : Nat)]

theorem Row.five {w : World} {p : Option Addr} {c : Nat} {x0 x1 x2 x3 x4 : Int} (h : Row w (.slice p 5 c) [x0, x1, x2, x3, x4]) :
    ∃ b off, p = some ⟨b, off, none⟩ ∧ w.cell? ⟨b, off, none⟩ = some (.int .i64 x0) ∧ w.cell? ⟨b, off + 1, none⟩ = some (.int .i64 x1) := by
  obtain ⟨b, off, rfl, h0⟩ := h.at_ (k := 0) (by omega)
  obtain ⟨b', off', he, h1⟩ := h.at_ (k := 1) (by omega)
  simp only [Option.some.injEq, Addr.mk.injEq, and_true] at he
  obtain ⟨rfl, rfl⟩ := he
  exact ⟨b, off, rfl, h0, h1⟩

set_option maxRecDepth 100000 in
set_option maxHeartbeats 800000 in
theorem open_long (s : List UInt8) (w : World) (hl : s.length ≤ 9223372036854775807) (h : 16777216 < s.length) :
    Calls Tryz.prog 15 #[.string ⟨s.toArray⟩] w fun e w' => e = noDir 7 ∧ Lo w w' := by
  have HG := Lib.hid (fun (W : World) (v : Value) (hr : Row W v [4, 2, 2, 2, 2]) => get_any s 0 v [4, 2, 2, 2, 2] W hr (by simp) hl (by omega))
  unfold GotRow at HG
  rw [Sf.get_head, if_neg (by omega)] at HG
  go_enter Tryz.func15, Tryz.ntmps15
  go_wp2_with fail
  refine (HG.out _ _ (row5 (w.alloc (.cells #[.int .i64 0, .string ⟨#[]⟩, .int .i64 0, .int .i64 0] 40)) _ (by simp) 4 2 2 2 2)).mono ?_
  rintro e w1 ⟨p, c, rfl, hrow, hlo⟩
  have HL := Lib.hid ((((Lo.refl w).alloc _).alloc _).trans hlo)
  obtain ⟨⟨hd0, hd1, hd2, hd3⟩, hf0, hf1, hf2, hf3⟩ := four_at (T := w.heap.size) (lo_block (((Lo.refl _).alloc _).trans hlo) (new_block w _))
  clear hlo HG hrow
  go_wp2_with fail
  refine bodyPost_ret (v := .tuple #[.agg #[.int .i64 0, .string ⟨#[]⟩, .int .i64 0, .int .i64 0], .int .i64 7]) ?_ rfl ⟨rfl, ?_⟩
  · simp [results, Tryz.results15, go_sem, hd0, hd1, hd2, hd3]
  · exact (((HL.out.set (Nat.le_refl _) _).set (Nat.le_refl _) _).set (Nat.le_refl _) _).set (Nat.le_refl _) _

set_option maxRecDepth 100000 in
set_option maxHeartbeats 800000 in
theorem open_more (s : List UInt8) (w : World) (h : s.length < 12) :
    Calls Tryz.prog 15 #[.string ⟨s.toArray⟩] w fun e w' => e = noDir 4 ∧ Lo w w' := by
  have HG := Lib.hid (fun (W : World) (v : Value) (hr : Row W v [4, 2, 2, 2, 2]) => get_any s 0 v [4, 2, 2, 2, 2] W hr (by simp) (by omega) (by omega))
  unfold GotRow at HG
  rw [Sf.get_head, if_pos (by omega)] at HG
  go_enter Tryz.func15, Tryz.ntmps15
  go_wp2_with fail
  refine (HG.out _ _ (row5 (w.alloc (.cells #[.int .i64 0, .string ⟨#[]⟩, .int .i64 0, .int .i64 0] 40)) _ (by simp) 4 2 2 2 2)).mono ?_
  rintro e w1 ⟨p, c, rfl, hrow, hlo⟩
  have HL := Lib.hid ((((Lo.refl w).alloc _).alloc _).trans hlo)
  obtain ⟨⟨hd0, hd1, hd2, hd3⟩, hf0, hf1, hf2, hf3⟩ := four_at (T := w.heap.size) (lo_block (((Lo.refl _).alloc _).trans hlo) (new_block w _))
  clear hlo HG hrow
  go_wp2_with fail
  refine bodyPost_ret (v := .tuple #[.agg #[.int .i64 0, .string ⟨#[]⟩, .int .i64 0, .int .i64 0], .int .i64 4]) ?_ rfl ⟨rfl, ?_⟩
  · simp [results, Tryz.results15, go_sem, hd0, hd1, hd2, hd3]
  · exact (((HL.out.set (Nat.le_refl _) _).set (Nat.le_refl _) _).set (Nat.le_refl _) _).set (Nat.le_refl _) _

set_option maxRecDepth 100000 in
set_option maxHeartbeats 2000000 in
theorem open_head (s : List UInt8) (w : World) (h0 : s.length ≤ 16777216) (h1 : 12 ≤ s.length) :
    Calls Tryz.prog 15 #[.string ⟨s.toArray⟩] w fun e w' => (if Sf.isVer (Sf.num s 0 4 : Nat) = false then e = noDir 5 else if 64 < Sf.num s 4 2 then e = noDir 7 else if s.length < 12 + 16 * Sf.num s 4 2 then e = noDir 4 else e = .returned (.tuple #[aDir s, .int .i64 0])) ∧ Lo w w' := by
  have HG := Lib.hid (fun (W : World) (v : Value) (hr : Row W v [4, 2, 2, 2, 2]) => get_any s 0 v [4, 2, 2, 2, 2] W hr (by simp) (by omega) (by omega))
  unfold GotRow at HG
  rw [Sf.get_head, if_neg (by omega)] at HG
  unfold Sf.heads at HG
  have hn2 := Sf.num_lt2 s 4
  unfold aDir
  generalize Sf.num s 0 4 = vr at *
  generalize Sf.num s 4 2 = n at *
  generalize ((Sf.num s 6 2 : Nat) : Int) = z2 at *
  generalize ((Sf.num s 8 2 : Nat) : Int) = z3 at *
  generalize ((Sf.num s 10 2 : Nat) : Int) = z4 at *
  have HV := Lib.hid (fun W => isVersion_any (vr : Int) W)
  have HRE := Lib.hid (fun W => recordsEnd_any n W (by omega))
  cases hv : Sf.isVer (vr : Int) with
  | false =>
    rw [hv] at HV
    simp only [if_true]
    clear hv
    go_enter Tryz.func15, Tryz.ntmps15
    go_wp2_with fail
    refine (HG.out _ _ (row5 (w.alloc (.cells #[.int .i64 0, .string ⟨#[]⟩, .int .i64 0, .int .i64 0] 40)) _ (by simp) 4 2 2 2 2)).mono ?_
    rintro e w1 ⟨p, c, rfl, hrow, hlo⟩
    have HL := Lib.hid ((((Lo.refl w).alloc _).alloc _).trans hlo)
    obtain ⟨⟨hd0, hd1, hd2, hd3⟩, hf0, hf1, hf2, hf3⟩ := four_at (T := w.heap.size) (lo_block (((Lo.refl _).alloc _).trans hlo) (new_block w _))
    obtain ⟨b, off, rfl, hc0, hc1⟩ := Row.five hrow
    clear hlo HG hrow
    go_wp2_with fail
    refine (HV.out _).mono ?_
    rintro e w2 ⟨rfl, rfl⟩
    go_wp2_with fail
    refine bodyPost_ret (v := .tuple #[.agg #[.int .i64 0, .string ⟨#[]⟩, .int .i64 0, .int .i64 0], .int .i64 5]) ?_ rfl ⟨rfl, ?_⟩
    · simp [results, Tryz.results15, go_sem, hd0, hd1, hd2, hd3]
    · exact (((HL.out.set (Nat.le_refl _) _).set (Nat.le_refl _) _).set (Nat.le_refl _) _).set (Nat.le_refl _) _
  | true =>
    rw [hv] at HV
    simp only [Bool.true_eq_false, if_false]
    clear hv
    by_cases h64 : 64 < n
    · simp only [if_pos h64]
      go_enter Tryz.func15, Tryz.ntmps15
      go_wp2_with fail
      refine (HG.out _ _ (row5 (w.alloc (.cells #[.int .i64 0, .string ⟨#[]⟩, .int .i64 0, .int .i64 0] 40)) _ (by simp) 4 2 2 2 2)).mono ?_
      rintro e w1 ⟨p, c, rfl, hrow, hlo⟩
      have HL := Lib.hid ((((Lo.refl w).alloc _).alloc _).trans hlo)
      obtain ⟨⟨hd0, hd1, hd2, hd3⟩, hf0, hf1, hf2, hf3⟩ := four_at (T := w.heap.size) (lo_block (((Lo.refl _).alloc _).trans hlo) (new_block w _))
      obtain ⟨b, off, rfl, hc0, hc1⟩ := Row.five hrow
      clear hlo HG hrow
      go_wp2_with fail
      refine (HV.out _).mono ?_
      rintro e w2 ⟨rfl, rfl⟩
      go_wp2_with fail
      refine bodyPost_ret (v := .tuple #[.agg #[.int .i64 0, .string ⟨#[]⟩, .int .i64 0, .int .i64 0], .int .i64 7]) ?_ rfl ⟨rfl, ?_⟩
      · simp [results, Tryz.results15, go_sem, hd0, hd1, hd2, hd3]
      · exact (((HL.out.set (Nat.le_refl _) _).set (Nat.le_refl _) _).set (Nat.le_refl _) _).set (Nat.le_refl _) _
    · simp only [if_neg h64]
      by_cases hm : s.length < 12 + 16 * n
      · simp only [if_pos hm]
        go_enter Tryz.func15, Tryz.ntmps15
        go_wp2_with fail
        refine (HG.out _ _ (row5 (w.alloc (.cells #[.int .i64 0, .string ⟨#[]⟩, .int .i64 0, .int .i64 0] 40)) _ (by simp) 4 2 2 2 2)).mono ?_
        rintro e w1 ⟨p, c, rfl, hrow, hlo⟩
        have HL := Lib.hid ((((Lo.refl w).alloc _).alloc _).trans hlo)
        obtain ⟨⟨hd0, hd1, hd2, hd3⟩, hf0, hf1, hf2, hf3⟩ := four_at (T := w.heap.size) (lo_block (((Lo.refl _).alloc _).trans hlo) (new_block w _))
        obtain ⟨b, off, rfl, hc0, hc1⟩ := Row.five hrow
        clear hlo HG hrow
        go_wp2_with fail
        refine (HV.out _).mono ?_
        rintro e w2 ⟨rfl, rfl⟩
        go_wp2_with fail
        refine (HRE.out _).mono ?_
        rintro e w2 ⟨rfl, rfl⟩
        go_wp2_with fail
        refine bodyPost_ret (v := .tuple #[.agg #[.int .i64 0, .string ⟨#[]⟩, .int .i64 0, .int .i64 0], .int .i64 4]) ?_ rfl ⟨rfl, ?_⟩
        · simp [results, Tryz.results15, go_sem, hd0, hd1, hd2, hd3]
        · exact (((HL.out.set (Nat.le_refl _) _).set (Nat.le_refl _) _).set (Nat.le_refl _) _).set (Nat.le_refl _) _
      · simp only [if_neg hm]
        go_enter Tryz.func15, Tryz.ntmps15
        go_wp2_with fail
        refine (HG.out _ _ (row5 (w.alloc (.cells #[.int .i64 0, .string ⟨#[]⟩, .int .i64 0, .int .i64 0] 40)) _ (by simp) 4 2 2 2 2)).mono ?_
        rintro e w1 ⟨p, c, rfl, hrow, hlo⟩
        have HL := Lib.hid ((((Lo.refl w).alloc _).alloc _).trans hlo)
        obtain ⟨⟨hd0, hd1, hd2, hd3⟩, hf0, hf1, hf2, hf3⟩ := four_at (T := w.heap.size) (lo_block (((Lo.refl _).alloc _).trans hlo) (new_block w _))
        obtain ⟨b, off, rfl, hc0, hc1⟩ := Row.five hrow
        have HBk := Lib.hid (lo_block (((Lo.refl _).alloc _).trans hlo) (new_block w _))
        clear hlo HG hrow hd0 hd1 hd2 hd3 hf0 hf1 hf2 hf3
        go_wp2_with fail
        refine (HV.out _).mono ?_
        rintro e w2 ⟨rfl, rfl⟩
        go_wp2_with fail
        refine (HRE.out _).mono ?_
        rintro e w2 ⟨rfl, rfl⟩
        go_wp2_with fail
        refine wp_region_still_tail 13 (by kernel_rfl) (by kernel_rfl) ?_
        simp only [List.take_succ_cons, List.take_zero, List.drop_succ_cons, List.drop_zero]
        change wpStill _ _ (w1.drewN 1) _ _ _
        still_step
        still_step
        still_step
        still_call ((HRE.out _).mono fun e w' h => ⟨h.1, h.2.symm⟩)
        repeat still_step
        refine wpStill_nil ?_
        change wpList _ _ _ _ _ (w1.drewN 1)
        generalize hw : w1.drewN 1 = w2
        have HL2 : Hid (Lo w w2) := Lib.hid (by rw [← hw]; exact HL.out.drewN 1)
        obtain ⟨⟨hd0, hd1, hd2, hd3⟩, hf0, hf1, hf2, hf3⟩ := four_at (lo_block (w' := w2) (by rw [← hw]; exact (Lo.refl w1).drewN 1) HBk.out)
        clear hw HBk
        go_wp2_with fail
        refine bodyPost_ret (v := .tuple #[.agg #[.int .i64 (12 + 16 * n : Nat), .string ⟨s.toArray⟩, .int .i64 vr, .int .i64 n], .int .i64 0]) ?_ rfl ⟨rfl, ?_⟩
        · simp [results, Tryz.results15, go_sem, hd0, hd1, hd2, hd3]
        · exact (((HL2.out.set (Nat.le_refl _) _).set (Nat.le_refl _) _).set (Nat.le_refl _) _).set (Nat.le_refl _) _

/-- sfnt.open. -/
theorem open_any (s : List UInt8) (w : World) (hl : s.length ≤ 9223372036854775807) :
    Calls Tryz.prog 15 #[.string ⟨s.toArray⟩] w fun e w' => (if Sf.front s ≠ 0 then e = noDir (Sf.front s) else e = .returned (.tuple #[aDir s, .int .i64 0])) ∧ Lo w w' := by
  unfold Sf.front
  by_cases h1 : 16777216 < s.length
  · simp only [if_pos h1]; exact open_long s w hl h1
  · simp only [if_neg h1]
    by_cases h2 : s.length < 12
    · simp only [if_pos h2]; exact open_more s w h2
    · simp only [if_neg h2]
      refine (open_head s w (by omega) (by omega)).mono ?_
      rintro e w' ⟨he, hlo⟩
      refine ⟨?_, hlo⟩
      by_cases h3 : Sf.isVer (Sf.num s 0 4 : Nat) = false
      · simp only [if_pos h3] at he ⊢; exact he
      · simp only [if_neg h3] at he ⊢
        by_cases h4 : 64 < Sf.num s 4 2
        · simp only [if_pos h4] at he ⊢; exact he
        · simp only [if_neg h4] at he ⊢
          by_cases h5 : s.length < 12 + 16 * Sf.num s 4 2
          · simp only [if_pos h5] at he ⊢; exact he
          · simp only [if_neg h5] at he ⊢; exact he
end Go.Proofs.YtchhjfocanjniaaGreat
