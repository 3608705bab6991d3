/-
  The walk of the law DimenBack: it returns true for every int. No conditions but that the package variable of powers of ten reads as it is laid.
-/
import Derived.Test.YtlfhnldeidgkjaaDoorDmText2
import Derived.Test.YtlfhnldeidgkjaaDoorDmLawScales
namespace Fl
open Ieee
theorem mul_pow_cancel (m i j : Nat) (h : j = i + 16) : m * 2 ^ i * 2 ^ 16 = m * 2 ^ j := by
  subst h; rw [Nat.mul_assoc, ← Nat.pow_add]
/-- A length as a float is read as it was. -/
theorem float_back (a : Int) (h : a.natAbs ≤ 1073741823) : ∃ q, double.div (Go.floatOfInt .f64 a) 4679240012837945344 = some q ∧ of q = (a, 0) := by
  by_cases h0 : a = 0
  · subst h0
    exact ⟨0, div_zero, of_zero⟩
  · obtain ⟨m, i, h1, h2, h3, h4⟩ := num_int a h
    have hi : -1058 ≤ i := by
      by_cases hi : -1058 ≤ i
      · exact hi
      · exfalso
        have e1 := lt_pow_shift (k := (i + 1074).toNat) h3
        have e2 : 2 ^ (53 + (i + 1074).toNat) ≤ 2 ^ 1074 := pow_mono _ 1074 (by omega)
        have e3 : 1 * U ≤ a.natAbs * U := Nat.mul_le_mul_right _ (by omega)
        rw [h4, Nat.one_mul] at e3
        unfold U at e3
        exact absurd (Nat.lt_of_lt_of_le e1 (Nat.le_trans e2 e3)) (Nat.lt_irrefl _)
    obtain ⟨q, hq, hn⟩ := div_two h1 hi 4679240012837945344 rfl
    refine ⟨q, hq, ?_⟩
    have hv : m * 2 ^ (i + 1058).toNat * 2 ^ 16 = a.natAbs * U := by
      rw [h4]; exact mul_pow_cancel m _ _ (by omega)
    obtain ⟨y, hy, hz⟩ := (mul_two hn 4679240012837945344 16 (by omega) rfl).1 (by rw [hv]; exact small_prod _ h)
    rw [hv] at hz
    unfold of
    rw [hy]
    show ans y = _
    rw [ans_whole hz h, sv_int]
end Fl
namespace Go.Proofs.YtlfhnldeidgkjaaDoor
open Go.RowKit

set_option maxHeartbeats 800000 in
theorem dimenBack_no (a : Int) (w : World) (ht : Tab w) (h : Fx.len a = false) :
    Calls Tryd.prog 4 #[.int .i64 a] w fun e w' => e = .returned (.bool true) ∧ Lo w w' := by
  have HT := Lib.hid ht
  have HI := Lib.hid ((one_len a).trans h)
  have HX := Lib.hid (fun W => text_no a W h)
  have HF := Lib.hid (fun W => float_no a W h)
  clear ht h
  go_enter Tryd.func4, Tryd.ntmps4
  go_wp2_with fail
  refine (HX.out _).mono ?_
  rintro e w1 ⟨rfl, L1⟩
  go_wp2_with fail
  refine (HF.out _).mono ?_
  rintro e w2 ⟨rfl, L2⟩
  have M2 := L1.trans L2
  clear L1 L2
  go_wp2_with fail
  refine (is_any _ [a] _ (row1 _ _ (by simp) a)).mono ?_
  rw [HI.out]
  rintro e w0 ⟨rfl, rfl⟩
  have M3 := M2.alloc (.cells #[.int .i64 a] 3)
  clear M2
  go_wp2_with fail
  refine (told_any _ (HT.out.lo M3)).mono ?_
  rintro e w4 ⟨rfl, L4⟩
  have M4 := M3.trans L4
  clear M3 L4
  go_wp2_with fail
  refine (same_yes 0 _).mono ?_
  rintro e w5 ⟨rfl, rfl⟩
  go_wp2_with fail
  go_ret
  exact ⟨rfl, M4⟩

set_option maxHeartbeats 800000 in
theorem dimenBack_yes (a : Int) (q : Nat) (l : List UInt8) (w : World) (ht : Tab w) (h : Fx.len a = true) (hl : Dm.text a = l) (hp : Dm.parse l = (a, 0)) (hq : Ieee.double.div (floatOfInt .f64 a) 4679240012837945344 = some q) (ho : Fl.of q = (a, 0)) (hll : l.length ≤ 100) :
    Calls Tryd.prog 4 #[.int .i64 a] w fun e w' => e = .returned (.bool true) ∧ Lo w w' := by
  have HT := Lib.hid ht
  have HI := Lib.hid ((one_len a).trans h)
  have HX := Lib.hid (fun W hW => text_yes a W h hW)
  have HF := Lib.hid (fun W => float_yes a q W h hq)
  have HP := Lib.hid (fun W => parse_any l W (by omega))
  have HO := Lib.hid (fun W => of_any q W)
  rw [hl] at HX
  rw [hp] at HP
  rw [ho] at HO
  have ha : (a == a) = true := by simp
  clear ht h hl hp hq ho
  go_enter Tryd.func4, Tryd.ntmps4
  go_wp2_with fail
  refine (HX.out _ HT.out).mono ?_
  rintro e w1 ⟨rfl, L1⟩
  go_wp2_with fail
  refine (HF.out _).mono ?_
  rintro e w2 ⟨rfl, L2⟩
  have M2 := L1.trans L2
  clear L1 L2
  go_wp2_with fail
  refine (is_any _ [a] _ (row1 _ _ (by simp) a)).mono ?_
  rw [HI.out]
  rintro e w0 ⟨rfl, rfl⟩
  have M3 := M2.alloc (.cells #[.int .i64 a] 3)
  clear M2
  go_wp2_with fail
  refine (HP.out _).mono ?_
  rintro e w4 ⟨rfl, L4⟩
  have M4 := M3.trans L4
  clear M3 L4
  go_wp2_with fail
  refine (HO.out _).mono ?_
  rintro e w5 ⟨rfl, L5⟩
  have M5 := M4.trans L5
  clear M4 L5
  go_wp2_with fail
  refine (told_any _ (HT.out.lo M5)).mono ?_
  rintro e w6 ⟨rfl, L6⟩
  go_wp2_with fail
  go_ret
  exact ⟨by simp, M5.trans L6⟩

theorem text_len (a : Int) (h : a.natAbs ≤ 1073741823) : (Dm.text a).length ≤ 100 := by
  rw [Dm.text_eq a]
  have := Dm.whole_len (a.natAbs / 65536) (by omega)
  have := (Dm.count_bd (a.natAbs % 65536)).2
  unfold Dm.sign
  by_cases h0 : a < 0 <;> simp [h0, Dm.pad_len] <;> omega

theorem dimenBack_walk (a : Int) (_w0 : (Lit.int .i64 a).wf = true) (w : World) (ht : Tab w) :
    Calls Tryd.prog 4 #[.int .i64 a] w fun e w' => e = .returned (.bool true) ∧ Below w.heap.size w w' := by
  by_cases h : Fx.len a = true
  · obtain ⟨b1, b2⟩ := (Fx.len_iff a).1 h
    have hn : a.natAbs ≤ 1073741823 := by omega
    obtain ⟨q, hq, ho⟩ := Fl.float_back a hn
    exact dimenBack_yes a q _ w ht h rfl (Dm.parse_text a hn) hq ho (text_len a hn)
  · exact dimenBack_no a w ht (by simpa using h)
end Go.Proofs.YtlfhnldeidgkjaaDoor
