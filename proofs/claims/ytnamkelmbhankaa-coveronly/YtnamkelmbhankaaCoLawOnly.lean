/-
  The walk of the law CoverOnly. No conditions beyond those stated.
-/
import Derived.Test.YtnamkelmbhankaaCoCovered
namespace Go.Proofs.Ytnamkelmbhankaa
open Go.RowKit

set_option maxHeartbeats 400000 in
theorem coverOnly_far (s : List UInt8) (pos : Int) (w : World) (h : 600 < s.length) :
    Calls Try.prog 5 #[.string ⟨s.toArray⟩, .int .i64 pos] w fun e w' => e = .returned (.bool true) ∧ Lo w w' := by
  have hsz : (ByteArray.mk s.toArray).size = s.length := rfl
  have hz : (600 : Int) < (s.length : Int) := by omega
  generalize s.length = n at *
  go_enter Try.func5, Try.ntmps5
  go_wp2_with fail
  go_ret
  exact ⟨rfl, Lo.refl _⟩

set_option maxHeartbeats 800000 in
theorem coverOnly_no (s : List UInt8) (pos : Int) (w : World) (h : s.length ≤ 600) (h1 : pos ≤ 9223372036854775807) (h0 : (Co.get s pos).2 ≠ 0) :
    Calls Try.prog 5 #[.string ⟨s.toArray⟩, .int .i64 pos] w fun e w' => e = .returned (.bool true) ∧ Lo w w' := by
  have HG := Lib.hid (fun W => coget_any s pos W (by omega) h1)
  have HD := Lib.hid (fun W => covered_any W)
  have hnil := Co.get_none h0
  unfold GotRow at HG
  rw [hnil] at HG
  generalize (Co.get s pos).2 = z at *
  have hz0 : (z != 0) = true := by simpa using h0
  have hsz : (ByteArray.mk s.toArray).size = s.length := rfl
  have hz : ¬ (600 : Int) < (s.length : Int) := by omega
  generalize s.length = n at *
  clear hnil h0
  go_enter Try.func5, Try.ntmps5
  go_wp2_with fail
  refine (HG.out _).mono ?_
  rintro e w1 ⟨p, c, rfl, _, lo⟩
  have HL := Lib.hid lo
  clear lo HG
  go_wp2_with fail
  refine (HD.out _).mono ?_
  rintro e w2 ⟨rfl, lo⟩
  have HL2 := Lib.hid (HL.out.trans lo)
  clear lo HD
  go_wp2_with fail
  go_ret
  exact ⟨rfl, HL2.out⟩

set_option maxRecDepth 100000 in
set_option maxHeartbeats 1600000 in
theorem coverOnly_ok (s : List UInt8) (pos : Int) (w : World) (h : s.length ≤ 600) (h1 : pos ≤ 9223372036854775807) (h0 : (Co.get s pos).2 = 0) :
    Calls Try.prog 5 #[.string ⟨s.toArray⟩, .int .i64 pos] w fun e w' => e = .returned (.bool true) ∧ Lo w w' := by
  have HG := Lib.hid (fun W => coget_any s pos W (by omega) h1)
  have HD := Lib.hid (fun W => covered_any W)
  obtain ⟨a1, a2, a3, a4⟩ := Co.get_again h0
  have hp := (Co.get_ok h0).1
  have HP := Lib.hid (fun (v : Value) (W : World) (k : Row W v (Co.get s pos).1) => coput_any v _ W k)
  have HI := Lib.hid (fun (v : Value) (W : World) (k : Row W v (Co.get s pos).1) => cois_any v _ W k)
  have HN := Lib.hid (fun (v u : Value) (W : World) (k : Row W v (Co.get s pos).1) (k2 : Row W u (Co.get s pos).1) => rints_any v u _ _ W k k2)
  have HG2 := Lib.hid (fun W => coget_any (Co.put (Co.get s pos).1).1 0 W (by omega) (by omega))
  unfold GotRow at HG HG2
  unfold strErr at HP
  rw [h0] at HG
  rw [a1] at HI
  rw [a2] at HP
  rw [a3] at HG2
  rw [decide_eq_true rfl] at HN
  have htz : (ByteArray.mk (Co.put (Co.get s pos).1).1.toArray).size = (Co.put (Co.get s pos).1).1.length := rfl
  generalize (Co.put (Co.get s pos).1).1 = t at *
  generalize (Co.get s pos).1 = l at *
  have hsz : (ByteArray.mk s.toArray).size = s.length := rfl
  generalize s.length = n at *
  have hz : ¬ (600 : Int) < (n : Int) := by omega
  generalize t.length = tn at *
  dsimp only at HG2
  clear h0 a1 a2 a3
  go_enter Try.func5, Try.ntmps5
  go_wp2_with fail
  refine (HG.out _).mono ?_
  rintro e w1 ⟨p, c, rfl, hrow, lo⟩
  have HL := Lib.hid lo
  have HR := Lib.hid hrow
  clear lo HG hrow
  generalize hln : l.length = ln at *
  by_cases h5 : 5000 < ln
  · have hq5 : (5000 : Int) < (ln : Int) := by omega
    go_wp2_with fail
    refine (HD.out _).mono ?_
    rintro e w2 ⟨rfl, lo⟩
    have HL2 := Lib.hid (HL.out.trans lo)
    have HR2 := Lib.hid (HR.out.lo lo)
    clear lo HD
    go_wp2_with fail
    refine (HI.out _ _ HR2.out).mono ?_
    rintro e w3 ⟨rfl, rfl⟩
    go_wp2_with fail
    go_ret
    exact ⟨rfl, HL2.out⟩
  · have hq5 : ¬ (5000 : Int) < (ln : Int) := by omega
    go_wp2_with fail
    refine (HP.out _ _ HR.out).mono ?_
    rintro e w2 ⟨rfl, lo⟩
    have HL2 := Lib.hid (HL.out.trans lo)
    have HR2 := Lib.hid (HR.out.lo lo)
    clear lo HP HL HR
    go_wp2_with fail
    refine (HG2.out _).mono ?_
    rintro e w3 ⟨p3, c3, rfl, hrow, lo⟩
    have HL3 := Lib.hid (HL2.out.trans lo)
    have HR3 := Lib.hid (HR2.out.lo lo)
    have HM3 := Lib.hid hrow
    clear lo HG2 HL2 HR2 hrow
    go_wp2_with fail
    refine (HD.out _).mono ?_
    rintro e w4 ⟨rfl, lo⟩
    have HL4 := Lib.hid (HL3.out.trans lo)
    have HR4 := Lib.hid (HR3.out.lo lo)
    have HM4 := Lib.hid (HM3.out.lo lo)
    clear lo HD HL3 HR3 HM3
    go_wp2_with fail
    refine (HI.out _ _ HR4.out).mono ?_
    rintro e w5 ⟨rfl, rfl⟩
    go_wp2_with fail
    refine (HN.out _ _ _ HR4.out HM4.out).mono ?_
    rintro e w6 ⟨rfl, lo⟩
    have HL5 := Lib.hid (HL4.out.trans lo)
    clear lo HN HL4
    go_wp2_with fail
    go_ret
    exact ⟨ret_bool (by simp), HL5.out⟩

theorem coverOnly_walk (a : ByteArray) (pos : Int) (w : World) (_w0 : a.size ≤ maxLen) (w1 : (Lit.int .i64 pos).wf = true) :
    Calls Try.prog 5 #[.string a, .int .i64 pos] w fun e w' => e = .returned (.bool true) ∧ Below w.heap.size w w' := by
  have hb : pos ≤ 9223372036854775807 := by
    have h1 : (decide (IntKind.i64.min ≤ pos) && decide (pos ≤ IntKind.i64.max)) = true := w1
    rw [show IntKind.i64.min = -9223372036854775808 by decide, show IntKind.i64.max = 9223372036854775807 by decide] at h1
    simp only [Bool.and_eq_true, decide_eq_true_eq] at h1
    exact h1.2
  rcases Nat.lt_or_ge 600 a.data.toList.length with h3 | h3
  · exact coverOnly_far a.data.toList pos w h3
  · by_cases h0 : (Co.get a.data.toList pos).2 = 0
    · exact coverOnly_ok a.data.toList pos w h3 hb h0
    · exact coverOnly_no a.data.toList pos w h3 hb h0
end Go.Proofs.Ytnamkelmbhankaa
