/-
  The walk of the law CoverDoes. No conditions beyond those stated.
-/
import Derived.Test.YtnamkelmbhankaaCoCovered
import Derived.Test.YtnamkelmbhankaaCoRefGet2
import Derived.Test.YtnamkelmbhankaaCoRefPut
namespace Go.Proofs.Ytnamkelmbhankaa
open Go.RowKit

set_option maxHeartbeats 400000 in
theorem coverDoes_far (s : List UInt8) (pos : Int) (p : Option Addr) (n c : Nat) (g : Int) (w : World) (h : 600 < s.length ∨ 500 < n) :
    Calls Try.prog 3 #[.string ⟨s.toArray⟩, .int .i64 pos, .slice p n c, .int .i64 g] w fun e w' => e = .returned (.bool true) ∧ Lo w w' := by
  have hsz : (ByteArray.mk s.toArray).size = s.length := rfl
  by_cases h6 : 600 < s.length
  · have hz : (600 : Int) < (s.length : Int) := by omega
    generalize s.length = sn at *
    go_enter Try.func3, Try.ntmps3
    go_wp2_with fail
    go_ret
    exact ⟨rfl, Lo.refl _⟩
  · have HS := Lib.hid (rshort12_any p n c w)
    rw [decide_eq_false (show ¬ n ≤ 500 by omega)] at HS
    have hz : ¬ (600 : Int) < (s.length : Int) := by omega
    generalize s.length = sn at *
    go_enter Try.func3, Try.ntmps3
    go_wp2_with fail
    refine HS.out.mono ?_
    rintro e w1 ⟨rfl, rfl⟩
    go_wp2_with fail
    go_ret
    exact ⟨rfl, Lo.refl _⟩

set_option maxRecDepth 100000 in
set_option maxHeartbeats 3200000 in
theorem coverDoes_ok (s : List UInt8) (pos : Int) (v : Value) (l : List Int) (g : Int) (w : World) (hr : Row w v l) (hs : s.length ≤ 600) (hn : l.length ≤ 500) (h1 : pos ≤ 9223372036854775807) :
    Calls Try.prog 3 #[.string ⟨s.toArray⟩, .int .i64 pos, v, .int .i64 g] w fun e w' => e = .returned (.bool true) ∧ Lo w w' := by
  have HOw := Lib.hid (rown_any v l w hr (by omega))
  have HG := Lib.hid (fun W => coget_any s pos W (by omega) h1)
  have HG2 := Lib.hid (fun W => rcget_any s pos W (by omega))
  have HP := Lib.hid (fun (u : Value) (W : World) (k : Row W u l) => coput_any u l W k)
  have HP2 := Lib.hid (fun (u : Value) (W : World) (k : Row W u l) => rcput_any u l W k (by omega))
  have HF := Lib.hid (fun (u : Value) (W : World) (k : Row W u l) => cofind_any u l g W k)
  have HF2 := Lib.hid (fun (u : Value) (W : World) (k : Row W u l) => rfind12_any u l g W k (by omega))
  have HI := Lib.hid (fun (u : Value) (W : World) (k : Row W u l) => cois_any u l W k)
  have HI2 := Lib.hid (fun (u : Value) (W : World) (k : Row W u l) => ris12_any u l W k (by omega))
  have HN := Lib.hid (fun (u u2 : Value) (W : World) (k : Row W u l) (k2 : Row W u2 l) => rints_any u u2 l l W k k2)
  rw [decide_eq_true rfl] at HN
  have HN2 := Lib.hid (fun (u u2 : Value) (W : World) (k : Row W u (Co.get s pos).1) (k2 : Row W u2 (Co.get s pos).1) => rints_any u u2 _ _ W k k2)
  rw [decide_eq_true rfl] at HN2
  have HD := Lib.hid (fun W => covered_any W)
  obtain ⟨p, c, rfl, _⟩ := hr.form
  have HR := Lib.hid hr
  have HS := Lib.hid (rshort12_any p l.length c w)
  rw [decide_eq_true hn] at HS
  unfold GotRow at HG HG2
  unfold strErr at HP HP2
  generalize (Co.put l).1 = t at *
  generalize (Co.put l).2 = te at *
  generalize ((Co.find l g).1 : Nat) = fi at *
  generalize (Co.find l g).2 = fo at *
  generalize Co.isCov l = ic at *
  generalize (Co.get s pos).2 = ge at *
  generalize (Co.get s pos).1 = gl at *
  have hsz : (ByteArray.mk s.toArray).size = s.length := rfl
  have hz : ¬ (600 : Int) < (s.length : Int) := by omega
  generalize s.length = sn at *
  generalize l.length = n at *
  generalize gl.length = gn at *
  clear hr hs
  go_enter Try.func3, Try.ntmps3
  go_wp2_with fail
  refine HS.out.mono ?_
  rintro e w1 ⟨rfl, rfl⟩
  go_wp2_with fail
  refine HOw.out.mono ?_
  rintro e w2 ⟨po, c0, rfl, hrow, lo⟩
  have HL2 := Lib.hid lo
  have HR2 := Lib.hid (HR.out.lo lo)
  have HO2 := Lib.hid hrow
  clear lo hrow HR HOw HS
  go_wp2_with fail
  refine (HG.out _).mono ?_
  rintro e w3 ⟨p3, c3, rfl, hrow, lo⟩
  have HL3 := Lib.hid (HL2.out.trans lo)
  have HR3 := Lib.hid (HR2.out.lo lo)
  have HO3 := Lib.hid (HO2.out.lo lo)
  have HA3 := Lib.hid hrow
  clear lo hrow HR2 HO2 HL2 HG
  go_wp2_with fail
  refine (HG2.out _).mono ?_
  rintro e w4 ⟨p4, c4, rfl, hrow, lo⟩
  have HL4 := Lib.hid (HL3.out.trans lo)
  have HR4 := Lib.hid (HR3.out.lo lo)
  have HO4 := Lib.hid (HO3.out.lo lo)
  have HA4 := Lib.hid (HA3.out.lo lo)
  have HB4 := Lib.hid hrow
  clear lo hrow HR3 HO3 HL3 HA3 HG2
  go_wp2_with fail
  refine (HP.out _ _ HR4.out).mono ?_
  rintro e w5 ⟨rfl, lo⟩
  have HL5 := Lib.hid (HL4.out.trans lo)
  have HR5 := Lib.hid (HR4.out.lo lo)
  have HO5 := Lib.hid (HO4.out.lo lo)
  have HA5 := Lib.hid (HA4.out.lo lo)
  have HB5 := Lib.hid (HB4.out.lo lo)
  clear lo HR4 HO4 HL4 HA4 HB4 HP
  go_wp2_with fail
  refine (HP2.out _ _ HO5.out).mono ?_
  rintro e w6 ⟨rfl, lo⟩
  have HL6 := Lib.hid (HL5.out.trans lo)
  have HR6 := Lib.hid (HR5.out.lo lo)
  have HO6 := Lib.hid (HO5.out.lo lo)
  have HA6 := Lib.hid (HA5.out.lo lo)
  have HB6 := Lib.hid (HB5.out.lo lo)
  clear lo HR5 HO5 HL5 HA5 HB5 HP2
  go_wp2_with fail
  refine (HF.out _ _ HR6.out).mono ?_
  rintro e w7 ⟨rfl, rfl⟩
  go_wp2_with fail
  refine (HF2.out _ _ HO6.out).mono ?_
  rintro e w8 ⟨rfl, lo⟩
  have HL8 := Lib.hid (HL6.out.trans lo)
  have HR8 := Lib.hid (HR6.out.lo lo)
  have HO8 := Lib.hid (HO6.out.lo lo)
  have HA8 := Lib.hid (HA6.out.lo lo)
  have HB8 := Lib.hid (HB6.out.lo lo)
  clear lo HR6 HO6 HL6 HA6 HB6 HF HF2
  go_wp2_with fail
  refine (HD.out _).mono ?_
  rintro e w9 ⟨rfl, lo⟩
  have HL9 := Lib.hid (HL8.out.trans lo)
  have HR9 := Lib.hid (HR8.out.lo lo)
  have HO9 := Lib.hid (HO8.out.lo lo)
  have HA9 := Lib.hid (HA8.out.lo lo)
  have HB9 := Lib.hid (HB8.out.lo lo)
  clear lo HR8 HO8 HL8 HA8 HB8 HD
  go_wp2_with fail
  refine (HN2.out _ _ _ HA9.out HB9.out).mono ?_
  rintro e w10 ⟨rfl, lo⟩
  have HL10 := Lib.hid (HL9.out.trans lo)
  have HR10 := Lib.hid (HR9.out.lo lo)
  have HO10 := Lib.hid (HO9.out.lo lo)
  clear lo HR9 HO9 HL9 HA9 HB9 HN2
  go_wp2_with fail
  refine (HI.out _ _ HR10.out).mono ?_
  rintro e w11 ⟨rfl, rfl⟩
  go_wp2_with fail
  refine (HI2.out _ _ HO10.out).mono ?_
  rintro e w12 ⟨rfl, lo⟩
  have HL12 := Lib.hid (HL10.out.trans lo)
  have HR12 := Lib.hid (HR10.out.lo lo)
  have HO12 := Lib.hid (HO10.out.lo lo)
  clear lo HR10 HO10 HL10 HI HI2
  go_wp2_with fail
  refine (HN.out _ _ _ HR12.out HO12.out).mono ?_
  rintro e w13 ⟨rfl, lo⟩
  have HL13 := Lib.hid (HL12.out.trans lo)
  clear lo HR12 HO12 HL12 HN
  go_wp2_with fail
  go_ret
  exact ⟨ret_bool (by simp), HL13.out⟩

theorem coverDoes_walk (a : ByteArray) (pos : Int) (v : Value) (l : List Int) (g : Int) (w : World) (_w0 : a.size ≤ maxLen) (w1 : (Lit.int .i64 pos).wf = true) (hr : Row w v l) (_w3 : (Lit.int .i64 g).wf = true) :
    Calls Try.prog 3 #[.string a, .int .i64 pos, v, .int .i64 g] w fun e w' => e = .returned (.bool true) ∧ Below w.heap.size w w' := by
  have hb : pos ≤ 9223372036854775807 := by
    have h1 : (decide (IntKind.i64.min ≤ pos) && decide (pos ≤ IntKind.i64.max)) = true := w1
    rw [show IntKind.i64.min = -9223372036854775808 by decide, show IntKind.i64.max = 9223372036854775807 by decide] at h1
    simp only [Bool.and_eq_true, decide_eq_true_eq] at h1
    exact h1.2
  by_cases hc : 600 < a.data.toList.length ∨ 500 < l.length
  · obtain ⟨p, c, rfl, _⟩ := hr.form
    exact coverDoes_far a.data.toList pos p l.length c g w hc
  · exact coverDoes_ok a.data.toList pos v l g w hr (by omega) (by omega) hb
end Go.Proofs.Ytnamkelmbhankaa
