/-
  The walk of the law KonstDoes. No conditions beyond those stated.
-/
import Derived.Test.YtcbchnckeeklkaaKoTold
import Derived.Test.YtcbchnckeeklkaaKoRefGet
import Derived.Test.YtcbchnckeeklkaaKoRefPut
import Derived.Test.YtcbchnckeeklkaaKoRefName
namespace Go.Proofs.Ytcbchnckeeklkaa
open Go.RowKit

set_option maxHeartbeats 400000 in
theorem konstDoes_far (s : List UInt8) (pos : Int) (p : Option Addr) (n c : Nat) (k : Int) (x : List UInt8) (w : World) (h : 600 < s.length ∨ 100 < n ∨ 100 < x.length) :
    Calls Try.prog 3 #[.string ⟨s.toArray⟩, .int .i64 pos, .slice p n c, .int .i64 k, .string ⟨x.toArray⟩] w fun e w' => e = .returned (.bool true) ∧ Lo w w' := by
  have hsz : (ByteArray.mk s.toArray).size = s.length := rfl
  have hsz2 : (ByteArray.mk x.toArray).size = x.length := rfl
  by_cases h6 : 600 < s.length
  · have hz : (600 : Int) < (s.length : Int) := by omega
    generalize s.length = sn at *
    generalize x.length = xn at *
    go_enter Try.func3, Try.ntmps3
    go_wp2_with fail
    go_ret
    exact ⟨rfl, Lo.refl _⟩
  · have hz : ¬ (600 : Int) < (s.length : Int) := by omega
    by_cases h7 : 100 < n
    · have hz2 : (100 : Int) < (n : Int) := by omega
      generalize s.length = sn at *
      generalize x.length = xn at *
      go_enter Try.func3, Try.ntmps3
      go_wp2_with fail
      go_ret
      exact ⟨rfl, Lo.refl _⟩
    · have hz2 : ¬ (100 : Int) < (n : Int) := by omega
      have hz3 : (100 : Int) < (x.length : Int) := by omega
      generalize s.length = sn at *
      generalize x.length = xn at *
      go_enter Try.func3, Try.ntmps3
      go_wp2_with fail
      go_ret
      exact ⟨rfl, Lo.refl _⟩

set_option maxRecDepth 100000 in
set_option maxHeartbeats 3200000 in
theorem konstDoes_ok (s : List UInt8) (pos : Int) (v : Value) (l : List Int) (k : Int) (x : List UInt8) (w : World) (hr : Row w v l) (hs : s.length ≤ 600) (hn : l.length ≤ 100) (hx : x.length ≤ 100) (h1 : pos ≤ 9223372036854775807) :
    Calls Try.prog 3 #[.string ⟨s.toArray⟩, .int .i64 pos, v, .int .i64 k, .string ⟨x.toArray⟩] w fun e w' => e = .returned (.bool true) ∧ Lo w w' := by
  have HOw := Lib.hid (rown_any v l w hr (by omega))
  have HG := Lib.hid (fun W => kget_any s pos W (by omega) h1)
  have HG2 := Lib.hid (fun W => rkget_any s pos W (by omega))
  have HP := Lib.hid (fun (u : Value) (W : World) (k : Row W u l) => kput_any u l W k)
  have HP2 := Lib.hid (fun (u : Value) (W : World) (k : Row W u l) => rkput_any u l W k)
  have HM := Lib.hid (fun W => kname_any k W)
  have HM2 := Lib.hid (fun W => rname13_any k W)
  have HF := Lib.hid (fun W => kfind_any x W)
  have HF2 := Lib.hid (fun W => rfind13_any x W)
  have HI := Lib.hid (fun (u : Value) (W : World) (k : Row W u l) => kis_any u l W k)
  have HI2 := Lib.hid (fun (u : Value) (W : World) (k : Row W u l) => ris13_any u l W k)
  have HN := Lib.hid (fun (u u2 : Value) (W : World) (k : Row W u l) (k2 : Row W u2 l) => rints_any u u2 l l W k k2)
  rw [decide_eq_true rfl] at HN
  have HN2 := Lib.hid (fun (u u2 : Value) (W : World) (k : Row W u (Ko.get s pos).1) (k2 : Row W u2 (Ko.get s pos).1) => rints_any u u2 _ _ W k k2)
  rw [decide_eq_true rfl] at HN2
  have HD := Lib.hid (fun W => ktold_any W)
  obtain ⟨p, c, rfl, _⟩ := hr.form
  have HR := Lib.hid hr
  unfold GotRow at HG HG2
  unfold strErr at HP HP2 HM HM2
  generalize (Ko.put l).1 = t at *
  generalize (Ko.put l).2 = te at *
  generalize (Ko.name k).1 = y at *
  generalize (Ko.name k).2 = ye at *
  generalize (Ko.find x).1 = fi at *
  generalize (Ko.find x).2 = fe at *
  generalize Ko.isK l = ic at *
  generalize (Ko.get s pos).2 = ge at *
  generalize (Ko.get s pos).1 = gl at *
  have hsz : (ByteArray.mk s.toArray).size = s.length := rfl
  have hsz2 : (ByteArray.mk x.toArray).size = x.length := rfl
  have hz : ¬ (600 : Int) < (s.length : Int) := by omega
  have hz2 : ¬ (100 : Int) < (l.length : Int) := by omega
  have hz3 : ¬ (100 : Int) < (x.length : Int) := by omega
  generalize s.length = sn at *
  generalize x.length = xn at *
  generalize l.length = n at *
  generalize gl.length = gn at *
  clear hr hs hx
  go_enter Try.func3, Try.ntmps3
  go_wp2_with fail
  refine (HOw.out).mono ?_
  rintro e w1 ⟨po, c0, rfl, hrow, lo⟩
  have HL1 := Lib.hid lo
  have HR1 := Lib.hid (HR.out.lo lo)
  have HO1 := Lib.hid hrow
  clear lo hrow HR HOw
  go_wp2_with fail
  refine (HG.out _).mono ?_
  rintro e w2 ⟨pa, ca, rfl, hrow, lo⟩
  have HL2 := Lib.hid (HL1.out.trans lo)
  have HR2 := Lib.hid (HR1.out.lo lo)
  have HO2 := Lib.hid (HO1.out.lo lo)
  have HA2 := Lib.hid hrow
  clear lo hrow HL1 HR1 HO1 HG
  go_wp2_with fail
  refine (HG2.out _).mono ?_
  rintro e w3 ⟨pb, cb, rfl, hrow, lo⟩
  have HL3 := Lib.hid (HL2.out.trans lo)
  have HR3 := Lib.hid (HR2.out.lo lo)
  have HO3 := Lib.hid (HO2.out.lo lo)
  have HA3 := Lib.hid (HA2.out.lo lo)
  have HB3 := Lib.hid hrow
  clear lo hrow HL2 HR2 HO2 HA2 HG2
  go_wp2_with fail
  refine (HP.out _ _ HR3.out).mono ?_
  rintro e w4 ⟨rfl, lo⟩
  have HL4 := Lib.hid (HL3.out.trans lo)
  have HR4 := Lib.hid (HR3.out.lo lo)
  have HO4 := Lib.hid (HO3.out.lo lo)
  have HA4 := Lib.hid (HA3.out.lo lo)
  have HB4 := Lib.hid (HB3.out.lo lo)
  clear lo HL3 HR3 HO3 HA3 HB3 HP
  go_wp2_with fail
  refine (HP2.out _ _ HO4.out).mono ?_
  rintro e w5 ⟨rfl, lo⟩
  have HL5 := Lib.hid (HL4.out.trans lo)
  have HR5 := Lib.hid (HR4.out.lo lo)
  have HO5 := Lib.hid (HO4.out.lo lo)
  have HA5 := Lib.hid (HA4.out.lo lo)
  have HB5 := Lib.hid (HB4.out.lo lo)
  clear lo HL4 HR4 HO4 HA4 HB4 HP2
  go_wp2_with fail
  refine (HM.out _).mono ?_
  rintro e w6 ⟨rfl, lo⟩
  have HL6 := Lib.hid (HL5.out.trans lo)
  have HR6 := Lib.hid (HR5.out.lo lo)
  have HO6 := Lib.hid (HO5.out.lo lo)
  have HA6 := Lib.hid (HA5.out.lo lo)
  have HB6 := Lib.hid (HB5.out.lo lo)
  clear lo HL5 HR5 HO5 HA5 HB5 HM
  go_wp2_with fail
  refine (HM2.out _).mono ?_
  rintro e w7 ⟨rfl, rfl⟩
  clear HM2
  go_wp2_with fail
  refine (HF.out _).mono ?_
  rintro e w8 ⟨rfl, lo⟩
  have HL8 := Lib.hid (HL6.out.trans lo)
  have HR8 := Lib.hid (HR6.out.lo lo)
  have HO8 := Lib.hid (HO6.out.lo lo)
  have HA8 := Lib.hid (HA6.out.lo lo)
  have HB8 := Lib.hid (HB6.out.lo lo)
  clear lo HL6 HR6 HO6 HA6 HB6 HF
  go_wp2_with fail
  refine (HF2.out _).mono ?_
  rintro e w9 ⟨rfl, rfl⟩
  clear HF2
  go_wp2_with fail
  refine (HD.out _).mono ?_
  rintro e w10 ⟨rfl, lo⟩
  have HL10 := Lib.hid (HL8.out.trans lo)
  have HR10 := Lib.hid (HR8.out.lo lo)
  have HO10 := Lib.hid (HO8.out.lo lo)
  have HA10 := Lib.hid (HA8.out.lo lo)
  have HB10 := Lib.hid (HB8.out.lo lo)
  clear lo HL8 HR8 HO8 HA8 HB8 HD
  go_wp2_with fail
  refine (HN2.out _ _ _ HA10.out HB10.out).mono ?_
  rintro e w11 ⟨rfl, lo⟩
  have HL11 := Lib.hid (HL10.out.trans lo)
  have HR11 := Lib.hid (HR10.out.lo lo)
  have HO11 := Lib.hid (HO10.out.lo lo)
  clear lo HL10 HR10 HO10 HA10 HB10 HN2
  go_wp2_with fail
  refine (HI.out _ _ HR11.out).mono ?_
  rintro e w12 ⟨rfl, lo⟩
  have HL12 := Lib.hid (HL11.out.trans lo)
  have HR12 := Lib.hid (HR11.out.lo lo)
  have HO12 := Lib.hid (HO11.out.lo lo)
  clear lo HL11 HR11 HO11 HI
  go_wp2_with fail
  refine (HI2.out _ _ HO12.out).mono ?_
  rintro e w13 ⟨rfl, lo⟩
  have HL13 := Lib.hid (HL12.out.trans lo)
  have HR13 := Lib.hid (HR12.out.lo lo)
  have HO13 := Lib.hid (HO12.out.lo lo)
  clear lo HL12 HR12 HO12 HI2
  go_wp2_with fail
  refine (HN.out _ _ _ HR13.out HO13.out).mono ?_
  rintro e w14 ⟨rfl, lo⟩
  have HL14 := Lib.hid (HL13.out.trans lo)
  clear lo HL13 HR13 HO13 HN
  go_wp2_with fail
  go_ret
  exact ⟨ret_bool (by simp), HL14.out⟩

theorem konstDoes_walk (a : ByteArray) (pos : Int) (v : Value) (l : List Int) (k : Int) (x : ByteArray) (w : World) (_w0 : a.size ≤ maxLen) (w1 : (Lit.int .i64 pos).wf = true) (hr : Row w v l) (_w3 : (Lit.int .i64 k).wf = true) (_w4 : x.size ≤ maxLen) :
    Calls Try.prog 3 #[.string a, .int .i64 pos, v, .int .i64 k, .string x] w fun e w' => e = .returned (.bool true) ∧ Below w.heap.size w w' := by
  have hb : pos ≤ 9223372036854775807 := by
    have h1 : (decide (IntKind.i64.min ≤ pos) && decide (pos ≤ IntKind.i64.max)) = true := w1
    rw [show IntKind.i64.min = -9223372036854775808 by decide, show IntKind.i64.max = 9223372036854775807 by decide] at h1
    simp only [Bool.and_eq_true, decide_eq_true_eq] at h1
    exact h1.2
  by_cases hc : 600 < a.data.toList.length ∨ 100 < l.length ∨ 100 < x.data.toList.length
  · obtain ⟨p, c, rfl, _⟩ := hr.form
    exact konstDoes_far a.data.toList pos p l.length c k x.data.toList w hc
  · exact konstDoes_ok a.data.toList pos v l k x.data.toList w hr (by omega) (by omega) (by omega) hb
end Go.Proofs.Ytcbchnckeeklkaa
