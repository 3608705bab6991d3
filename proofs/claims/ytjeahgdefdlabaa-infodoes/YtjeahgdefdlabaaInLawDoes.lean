/-
  The walk of the law InfoDoes. No conditions beyond those stated.
-/
import Derived.Test.YtjeahgdefdlabaaInTold
import Derived.Test.YtjeahgdefdlabaaInRefGet
import Derived.Test.YtjeahgdefdlabaaInRefPut
namespace Go.Proofs.Ytjeahgdefdlabaa
open Go.RowKit

set_option maxHeartbeats 400000 in
theorem infoDoes_far (s : List UInt8) (pos : Int) (p : Option Addr) (n c : Nat) (g : Int) (w : World) (h : 600 < s.length ∨ 300 < n) :
    Calls Try.prog 3 #[.string ⟨s.toArray⟩, .int .i64 pos, .slice p n c, .int .i64 g] w fun e w' => e = .returned (.bool true) ∧ Lo w w' := by
  have hsz : (ByteArray.mk s.toArray).size = s.length := rfl
  by_cases h6 : 600 < s.length
  · have hz : (600 : Int) < (s.length : Int) := by omega
    generalize s.length = sn at *
    go_enter Try.func3, Try.ntmps3
    go_wp2_with fail
    go_ret
    exact ⟨rfl, Lo.refl _⟩
  · have hz : ¬ (600 : Int) < (s.length : Int) := by omega
    have hz2 : (300 : Int) < (n : Int) := by omega
    generalize s.length = sn at *
    go_enter Try.func3, Try.ntmps3
    go_wp2_with fail
    go_ret
    exact ⟨rfl, Lo.refl _⟩

set_option maxRecDepth 100000 in
set_option maxHeartbeats 3200000 in
theorem infoDoes_ok (s : List UInt8) (pos : Int) (v : Value) (l : List Ino.Pair) (k : Int) (w : World) (hr : PRow w v l) (hs : s.length ≤ 600) (hn : l.length ≤ 300) (h1 : pos ≤ 9223372036854775807) :
    Calls Try.prog 3 #[.string ⟨s.toArray⟩, .int .i64 pos, v, .int .i64 k] w fun e w' => e = .returned (.bool true) ∧ Lo w w' := by
  have HG := Lib.hid (fun W => iget_any s pos W (by omega) h1)
  have HG2 := Lib.hid (fun W => riget_any s pos W (by omega))
  have HP := Lib.hid (fun (u : Value) (W : World) (k : PRow W u l) => iput_any u l W k (by omega))
  have HP2 := Lib.hid (fun (u : Value) (W : World) (k : PRow W u l) => riput_any u l W k (by omega))
  have HF := Lib.hid (fun (u : Value) (W : World) (h : PRow W u l) => ifind_any u l k W h (by omega))
  have HF2 := Lib.hid (fun (u : Value) (W : World) (h : PRow W u l) => rfind14_any u l k W h (by omega))
  have HI := Lib.hid (fun (u : Value) (W : World) (k : PRow W u l) => iis_any u l W k (by omega))
  have HI2 := Lib.hid (fun (u : Value) (W : World) (k : PRow W u l) => ris14_any u l W k (by omega))
  have HN := Lib.hid (fun (u u2 : Value) (W : World) (k : PRow W u l) (k2 : PRow W u2 l) => psame_any l u u2 W k k2)
  have HN2 := Lib.hid (fun (u u2 : Value) (W : World) (k : PRow W u (Ino.get s pos).1) (k2 : PRow W u2 (Ino.get s pos).1) => psame_any _ u u2 W k k2)
  have HD := Lib.hid (fun W => valued_any W)
  obtain ⟨p, c, rfl, _⟩ := RowK.form hr
  have HR := Lib.hid hr
  unfold GotPairs at HG HG2
  unfold strErr at HP HP2
  generalize (Ino.put l).1 = t at *
  generalize (Ino.put l).2 = te at *
  generalize (Ino.find l k).1 = fi at *
  generalize (Ino.find l k).2 = fe at *
  generalize Ino.isP l = ic at *
  generalize (Ino.get s pos).2 = ge at *
  generalize (Ino.get s pos).1 = gl at *
  have hsz : (ByteArray.mk s.toArray).size = s.length := rfl
  have hz : ¬ (600 : Int) < (s.length : Int) := by omega
  have hz2 : ¬ (300 : Int) < (l.length : Int) := by omega
  generalize s.length = sn at *
  have HNn : Hid (l.length ≤ 300) := Lib.hid hn
  generalize hln : l.length = n at *
  have HLn := Lib.hid hln
  generalize gl.length = gn at *
  clear hr hs hln
  go_enter Try.func3, Try.ntmps3
  go_wp2_with (at_builtin; refine wpList_appK (enc := encP) _ rfl (.tmp 30) (.tmp 31) 22 rfl 35 2 16 (.agg #[.int .i64 0, .int .i64 0]) Try.underlying22 pair_info rfl (by omega) (by omega) encP_len encP_one w.heap.size (.slice none 0 0) [] rfl (OwnK.none _ _ _ _ _) _ l rfl HR.out (by rw [HLn.out]; simp; omega) (Nat.le_refl _) ?_; intro q0 cq w0 hown hlo; have HO0 := Lib.hid (OwnK.row encP_len hown); have HL0 := Lib.hid (hlo w (Lo.refl _) (Nat.le_refl _)); have HR0 := Lib.hid (PRow.lo HR.out HL0.out); clear hown hlo; simp only [List.nil_append, List.length_nil, Nat.zero_add] at HO0 ⊢; rw [HLn.out] at HO0 ⊢)
  refine (HG.out _).mono ?_
  rintro e w1 ⟨pa, ca, rfl, hrow, lo⟩
  have HL1 := Lib.hid (HL0.out.trans lo)
  have HR1 := Lib.hid (HR0.out.lo lo)
  have HO1 := Lib.hid (HO0.out.lo lo)
  have HA1 := Lib.hid hrow
  clear lo hrow HL0 HR0 HO0 HG
  go_wp2_with fail
  refine (HG2.out _).mono ?_
  rintro e w2 ⟨pb, cb, rfl, hrow, lo⟩
  have HL2 := Lib.hid (HL1.out.trans lo)
  have HR2 := Lib.hid (HR1.out.lo lo)
  have HO2 := Lib.hid (HO1.out.lo lo)
  have HA2 := Lib.hid (HA1.out.lo lo)
  have HB2 := Lib.hid hrow
  clear lo hrow HL1 HR1 HO1 HA1 HG2
  go_wp2_with fail
  refine (HP.out _ _ HR2.out).mono ?_
  rintro e w3 ⟨rfl, lo⟩
  have HL3 := Lib.hid (HL2.out.trans lo)
  have HR3 := Lib.hid (HR2.out.lo lo)
  have HO3 := Lib.hid (HO2.out.lo lo)
  have HA3 := Lib.hid (HA2.out.lo lo)
  have HB3 := Lib.hid (HB2.out.lo lo)
  clear lo HL2 HR2 HO2 HA2 HB2 HP
  go_wp2_with fail
  refine (HP2.out _ _ HO3.out).mono ?_
  rintro e w4 ⟨rfl, lo⟩
  have HL4 := Lib.hid (HL3.out.trans lo)
  have HR4 := Lib.hid (HR3.out.lo lo)
  have HO4 := Lib.hid (HO3.out.lo lo)
  have HA4 := Lib.hid (HA3.out.lo lo)
  have HB4 := Lib.hid (HB3.out.lo lo)
  clear lo HL3 HR3 HO3 HA3 HB3 HP2
  go_wp2_with fail
  refine (HF.out _ _ HR4.out).mono ?_
  rintro e w5 ⟨rfl, lo⟩
  have HL5 := Lib.hid (HL4.out.trans lo)
  have HR5 := Lib.hid (HR4.out.lo lo)
  have HO5 := Lib.hid (HO4.out.lo lo)
  have HA5 := Lib.hid (HA4.out.lo lo)
  have HB5 := Lib.hid (HB4.out.lo lo)
  clear lo HL4 HR4 HO4 HA4 HB4 HF
  go_wp2_with fail
  refine (HF2.out _ _ HO5.out).mono ?_
  rintro e w6 ⟨rfl, lo⟩
  have HL6 := Lib.hid (HL5.out.trans lo)
  have HR6 := Lib.hid (HR5.out.lo lo)
  have HO6 := Lib.hid (HO5.out.lo lo)
  have HA6 := Lib.hid (HA5.out.lo lo)
  have HB6 := Lib.hid (HB5.out.lo lo)
  clear lo HL5 HR5 HO5 HA5 HB5 HF2
  go_wp2_with fail
  refine (HD.out _).mono ?_
  rintro e w7 ⟨rfl, lo⟩
  have HL7 := Lib.hid (HL6.out.trans lo)
  have HR7 := Lib.hid (HR6.out.lo lo)
  have HO7 := Lib.hid (HO6.out.lo lo)
  have HA7 := Lib.hid (HA6.out.lo lo)
  have HB7 := Lib.hid (HB6.out.lo lo)
  clear lo HL6 HR6 HO6 HA6 HB6 HD
  go_wp2_with fail
  refine (HN2.out _ _ _ HA7.out HB7.out).mono ?_
  rintro e w8 ⟨rfl, lo⟩
  have HL8 := Lib.hid (HL7.out.trans lo)
  have HR8 := Lib.hid (HR7.out.lo lo)
  have HO8 := Lib.hid (HO7.out.lo lo)
  clear lo HL7 HR7 HO7 HA7 HB7 HN2
  go_wp2_with fail
  refine (HI.out _ _ HR8.out).mono ?_
  rintro e w9 ⟨rfl, lo⟩
  have HL9 := Lib.hid (HL8.out.trans lo)
  have HR9 := Lib.hid (HR8.out.lo lo)
  have HO9 := Lib.hid (HO8.out.lo lo)
  clear lo HL8 HR8 HO8 HI
  go_wp2_with fail
  refine (HI2.out _ _ HO9.out).mono ?_
  rintro e w10 ⟨rfl, lo⟩
  have HL10 := Lib.hid (HL9.out.trans lo)
  have HR10 := Lib.hid (HR9.out.lo lo)
  have HO10 := Lib.hid (HO9.out.lo lo)
  clear lo HL9 HR9 HO9 HI2
  go_wp2_with fail
  refine (HN.out _ _ _ HR10.out HO10.out).mono ?_
  rintro e w11 ⟨rfl, lo⟩
  have HL11 := Lib.hid (HL10.out.trans lo)
  clear lo HL10 HR10 HO10 HN
  go_wp2_with fail
  go_ret
  exact ⟨ret_bool (by simp), HL11.out⟩

theorem infoDoes_walk (a : ByteArray) (pos : Int) (v : Value) (l : List Ino.Pair) (k : Int) (w : World) (_w0 : a.size ≤ maxLen) (w1 : (Lit.int .i64 pos).wf = true) (hr : PRow w v l) (_w3 : (Lit.int .i64 k).wf = true) :
    Calls Try.prog 3 #[.string a, .int .i64 pos, v, .int .i64 k] w fun e w' => e = .returned (.bool true) ∧ Below w.heap.size w w' := by
  have hb : pos ≤ 9223372036854775807 := by
    have h1 : (decide (IntKind.i64.min ≤ pos) && decide (pos ≤ IntKind.i64.max)) = true := w1
    rw [show IntKind.i64.min = -9223372036854775808 by decide, show IntKind.i64.max = 9223372036854775807 by decide] at h1
    simp only [Bool.and_eq_true, decide_eq_true_eq] at h1
    exact h1.2
  by_cases hc : 600 < a.data.toList.length ∨ 300 < l.length
  · obtain ⟨p, c, rfl, _⟩ := RowK.form hr
    exact infoDoes_far a.data.toList pos p l.length c k w hc
  · exact infoDoes_ok a.data.toList pos v l k w hr (by omega) (by omega) hb
end Go.Proofs.Ytjeahgdefdlabaa
