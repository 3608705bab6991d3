/-
  The walk of the law BinDoes: it returns true for all texts, places and rows. No conditions.
-/
import Derived.Test.YtmbiceakncmjbaaBnRead
namespace Go.Proofs.Ytmbiceakncmjbaa
open Go.RowKit

set_option maxRecDepth 100000 in
set_option maxHeartbeats 400000 in
theorem binDoes_many (p q : Option Addr) (n m c d : Nat) (a : ByteArray) (pos : Int) (w : World) (h : (decide (a.size ≤ 2000) && (decide (n ≤ 300) && decide (m ≤ 300))) = false) :
    Calls Try.prog 3 #[.string a, .int .i64 pos, .slice p n c, .slice q m d] w fun e w' => e = .returned (.bool true) ∧ Lo w w' := by
  have HF := Lib.hid (fun W => few_any a p q n m c d W)
  rw [h] at HF
  clear h
  go_enter Try.func3, Try.ntmps3
  go_wp2_with fail
  refine (HF.out _).mono ?_
  rintro e w1 ⟨rfl, rfl⟩
  go_wp2_with fail
  go_ret
  exact ⟨rfl, Lo.refl _⟩

set_option maxRecDepth 100000 in
set_option maxHeartbeats 4000000 in
theorem binDoes_few (p q : Option Addr) (c d : Nat) (l m : List Int) (s : List UInt8) (pos : Int) (w : World) (hr : Row w (.slice p l.length c) l) (hr2 : Row w (.slice q m.length d) m) (h1 : l.length ≤ 300) (h2 : m.length ≤ 300) (h3 : s.length ≤ 2000) (hp : pos ≤ 9223372036854775807) :
    Calls Try.prog 3 #[.string ⟨s.toArray⟩, .int .i64 pos, .slice p l.length c, .slice q m.length d] w fun e w' => e = .returned (.bool true) ∧ Lo w w' := by
  have HF := Lib.hid (fun W => few_any ⟨s.toArray⟩ p q l.length m.length c d W)
  rw [show (decide ((⟨s.toArray⟩ : ByteArray).size ≤ 2000) && (decide (l.length ≤ 300) && decide (m.length ≤ 300))) = true by have h' : (⟨s.toArray⟩ : ByteArray).size ≤ 2000 := h3; simp [h', h1, h2]] at HF
  have HR := Lib.hid hr
  have HR2 := Lib.hid hr2
  have HG := Lib.hid (fun (W : World) (v : Value) (h : Row W v l) => get_any s pos v l W h (by omega) (by omega) hp)
  have HRG := Lib.hid (fun (W : World) (v : Value) (h : Row W v l) => rget_any s pos v l W h (by omega) (by omega))
  have HP := Lib.hid (fun (W : World) (v u : Value) (h : Row W v l) (k : Row W u m) => put_any l m v u W h k (by omega))
  have HRP := Lib.hid (fun (W : World) (v u : Value) (h : Row W v l) (k : Row W u m) => rput_any l m v u W h k (by omega))
  unfold strErr at HP HRP
  unfold GotRow at HG HRG
  generalize (Bn.get s pos l).1 = x at *
  generalize (Bn.get s pos l).2 = e1 at *
  generalize (Bn.put l m).1 = y at *
  generalize (Bn.put l m).2 = e2 at *
  have hw1 : l.length ≤ 100000 := by omega
  have hw2 : m.length ≤ 100000 := by omega
  have HW1 := Lib.hid hw1
  have HW2 := Lib.hid hw2
  clear hr hr2 hp hw1 hw2
  go_enter Try.func3, Try.ntmps3
  go_wp2_with fail
  refine (HF.out _).mono ?_
  rintro e w1 ⟨rfl, rfl⟩
  go_wp2_with fail
  refine (rown_any _ l _ HR.out HW1.out).mono ?_
  rintro e w1 ⟨po, co, rfl, hro, l1⟩
  have HL1 := Lib.hid l1
  have HO1 := Lib.hid hro
  clear l1 hro
  go_wp2_with fail
  refine (rown_any _ m _ (HR2.out.lo HL1.out) HW2.out).mono ?_
  rintro e w2 ⟨pm, cm, rfl, hrm, l2⟩
  have HL2 := Lib.hid (HL1.out.trans l2)
  have HO2 := Lib.hid (HO1.out.lo l2)
  have HM2 := Lib.hid hrm
  clear l2 hrm HL1 HO1
  go_wp2_with fail
  refine (HG.out _ _ (HR.out.lo HL2.out)).mono ?_
  rintro e w3 ⟨pa, ca, rfl, hra, l3⟩
  have HL3 := Lib.hid (HL2.out.trans l3)
  have HO3 := Lib.hid (HO2.out.lo l3)
  have HM3 := Lib.hid (HM2.out.lo l3)
  have HA3 := Lib.hid hra
  clear l3 hra HL2 HO2 HM2
  go_wp2_with fail
  refine (HRG.out _ _ HO3.out).mono ?_
  rintro e w4 ⟨pb, cb, rfl, hrb, l4⟩
  have HL4 := Lib.hid (HL3.out.trans l4)
  have HO4 := Lib.hid (HO3.out.lo l4)
  have HM4 := Lib.hid (HM3.out.lo l4)
  have HA4 := Lib.hid (HA3.out.lo l4)
  have HB4 := Lib.hid hrb
  clear l4 hrb HL3 HO3 HM3 HA3
  go_wp2_with fail
  refine (HP.out _ _ _ (HR.out.lo HL4.out) (HR2.out.lo HL4.out)).mono ?_
  rintro e w5 ⟨rfl, l5⟩
  have HL5 := Lib.hid (HL4.out.trans l5)
  have HO5 := Lib.hid (HO4.out.lo l5)
  have HM5 := Lib.hid (HM4.out.lo l5)
  have HA5 := Lib.hid (HA4.out.lo l5)
  have HB5 := Lib.hid (HB4.out.lo l5)
  clear l5 HL4 HO4 HM4 HA4 HB4
  go_wp2_with fail
  refine (HRP.out _ _ _ HO5.out HM5.out).mono ?_
  rintro e w6 ⟨rfl, l6⟩
  have HL6 := Lib.hid (HL5.out.trans l6)
  have HO6 := Lib.hid (HO5.out.lo l6)
  have HM6 := Lib.hid (HM5.out.lo l6)
  have HA6 := Lib.hid (HA5.out.lo l6)
  have HB6 := Lib.hid (HB5.out.lo l6)
  clear l6 HL5 HO5 HM5 HA5 HB5
  go_wp2_with fail
  refine (read_any _).mono ?_
  rintro e w7 ⟨rfl, l7⟩
  have HL7 := Lib.hid (HL6.out.trans l7)
  have HO7 := Lib.hid (HO6.out.lo l7)
  have HM7 := Lib.hid (HM6.out.lo l7)
  have HA7 := Lib.hid (HA6.out.lo l7)
  have HB7 := Lib.hid (HB6.out.lo l7)
  clear l7 HL6 HO6 HM6 HA6 HB6
  go_wp2_with fail
  refine (rints_any _ _ x x _ HA7.out HB7.out).mono ?_
  rw [show decide (x = x) = true by simp]
  rintro e w8 ⟨rfl, l8⟩
  have HL8 := Lib.hid (HL7.out.trans l8)
  have HO8 := Lib.hid (HO7.out.lo l8)
  have HM8 := Lib.hid (HM7.out.lo l8)
  clear l8 HL7 HO7 HM7 HA7 HB7
  go_wp2_with fail
  refine (rints_any _ _ l l _ HO8.out (HR.out.lo HL8.out)).mono ?_
  rw [show decide (l = l) = true by simp]
  rintro e w9 ⟨rfl, l9⟩
  have HL9 := Lib.hid (HL8.out.trans l9)
  have HM9 := Lib.hid (HM8.out.lo l9)
  clear l9 HL8 HO8 HM8
  go_wp2_with fail
  refine (rints_any _ _ m m _ HM9.out (HR2.out.lo HL9.out)).mono ?_
  rw [show decide (m = m) = true by simp]
  rintro e w10 ⟨rfl, l10⟩
  have HL10 := Lib.hid (HL9.out.trans l10)
  clear l10 HL9 HM9
  go_wp2_with fail
  go_ret
  exact ⟨rfl, HL10.out⟩

theorem binDoes_walk (a0 : ByteArray) (a1 : Int) (a2 : Option Addr) (len2 cap2 : Nat) (z2 : List Int) (a3 : Option Addr) (len3 cap3 : Nat) (z3 : List Int) (w : World) (_w0 : a0.size ≤ maxLen) (w1 : (Lit.int .i64 a1).wf = true) (w2 : IsRow .i64 w a2 len2 cap2 z2) (w3 : IsRow .i64 w a3 len3 cap3 z3) :
    Calls Try.prog 3 #[.string a0, .int .i64 a1, .slice a2 len2 cap2, .slice a3 len3 cap3] w fun e w' => e = .returned (.bool true) ∧ Below w.heap.size w w' := by
  obtain ⟨l, rfl, hr⟩ := w2.row
  obtain ⟨m, rfl, hr2⟩ := w3.row
  cases hf : (decide (a0.size ≤ 2000) && (decide (l.length ≤ 300) && decide (m.length ≤ 300))) with
  | false => exact binDoes_many a2 a3 _ _ cap2 cap3 a0 a1 w hf
  | true =>
    simp only [Bool.and_eq_true, decide_eq_true_eq] at hf
    exact binDoes_few a2 a3 cap2 cap3 l m a0.data.toList a1 w hr hr2 hf.2.1 hf.2.2 hf.1 (int_wf w1).2
end Go.Proofs.Ytmbiceakncmjbaa
