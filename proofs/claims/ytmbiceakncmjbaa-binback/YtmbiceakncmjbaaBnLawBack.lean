/-
  The walk of the law BinBack: it returns true for all rows and texts. No conditions.
-/
import Derived.Test.YtmbiceakncmjbaaBnRead
namespace Go.Proofs.Ytmbiceakncmjbaa
open Go.RowKit

set_option maxRecDepth 100000 in
set_option maxHeartbeats 400000 in
theorem binBack_many (p q : Option Addr) (n m c d : Nat) (a b : ByteArray) (w : World) (h : (decide (a.size ≤ 2000) && (decide (n ≤ 300) && decide (m ≤ 300))) = false) :
    Calls Try.prog 5 #[.slice p n c, .slice q m d, .string a, .string b] w fun e w' => e = .returned (.bool true) ∧ Lo w w' := by
  have HF := Lib.hid (fun W => few_any a p q n m c d W)
  rw [h] at HF
  clear h
  go_enter Try.func5, Try.ntmps5
  go_wp2_with fail
  refine (HF.out _).mono ?_
  rintro e w1 ⟨rfl, rfl⟩
  go_wp2_with fail
  go_ret
  exact ⟨rfl, Lo.refl _⟩

set_option maxRecDepth 100000 in
set_option maxHeartbeats 400000 in
theorem binBack_long (p q : Option Addr) (n m c d : Nat) (a b : ByteArray) (w : World) (h : (decide (a.size ≤ 2000) && (decide (n ≤ 300) && decide (m ≤ 300))) = true) (hb : ¬ b.size ≤ 2000) :
    Calls Try.prog 5 #[.slice p n c, .slice q m d, .string a, .string b] w fun e w' => e = .returned (.bool true) ∧ Lo w w' := by
  have HF := Lib.hid (fun W => few_any a p q n m c d W)
  rw [h] at HF
  clear h
  go_enter Try.func5, Try.ntmps5
  go_wp2_with fail
  refine (HF.out _).mono ?_
  rintro e w1 ⟨rfl, rfl⟩
  go_wp2_with fail
  go_ret
  exact ⟨rfl, Lo.refl _⟩

set_option maxRecDepth 100000 in
set_option maxHeartbeats 4000000 in
theorem binBack_no (p q : Option Addr) (c d : Nat) (l m : List Int) (front back : List UInt8) (w : World) (hr : Row w (.slice p l.length c) l) (hr2 : Row w (.slice q m.length d) m) (h1 : l.length ≤ 300) (h2 : m.length ≤ 300) (h3 : front.length ≤ 2000) (h4 : back.length ≤ 2000) (hno : (Bn.put l m).2 ≠ 0) :
    Calls Try.prog 5 #[.slice p l.length c, .slice q m.length d, .string ⟨front.toArray⟩, .string ⟨back.toArray⟩] w fun e w' => e = .returned (.bool true) ∧ Lo w w' := by
  have HF := Lib.hid (fun W => few_any ⟨front.toArray⟩ p q l.length m.length c d W)
  rw [show (decide ((⟨front.toArray⟩ : ByteArray).size ≤ 2000) && (decide (l.length ≤ 300) && decide (m.length ≤ 300))) = true by have h' : (⟨front.toArray⟩ : ByteArray).size ≤ 2000 := h3; simp [h', h1, h2]] at HF
  have HP := Lib.hid (put_any l m _ _ w hr hr2 (by omega))
  unfold strErr at HP
  rw [Bn.put_refused l m hno] at HP
  have hb : ((Bn.put l m).2 == 0) = false := by simpa using hno
  generalize (Bn.put l m).2 = k at *
  clear hno hr hr2
  go_enter Try.func5, Try.ntmps5
  go_wp2_with fail
  refine (HF.out _).mono ?_
  rintro e w1 ⟨rfl, rfl⟩
  go_wp2_with fail
  refine HP.out.mono ?_
  rintro e w1 ⟨rfl, l1⟩
  have HL1 := Lib.hid l1
  clear l1 HP
  go_wp2_with fail
  refine (read_any _).mono ?_
  rintro e w2 ⟨rfl, l2⟩
  have HL2 := Lib.hid (HL1.out.trans l2)
  clear l2 HL1
  go_wp2_with fail
  go_ret
  exact ⟨rfl, HL2.out⟩

set_option maxRecDepth 100000 in
set_option maxHeartbeats 4000000 in
theorem binBack_yes (p q : Option Addr) (c d : Nat) (l m : List Int) (front back : List UInt8) (w : World) (hr : Row w (.slice p l.length c) l) (hr2 : Row w (.slice q m.length d) m) (h1 : l.length ≤ 300) (h2 : m.length ≤ 300) (h3 : front.length ≤ 2000) (h4 : back.length ≤ 2000) (hyes : (Bn.put l m).2 = 0) :
    Calls Try.prog 5 #[.slice p l.length c, .slice q m.length d, .string ⟨front.toArray⟩, .string ⟨back.toArray⟩] w fun e w' => e = .returned (.bool true) ∧ Lo w w' := by
  have HF := Lib.hid (fun W => few_any ⟨front.toArray⟩ p q l.length m.length c d W)
  rw [show (decide ((⟨front.toArray⟩ : ByteArray).size ≤ 2000) && (decide (l.length ≤ 300) && decide (m.length ≤ 300))) = true by have h' : (⟨front.toArray⟩ : ByteArray).size ≤ 2000 := h3; simp [h', h1, h2]] at HF
  have HP := Lib.hid (put_any l m _ _ w hr hr2 (by omega))
  have hlen : (Bn.put l m).1.length ≤ 4 * l.length := by
    unfold Bn.put
    by_cases c1 : Bn.allSizes l = false ∨ l.length ≠ m.length
    · rw [if_pos c1]; simp
    · rw [if_neg c1]
      by_cases c2 : Bn.allFit l m = false
      · rw [if_pos c2]; simp
      · rw [if_neg c2]
        exact Bn.join_len_le l m (by cases e : Bn.allSizes l with | true => rfl | false => exact absurd (.inl e) c1)
  have HG := Lib.hid (fun (W : World) (lo : Lo w W) => get_any (front ++ (Bn.put l m).1 ++ back) front.length _ l W (hr.lo lo) (by omega) (by simp; omega) (by omega))
  rw [Bn.put_get l m front back hyes] at HG
  unfold strErr at HP
  rw [hyes] at HP
  have hcat1 : (⟨front.toArray⟩ : ByteArray) ++ ⟨(Bn.put l m).1.toArray⟩ = ⟨(front ++ (Bn.put l m).1).toArray⟩ := Gk.cat_list _ _
  have hcat2 : (⟨(front ++ (Bn.put l m).1).toArray⟩ : ByteArray) ++ ⟨back.toArray⟩ = ⟨(front ++ (Bn.put l m).1 ++ back).toArray⟩ := Gk.cat_list _ _
  have hl1 : (front ++ (Bn.put l m).1).length ≤ 4000 := by simp; omega
  have HR2 := Lib.hid hr2
  generalize front ++ (Bn.put l m).1 ++ back = whole at *
  generalize front ++ (Bn.put l m).1 = ahead at *
  generalize (Bn.put l m).1 = s at *
  clear hyes hr hr2
  go_enter Try.func5, Try.ntmps5
  go_wp2_with fail
  refine (HF.out _).mono ?_
  rintro e w1 ⟨rfl, rfl⟩
  go_wp2_with fail
  refine HP.out.mono ?_
  rintro e w1 ⟨rfl, l1⟩
  have HL1 := Lib.hid l1
  clear l1 HP
  go_wp2_with fail
  refine (HG.out _ HL1.out).mono ?_
  rintro e w2 ⟨p2, c2, rfl, hrow, l2⟩
  have HL2 := Lib.hid (HL1.out.trans l2)
  have HRW := Lib.hid hrow
  clear l2 hrow HL1 HG
  go_wp2_with fail
  refine (read_any _).mono ?_
  rintro e w3 ⟨rfl, l3⟩
  have HL3 := Lib.hid (HL2.out.trans l3)
  have HRW3 := Lib.hid (HRW.out.lo l3)
  clear l3 HL2 HRW
  go_wp2_with fail
  refine (rints_any _ _ m m _ HRW3.out (HR2.out.lo HL3.out)).mono ?_
  rw [show decide (m = m) = true by simp]
  rintro e w4 ⟨rfl, l4⟩
  have HL4 := Lib.hid (HL3.out.trans l4)
  clear l4
  go_wp2_with fail
  go_ret
  exact ⟨rfl, HL4.out⟩

theorem binBack_walk (a0 : Option Addr) (len0 cap0 : Nat) (z0 : List Int) (a1 : Option Addr) (len1 cap1 : Nat) (z1 : List Int) (a2 a3 : ByteArray) (w : World) (w0 : IsRow .i64 w a0 len0 cap0 z0) (w1 : IsRow .i64 w a1 len1 cap1 z1) (_w2 : a2.size ≤ maxLen) (_w3 : a3.size ≤ maxLen) :
    Calls Try.prog 5 #[.slice a0 len0 cap0, .slice a1 len1 cap1, .string a2, .string a3] w fun e w' => e = .returned (.bool true) ∧ Below w.heap.size w w' := by
  obtain ⟨l, rfl, hr⟩ := w0.row
  obtain ⟨m, rfl, hr2⟩ := w1.row
  cases hf : (decide (a2.size ≤ 2000) && (decide (l.length ≤ 300) && decide (m.length ≤ 300))) with
  | false => exact binBack_many a0 a1 _ _ cap0 cap1 a2 a3 w hf
  | true =>
    by_cases hb : a3.size ≤ 2000
    · simp only [Bool.and_eq_true, decide_eq_true_eq] at hf
      by_cases hy : (Bn.put l m).2 = 0
      · exact binBack_yes a0 a1 cap0 cap1 l m a2.data.toList a3.data.toList w hr hr2 hf.2.1 hf.2.2 hf.1 hb hy
      · exact binBack_no a0 a1 cap0 cap1 l m a2.data.toList a3.data.toList w hr hr2 hf.2.1 hf.2.2 hf.1 hb hy
    · exact binBack_long a0 a1 _ _ cap0 cap1 a2 a3 w hf hb
end Go.Proofs.Ytmbiceakncmjbaa
