/-
  The walk of the law BinSums: it returns true for all texts. No conditions.
-/
import Derived.Test.YtmbiceakncmjbaaBnRead
namespace Go.Proofs.Ytmbiceakncmjbaa
open Go.RowKit

set_option maxRecDepth 100000 in
set_option maxHeartbeats 400000 in
theorem binSums_long (a b : ByteArray) (w : World) (h : ¬ a.size ≤ 2000) :
    Calls Try.prog 7 #[.string a, .string b] w fun e w' => e = .returned (.bool true) ∧ Lo w w' := by
  have HF := Lib.hid (fun W => few_any a none none 0 0 0 0 W)
  rw [show (decide (a.size ≤ 2000) && (decide (0 ≤ 300) && decide (0 ≤ 300))) = false by simp [h]] at HF
  clear h
  go_enter Try.func7, Try.ntmps7
  go_wp2_with fail
  refine (HF.out _).mono ?_
  rintro e w1 ⟨rfl, rfl⟩
  go_wp2_with fail
  go_ret
  exact ⟨rfl, Lo.refl _⟩

set_option maxRecDepth 100000 in
set_option maxHeartbeats 400000 in
theorem binSums_long2 (a b : ByteArray) (w : World) (h : a.size ≤ 2000) (h2 : ¬ b.size ≤ 2000) :
    Calls Try.prog 7 #[.string a, .string b] w fun e w' => e = .returned (.bool true) ∧ Lo w w' := by
  have HF := Lib.hid (fun W => few_any a none none 0 0 0 0 W)
  rw [show (decide (a.size ≤ 2000) && (decide (0 ≤ 300) && decide (0 ≤ 300))) = true by simp [h]] at HF
  have HF2 := Lib.hid (fun W => few_any b none none 0 0 0 0 W)
  rw [show (decide (b.size ≤ 2000) && (decide (0 ≤ 300) && decide (0 ≤ 300))) = false by simp [h2]] at HF2
  clear h h2
  go_enter Try.func7, Try.ntmps7
  go_wp2_with fail
  refine (HF.out _).mono ?_
  rintro e w1 ⟨rfl, rfl⟩
  go_wp2_with fail
  refine (HF2.out _).mono ?_
  rintro e w1 ⟨rfl, rfl⟩
  go_wp2_with fail
  go_ret
  exact ⟨rfl, Lo.refl _⟩

set_option maxRecDepth 100000 in
set_option maxHeartbeats 4000000 in
theorem binSums_few (l t : List UInt8) (w : World) (h : l.length ≤ 2000) (h2 : t.length ≤ 2000) :
    Calls Try.prog 7 #[.string ⟨l.toArray⟩, .string ⟨t.toArray⟩] w fun e w' => e = .returned (.bool true) ∧ Lo w w' := by
  have HF := Lib.hid (fun W => few_any ⟨l.toArray⟩ none none 0 0 0 0 W)
  rw [show (decide ((⟨l.toArray⟩ : ByteArray).size ≤ 2000) && (decide (0 ≤ 300) && decide (0 ≤ 300))) = true by have h' : (⟨l.toArray⟩ : ByteArray).size ≤ 2000 := h; simp [h']] at HF
  have HF2 := Lib.hid (fun W => few_any ⟨t.toArray⟩ none none 0 0 0 0 W)
  rw [show (decide ((⟨t.toArray⟩ : ByteArray).size ≤ 2000) && (decide (0 ≤ 300) && decide (0 ≤ 300))) = true by have h' : (⟨t.toArray⟩ : ByteArray).size ≤ 2000 := h2; simp [h']] at HF2
  have HP4 := Lib.hid (fun W => pad_any l 4 W (by omega))
  have HP2 := Lib.hid (fun W => pad_any l 2 W (by omega))
  rw [show Bn.pad l 4 = (Bn.up l 4, 0) from rfl] at HP4
  rw [show Bn.pad l 2 = (Bn.up l 2, 0) from rfl] at HP2
  have hu4 : (Bn.up l 4).length = l.length + (4 - l.length % 4) % 4 := Bn.up_len l 4
  have hu2 : (Bn.up l 2).length = l.length + (2 - l.length % 2) % 2 := Bn.up_len l 2
  have hm := Bn.up_mod l 4 (by omega)
  have hx : (⟨(Bn.up l 4).toArray⟩ : ByteArray).extract 0 l.length = ⟨l.toArray⟩ := by
    rw [Gk.extract_list, List.drop_zero, Nat.sub_zero]
    congr 2
    unfold Bn.up
    rw [List.take_left]
  have HS := Lib.hid (fun W => bsum_any l W (by omega))
  have HS4 := Lib.hid (fun W => bsum_any (Bn.up l 4) W (by omega))
  rw [Bn.sum_pad4] at HS4
  have HS2 := Lib.hid (fun W => bsum_any (Bn.up l 2) W (by omega))
  rw [Bn.sum_pad2] at HS2
  have HS0 := Lib.hid (fun W => bsum_any (0 :: 0 :: 0 :: 0 :: l) W (by simp; omega))
  rw [Bn.sum_zeros] at HS0
  have HSt := Lib.hid (fun W => bsum_any t W (by omega))
  have HSb := Lib.hid (fun W => bsum_any (Bn.up l 4 ++ t) W (by simp; omega))
  rw [Bn.sum_both] at HSb
  have hc0 : (⟨#[0, 0, 0, 0]⟩ : ByteArray) ++ ⟨l.toArray⟩ = ⟨(0 :: 0 :: 0 :: 0 :: l).toArray⟩ := Gk.cat_list [0, 0, 0, 0] l
  have hcb : (⟨(Bn.up l 4).toArray⟩ : ByteArray) ++ ⟨t.toArray⟩ = ⟨(Bn.up l 4 ++ t).toArray⟩ := Gk.cat_list _ _
  have hul : (Bn.up l 4).length ≤ 2003 := by omega
  have hge : l.length ≤ (Bn.up l 4).length := by omega
  have hdi : ((Bn.up l 4).length : Int) - (l.length : Int) ≤ 3 := by omega
  have hmod : ((Bn.up l 4).length : Int) % 4 = 0 := by omega
  have hn := Bn.sum_lt l
  have hn2 := Bn.sum_lt t
  generalize Bn.up l 4 ++ t = lt at *
  generalize (0 :: 0 :: 0 :: 0 :: l : List UInt8) = l0 at *
  generalize Bn.up l 4 = u at *
  generalize Bn.up l 2 = u2 at *
  generalize Bn.sum l = n at *
  generalize Bn.sum t = m at *
  have hfin : (((n + m) % 4294967296 : Nat) : Int) = ((n : Int) + (m : Int)) % 4294967296 := by omega
  rw [hfin] at HSb
  clear hu4 hu2 hm hfin
  go_enter Try.func7, Try.ntmps7
  go_wp2_with fail
  refine (HF.out _).mono ?_
  rintro e w1 ⟨rfl, rfl⟩
  go_wp2_with fail
  refine (HF2.out _).mono ?_
  rintro e w1 ⟨rfl, rfl⟩
  go_wp2_with fail
  refine (HP4.out _).mono ?_
  rintro e w1 ⟨rfl, l1⟩
  have HL1 := Lib.hid l1
  clear l1
  unfold strErr
  go_wp2_with fail
  refine (HP2.out _).mono ?_
  rintro e w2 ⟨rfl, l2⟩
  have HL2 := Lib.hid (HL1.out.trans l2)
  clear l2 HL1
  unfold strErr
  go_wp2_with fail
  refine (HS.out _).mono ?_
  rintro e w3 ⟨rfl, rfl⟩
  go_wp2_with fail
  refine (read_any _).mono ?_
  rintro e w3 ⟨rfl, l3⟩
  have HL3 := Lib.hid (HL2.out.trans l3)
  clear l3 HL2
  go_wp2_with fail
  refine (HS4.out _).mono ?_
  rintro e w4 ⟨rfl, rfl⟩
  go_wp2_with fail
  refine (HS2.out _).mono ?_
  rintro e w4 ⟨rfl, rfl⟩
  go_wp2_with fail
  refine (HS0.out _).mono ?_
  rintro e w4 ⟨rfl, rfl⟩
  go_wp2_with fail
  refine (HSb.out _).mono ?_
  rintro e w4 ⟨rfl, rfl⟩
  go_wp2_with fail
  refine (HSt.out _).mono ?_
  rintro e w4 ⟨rfl, rfl⟩
  go_wp2_with fail
  go_ret
  exact ⟨ret_bool (by simp), HL3.out⟩

theorem binSums_walk (a0 a1 : ByteArray) (_w0 : a0.size ≤ maxLen) (_w1 : a1.size ≤ maxLen) (w : World) :
    Calls Try.prog 7 #[.string a0, .string a1] w fun e w' => e = .returned (.bool true) ∧ Below w.heap.size w w' := by
  by_cases h : a0.size ≤ 2000
  · by_cases h2 : a1.size ≤ 2000
    · exact binSums_few a0.data.toList a1.data.toList w h h2
    · exact binSums_long2 a0 a1 w h h2
  · exact binSums_long a0 a1 w h
end Go.Proofs.Ytmbiceakncmjbaa
