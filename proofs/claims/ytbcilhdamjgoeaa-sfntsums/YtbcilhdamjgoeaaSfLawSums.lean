/-
  The walk of the law SfntSums: it returns true for all texts. No conditions.
-/
import Derived.Test.YtbcilhdamjgoeaaSfFiled
namespace Go.Proofs.Ytbcilhdamjgoeaa
open Go.RowKit

set_option maxRecDepth 100000 in
set_option maxHeartbeats 800000 in
theorem sfntSums_long (a b : ByteArray) (w : World) (h : ¬ a.size ≤ 4000) :
    Calls Try.prog 6 #[.string a, .string b] w fun e w' => e = .returned (.bool true) ∧ Lo w w' := by
  go_enter Try.func6, Try.ntmps6
  go_wp2_with fail
  go_ret
  exact ⟨rfl, Lo.refl _⟩
set_option maxRecDepth 100000 in
set_option maxHeartbeats 800000 in
theorem sfntSums_long2 (a b : ByteArray) (w : World) (h : a.size ≤ 4000) (h2 : ¬ b.size ≤ 20) :
    Calls Try.prog 6 #[.string a, .string b] w fun e w' => e = .returned (.bool true) ∧ Lo w w' := by
  go_enter Try.func6, Try.ntmps6
  go_wp2_with fail
  go_ret
  exact ⟨rfl, Lo.refl _⟩
set_option maxRecDepth 100000 in
set_option maxHeartbeats 1600000 in
theorem sfntSums_plain (d t : List UInt8) (w : World) (h : d.length ≤ 4000) (h2 : t.length ≤ 20) (hc : t ≠ Sf.headTag ∨ d.length < 12) :
    Calls Try.prog 6 #[.string ⟨d.toArray⟩, .string ⟨t.toArray⟩] w fun e w' => e = .returned (.bool true) ∧ Lo w w' := by
  have HS := Lib.hid (fun W => tsum_any (t, d) W (by simp only; omega))
  rw [Sf.tsum_plain hc] at HS
  have HB := Lib.hid (fun W => bsum_any d W (by omega))
  unfold aggT at HS
  simp only at HS
  generalize Bn.sum d = sm at *
  by_cases ht : t = Sf.headTag
  · have hd : d.length < 12 := by rcases hc with h | h; exact absurd ht h; exact h
    have heq : (t == [104, 101, 97, 100]) = true := by simpa [Sf.headTag] using ht
    clear ht hc
    go_enter Try.func6, Try.ntmps6
    go_wp2_with fail
    refine (HS.out _).mono ?_
    rintro e w1 ⟨rfl, lo⟩
    have HL := Lib.hid lo
    clear lo
    go_wp2_with fail
    refine (filed_any _).mono ?_
    rintro e w2 ⟨rfl, lo⟩
    have HL2 := Lib.hid (HL.out.trans lo)
    clear lo HL
    go_wp2_with fail
    refine (HB.out _).mono ?_
    rintro e w3 ⟨rfl, rfl⟩
    go_wp2_with fail
    go_ret
    exact ⟨ret_bool (by simp), HL2.out⟩
  · have heq : (t == [104, 101, 97, 100]) = false := by simpa [Sf.headTag] using ht
    clear ht hc
    go_enter Try.func6, Try.ntmps6
    go_wp2_with fail
    refine (HS.out _).mono ?_
    rintro e w1 ⟨rfl, lo⟩
    have HL := Lib.hid lo
    clear lo
    go_wp2_with fail
    refine (filed_any _).mono ?_
    rintro e w2 ⟨rfl, lo⟩
    have HL2 := Lib.hid (HL.out.trans lo)
    clear lo HL
    go_wp2_with fail
    refine (HB.out _).mono ?_
    rintro e w3 ⟨rfl, rfl⟩
    go_wp2_with fail
    go_ret
    exact ⟨ret_bool (by simp), HL2.out⟩
set_option maxRecDepth 100000 in
set_option maxHeartbeats 1600000 in
theorem sfntSums_head (d : List UInt8) (w : World) (h : d.length ≤ 4000) (hd : 12 ≤ d.length) :
    Calls Try.prog 6 #[.string ⟨d.toArray⟩, .string ⟨Sf.headTag.toArray⟩] w fun e w' => e = .returned (.bool true) ∧ Lo w w' := by
  have HS := Lib.hid (fun W => tsum_any (Sf.headTag, d) W (by simp only; omega))
  have HS2 := Lib.hid (fun W => tsum_any ([116, 97, 105, 108], (d.drop 8).take 4) W (by simp; omega))
  rw [Sf.tsum_plain (t := [116, 97, 105, 108]) (.inl (by decide))] at HS2
  have HB := Lib.hid (fun W => bsum_any d W (by omega))
  have hsum := Sf.tsum_head hd
  have h1 := Sf.tsum_lt (Sf.headTag, d)
  have h2 := Bn.sum_lt ((d.drop 8).take 4)
  unfold aggT at HS HS2
  unfold Sf.headTag at *
  simp only at HS HS2
  have hx : (⟨d.toArray⟩ : ByteArray).extract 8 12 = ⟨((d.drop 8).take 4).toArray⟩ := by rw [Gk.extract_list]
  generalize (d.drop 8).take 4 = d4 at *
  generalize Sf.tsum ([104, 101, 97, 100], d) = s1 at *
  generalize Bn.sum d4 = s2 at *
  generalize Bn.sum d = s3 at *
  have HE : Hid (((s1 : Int) + (s2 : Int)) % 4294967296 = (s3 : Int)) := Lib.hid (by omega)
  clear hsum
  go_enter Try.func6, Try.ntmps6
  go_wp2_with fail
  refine (HS.out _).mono ?_
  rintro e w1 ⟨rfl, lo⟩
  have HL := Lib.hid lo
  clear lo
  go_wp2_with fail
  refine (HS2.out _).mono ?_
  rintro e w2 ⟨rfl, lo⟩
  have HL2 := Lib.hid (HL.out.trans lo)
  clear lo HL
  go_wp2_with fail
  refine (filed_any _).mono ?_
  rintro e w3 ⟨rfl, lo⟩
  have HL3 := Lib.hid (HL2.out.trans lo)
  clear lo HL2
  go_wp2_with fail
  refine (HB.out _).mono ?_
  rintro e w4 ⟨rfl, rfl⟩
  go_wp2_with fail
  go_ret
  exact ⟨ret_bool (by have := HE.out; simp; omega), HL3.out⟩

theorem sfntSums_walk (a0 a1 : ByteArray) (_w0 : a0.size ≤ maxLen) (_w1 : a1.size ≤ maxLen) (w : World) :
    Calls Try.prog 6 #[.string a0, .string a1] w fun e w' => e = .returned (.bool true) ∧ Below w.heap.size w w' := by
  by_cases h : a0.size ≤ 4000
  · by_cases h2 : a1.size ≤ 20
    · by_cases hc : a1.data.toList = Sf.headTag ∧ 12 ≤ a0.data.toList.length
      · have := sfntSums_head a0.data.toList w h hc.2
        rw [← hc.1] at this
        exact this
      · exact sfntSums_plain a0.data.toList a1.data.toList w h h2 (by
          by_cases e : a1.data.toList = Sf.headTag
          · exact .inr (by have : ¬ 12 ≤ a0.data.toList.length := fun h => hc ⟨e, h⟩; omega)
          · exact .inl e)
    · exact sfntSums_long2 a0 a1 w h h2
  · exact sfntSums_long a0 a1 w h
end Go.Proofs.Ytbcilhdamjgoeaa
