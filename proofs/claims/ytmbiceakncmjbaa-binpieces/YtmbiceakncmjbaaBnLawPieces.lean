/-
  The walk of the law BinPieces: it returns true for all texts and numbers. No conditions.
-/
import Derived.Test.YtmbiceakncmjbaaBnRead
namespace Go.Proofs.Ytmbiceakncmjbaa
open Go.RowKit

set_option maxRecDepth 100000 in
set_option maxHeartbeats 400000 in
theorem binPieces_long (a : ByteArray) (pos n : Int) (w : World) (h : ¬ a.size ≤ 2000) :
    Calls Try.prog 4 #[.string a, .int .i64 pos, .int .i64 n] w fun e w' => e = .returned (.bool true) ∧ Lo w w' := by
  have HF := Lib.hid (fun W => few_any a none none 0 0 0 0 W)
  rw [show (decide (a.size ≤ 2000) && (decide (0 ≤ 300) && decide (0 ≤ 300))) = false by simp [h]] at HF
  clear h
  go_enter Try.func4, Try.ntmps4
  go_wp2_with fail
  refine (HF.out _).mono ?_
  rintro e w1 ⟨rfl, rfl⟩
  go_wp2_with fail
  go_ret
  exact ⟨rfl, Lo.refl _⟩

set_option maxRecDepth 100000 in
set_option maxHeartbeats 4000000 in
theorem binPieces_few (l : List UInt8) (pos n : Int) (w : World) (h : l.length ≤ 2000) (hp : pos ≤ 9223372036854775807) :
    Calls Try.prog 4 #[.string ⟨l.toArray⟩, .int .i64 pos, .int .i64 n] w fun e w' => e = .returned (.bool true) ∧ Lo w w' := by
  have HF := Lib.hid (fun W => few_any ⟨l.toArray⟩ none none 0 0 0 0 W)
  rw [show (decide ((⟨l.toArray⟩ : ByteArray).size ≤ 2000) && (decide (0 ≤ 300) && decide (0 ≤ 300))) = true by have h' : (⟨l.toArray⟩ : ByteArray).size ≤ 2000 := h; simp [h']] at HF
  have HA := Lib.hid (fun W => bpiece_any l pos n W (by omega) hp)
  have HB := Lib.hid (fun W => rpiece_any l pos n W (by omega))
  have HC := Lib.hid (fun W => pad_any l n W (by omega))
  have HD := Lib.hid (fun W => rpad_any l n W (by omega))
  have HS := Lib.hid (fun W => bsum_any l W (by omega))
  have HR := Lib.hid (fun W => rsum_any l W (by omega))
  unfold strErr at HA HB HC HD
  generalize (Bn.piece l pos n).1 = x at *
  generalize (Bn.piece l pos n).2 = e1 at *
  generalize (Bn.pad l n).1 = y at *
  generalize (Bn.pad l n).2 = e2 at *
  generalize Bn.sum l = s at *
  clear hp
  go_enter Try.func4, Try.ntmps4
  go_wp2_with fail
  refine (HF.out _).mono ?_
  rintro e w1 ⟨rfl, rfl⟩
  go_wp2_with fail
  refine (HA.out _).mono ?_
  rintro e w1 ⟨rfl, l1⟩
  have HL1 := Lib.hid l1
  clear l1
  go_wp2_with fail
  refine (HB.out _).mono ?_
  rintro e w2 ⟨rfl, rfl⟩
  go_wp2_with fail
  refine (HC.out _).mono ?_
  rintro e w2 ⟨rfl, l2⟩
  have HL2 := Lib.hid (HL1.out.trans l2)
  clear l2 HL1
  go_wp2_with fail
  refine (HD.out _).mono ?_
  rintro e w3 ⟨rfl, rfl⟩
  go_wp2_with fail
  refine (read_any _).mono ?_
  rintro e w3 ⟨rfl, l3⟩
  have HL3 := Lib.hid (HL2.out.trans l3)
  clear l3 HL2
  go_wp2_with fail
  refine (HS.out _).mono ?_
  rintro e w4 ⟨rfl, rfl⟩
  go_wp2_with fail
  refine (HR.out _).mono ?_
  rintro e w4 ⟨rfl, rfl⟩
  go_wp2_with fail
  go_ret
  exact ⟨ret_bool (by simp), HL3.out⟩

theorem binPieces_walk (a0 : ByteArray) (a1 a2 : Int) (_w0 : a0.size ≤ maxLen) (w1 : (Lit.int .i64 a1).wf = true) (_w2 : (Lit.int .i64 a2).wf = true) (w : World) :
    Calls Try.prog 4 #[.string a0, .int .i64 a1, .int .i64 a2] w fun e w' => e = .returned (.bool true) ∧ Below w.heap.size w w' := by
  by_cases h : a0.size ≤ 2000
  · exact binPieces_few a0.data.toList a1 a2 w h (int_wf w1).2
  · exact binPieces_long a0 a1 a2 w h
end Go.Proofs.Ytmbiceakncmjbaa
