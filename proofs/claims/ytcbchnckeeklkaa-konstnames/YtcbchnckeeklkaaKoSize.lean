/-
  The contracts of konst.fits, konst.sizer and what it answers. No conditions beyond those stated.
-/
import Derived.Test.YtcbchnckeeklkaaKoFacts
import Derived.Test.YtcbchnckeeklkaaGkZeros
import Derived.Test.YtcbchnckeeklkaaBnGet2
import Derived.Laws.EntriesVeiled
namespace Go.Proofs.Ytcbchnckeeklkaa
open Go.RowKit

set_option maxHeartbeats 400000 in
theorem kfits_two (n : Int) (w : World) : Calls Try.prog 30 #[.int .i64 n, .int .i64 2] w fun e w' => e = .returned (.bool (decide (0 ≤ n) && decide (n ≤ 65535))) ∧ w = w' := by
  by_cases h1 : 0 ≤ n
  · go_enter Try.func30, Try.ntmps30
    go_wp2_with fail
    go_ret
    exact ⟨ret_bool (by simp [h1]), rfl⟩
  · go_enter Try.func30, Try.ntmps30
    go_wp2_with fail
    go_ret
    exact ⟨ret_bool (by simp; omega), rfl⟩
set_option maxHeartbeats 400000 in
theorem kfits_neg (n : Int) (w : World) : Calls Try.prog 30 #[.int .i64 n, .int .i64 (-2)] w fun e w' => e = .returned (.bool (decide (-32768 ≤ n) && decide (n ≤ 32767))) ∧ w = w' := by
  by_cases h1 : -32768 ≤ n
  · go_enter Try.func30, Try.ntmps30
    go_wp2_with fail
    go_ret
    exact ⟨ret_bool (by simp [h1]), rfl⟩
  · go_enter Try.func30, Try.ntmps30
    go_wp2_with fail
    go_ret
    exact ⟨ret_bool (by simp; omega), rfl⟩
/-- konst.fits, at a constant's size. -/
theorem kfits_any (n : Int) (k : Nat) (w : World) : Calls Try.prog 30 #[.int .i64 n, .int .i64 (Ko.size k)] w fun e w' => e = .returned (.bool (Bn.fits n (Ko.size k))) ∧ w = w' := by
  unfold Ko.size
  by_cases h : k = 2 ∨ k = 3
  · rw [if_pos h]
    refine (kfits_two n w).mono ?_
    rintro e w1 ⟨rfl, rfl⟩
    refine ⟨ret_bool ?_, rfl⟩
    unfold Bn.fits
    rw [if_neg (by omega), show (256 ^ (2 : Int).natAbs : Nat) = 65536 from rfl]
    congr 1
    exact decide_eq_decide.2 ⟨fun h => by omega, fun h => by omega⟩
  · rw [if_neg h]
    refine (kfits_neg n w).mono ?_
    rintro e w1 ⟨rfl, rfl⟩
    refine ⟨ret_bool ?_, rfl⟩
    unfold Bn.fits
    rw [if_pos (by omega), show (256 ^ (-2 : Int).natAbs / 2 : Nat) = 32768 from rfl]
    congr 1
    exact decide_eq_decide.2 ⟨fun h => by omega, fun h => by omega⟩

/-- The lists of sizes, and the boxes that hold them, from block B on. -/
def SzAt (W : World) (B : Nat) : Prop :=
  W.heap[B]? = some (.cells #[.int .i64 2] 3 (0, 0)) ∧ W.heap[B + 1]? = some (.cells #[.int .i64 (-2)] 3 (0, 0)) ∧ W.heap[B + 2]? = some (.cells #[.int .i64 (-2), .int .i64 2] 3 (0, 0)) ∧
  W.cell? ⟨B + 3, 0, none⟩ = some (.slice (some ⟨B, 0, none⟩) 1 1) ∧ W.cell? ⟨B + 4, 0, none⟩ = some (.slice (some ⟨B + 1, 0, none⟩) 1 1) ∧ W.cell? ⟨B + 5, 0, none⟩ = some (.slice (some ⟨B + 2, 0, none⟩) 2 2) ∧ B + 6 ≤ W.heap.size
theorem SzAt.lo {W W' : World} {B : Nat} (h : SzAt W B) (k : Lo W W') : SzAt W' B := by
  obtain ⟨h0, h1, h2, h3, h4, h5, h6⟩ := h
  exact ⟨lo_block k h0, lo_block k h1, lo_block k h2, (k.cell (by omega)).trans h3, (k.cell (by omega)).trans h4, (k.cell (by omega)).trans h5, Nat.le_trans h6 k.size⟩
/-- Where a constant's list of sizes lies. -/
def szB (B k : Nat) : Nat := if k = 2 ∨ k = 3 then B else if 4 ≤ k ∧ k ≤ 54 then B + 2 else B + 1
theorem SzAt.row {W : World} {B : Nat} (h : SzAt W B) (k : Nat) : Row W (.slice (some ⟨szB B k, 0, none⟩) (Ko.szK k).length (Ko.szK k).length) (Ko.szK k) := by
  obtain ⟨h0, h1, h2, _, _, _, h6⟩ := h
  unfold szB Ko.szK
  by_cases c1 : k = 2 ∨ k = 3
  · rw [if_pos c1, if_pos c1]
    refine .inr ⟨B, 0, 1, rfl, by simp, by simp, by omega, fun i hi => ?_⟩
    obtain rfl : i = 0 := by simp at hi; omega
    exact block_cell h0 rfl
  · rw [if_neg c1, if_neg c1]
    by_cases c2 : 4 ≤ k ∧ k ≤ 54
    · rw [if_pos c2, if_pos c2]
      refine .inr ⟨B + 2, 0, 2, rfl, by simp, by simp, by omega, fun i hi => ?_⟩
      obtain rfl | rfl : i = 0 ∨ i = 1 := by simp at hi; omega
      · exact block_cell h2 rfl
      · exact block_cell h2 rfl
    · rw [if_neg c2, if_neg c2]
      refine .inr ⟨B + 1, 0, 1, rfl, by simp, by simp, by omega, fun i hi => ?_⟩
      obtain rfl : i = 0 := by simp at hi; omega
      exact block_cell h1 rfl
theorem SzAt.first {W : World} {B : Nat} (h : SzAt W B) (k : Nat) : W.cell? ⟨szB B k, 0, none⟩ = some (.int .i64 (Ko.size k)) := by
  obtain ⟨h0, h1, h2, _, _, _, h6⟩ := h
  unfold szB Ko.size
  by_cases c1 : k = 2 ∨ k = 3
  · rw [if_pos c1, if_pos c1]; exact block_cell h0 rfl
  · rw [if_neg c1, if_neg c1]
    by_cases c2 : 4 ≤ k ∧ k ≤ 54
    · rw [if_pos c2]; exact block_cell h2 rfl
    · rw [if_neg c2]; exact block_cell h1 rfl

set_option maxHeartbeats 800000 in
/-- What konst.sizer answers, called. -/
theorem sizer1_any (k B : Nat) (w : World) (h : SzAt w B) : Calls Try.prog 39 #[.int .i64 (k : Int), .pointer (some ⟨B + 3, 0, none⟩), .pointer (some ⟨B + 5, 0, none⟩), .pointer (some ⟨B + 4, 0, none⟩)] w fun e w' =>
    e = .returned (.slice (some ⟨szB B k, 0, none⟩) (Ko.szK k).length (Ko.szK k).length) ∧ w = w' := by
  obtain ⟨_, _, _, h3, h4, h5, _⟩ := h
  unfold szB Ko.szK
  by_cases c1 : k = 2 ∨ k = 3
  · rw [if_pos c1, if_pos c1]
    rcases c1 with rfl | rfl
    · go_enter Try.func39, Try.ntmps39
      go_wp2_with fail
      go_ret
      exact ⟨rfl, rfl⟩
    · go_enter Try.func39, Try.ntmps39
      go_wp2_with fail
      go_ret
      exact ⟨rfl, rfl⟩
  · rw [if_neg c1, if_neg c1]
    have n2 : ((k : Int) == 2) = false := by simp; omega
    have n3 : ((k : Int) == 3) = false := by simp; omega
    by_cases c2 : 4 ≤ k ∧ k ≤ 54
    · rw [if_pos c2, if_pos c2]
      have g1 : (4 : Int) ≤ (k : Int) := by omega
      have g2 : (k : Int) ≤ 54 := by omega
      clear c1 c2
      generalize (k : Int) = z at *
      go_enter Try.func39, Try.ntmps39
      go_wp2_with fail
      go_ret
      exact ⟨rfl, rfl⟩
    · rw [if_neg c2, if_neg c2]
      by_cases g1 : (4 : Int) ≤ (k : Int)
      · have g2 : ¬ (k : Int) ≤ 54 := by omega
        clear c1 c2
        generalize (k : Int) = z at *
        go_enter Try.func39, Try.ntmps39
        go_wp2_with fail
        go_ret
        exact ⟨rfl, rfl⟩
      · clear c1 c2
        generalize (k : Int) = z at *
        go_enter Try.func39, Try.ntmps39
        go_wp2_with fail
        go_ret
        exact ⟨rfl, rfl⟩

theorem size_alloc (w : World) (o : Obj) : (w.alloc o).heap.size = w.heap.size + 1 := by simp
set_option maxHeartbeats 800000 in
/-- konst.sizer. -/
theorem sizer_any (w : World) : Calls Try.prog 22 #[] w fun e w' => ∃ B, e = .returned (.func (.func 39) #[] #[.pointer (some ⟨B + 3, 0, none⟩), .pointer (some ⟨B + 5, 0, none⟩), .pointer (some ⟨B + 4, 0, none⟩)]) ∧ SzAt w' B ∧ Lo w w' := by
  have hmf : ∀ (fn : Fn) (first cap : Array Value) (w : World), (Instr.makeFunc fn first cap).run Try.prog w = .ok (.func fn first cap) w := fun _ _ _ _ => rfl
  go_enter Try.func22, Try.ntmps22
  go_wp2_with fail
  go_ret
  refine ⟨w.heap.size, rfl, ?_, ?_⟩
  · refine ⟨?_, ?_, ?_, ?_, ?_, ?_, ?_⟩
    · exact lo_block (by repeat (first | exact Lo.refl _ | refine Lo.alloc ?_ _)) (new_block w _)
    · have h := new_block (w.alloc (.cells #[.int .i64 2] 3)) (.cells #[.int .i64 (-2)] 3)
      rw [size_alloc] at h
      exact lo_block (by repeat (first | exact Lo.refl _ | refine Lo.alloc ?_ _)) h
    · have h := new_block ((w.alloc (.cells #[.int .i64 2] 3)).alloc (.cells #[.int .i64 (-2)] 3)) (.cells #[.int .i64 (-2), .int .i64 2] 3)
      rw [size_alloc, size_alloc] at h
      exact lo_block (by repeat (first | exact Lo.refl _ | refine Lo.alloc ?_ _)) h
    all_goals simp [go_sem]
  · repeat (first | exact Lo.refl _ | refine Lo.alloc ?_ _)
end Go.Proofs.Ytcbchnckeeklkaa
