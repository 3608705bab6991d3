/-
  Contracts of slices.Repeat (of a slice of one number) and of glyf.repeated: so many times the same number. No conditions beyond those stated.
-/
import Derived.Test.YtjeahgdefdlabaaGkRows
import Derived.Test.YtjeahgdefdlabaaGkBlock
import Derived.Test.YtjeahgdefdlabaaBnBase
import Derived.Test.YtjeahgdefdlabaaShelf
import Derived.Laws.CopyOwn
import Derived.Laws.OwnMore
namespace Go.Proofs.Ytjeahgdefdlabaa
open Go.RowKit

/-- n numbers, of which the first k are z and the others 0. -/
def fill (z : Int) (n k : Nat) : List Value := List.replicate k (.int .i64 z) ++ List.replicate (n - k) (.int .i64 0)
theorem fill_len (z : Int) {n k : Nat} (h : k ≤ n) : (fill z n k).length = n := by simp [fill]; omega
theorem fill_zero (z : Int) (n : Nat) : fill z n 0 = List.replicate n (.int .i64 0) := by simp [fill]
theorem fill_splice (z : Int) {n k m : Nat} : splice (fill z n k) k (List.replicate m (.int .i64 z)) = fill z n (k + m) := by
  unfold splice fill
  rw [List.take_left' (by simp), List.length_replicate, List.drop_append, ← List.append_assoc, List.replicate_append_replicate]
  congr 1
  simp
  omega
theorem fill_at (z : Int) {n k j : Nat} (h : j < k) : (fill z n k)[j]? = some (.int .i64 z) := by
  unfold fill
  rw [List.getElem?_append_left (by simpa using h)]
  simp [h]
/-- Block G holds n numbers, of which the first k are z. -/
def FillAt (z : Int) (n k G : Nat) (w : World) : Prop := w.heap[G]? = some (.cells (fill z n k).toArray 3 (0, 0))

theorem repeat_made (z : Int) (n : Nat) (hn : n ≤ 1000000) (W : World) : (Instr.makeSlice 37 (.int .i64 (n : Int)) (.int .i64 (n : Int))).run Try.prog W = .ok (.slice (some ⟨W.heap.size, 0, none⟩) n n) (W.alloc (.cells (fill z n 0).toArray 3)) := by
  obtain ⟨i0, hi0, hz0, hz1, hz2⟩ := info_parts int_info
  have := run_makeSlice W 37 3 i0 (.int .i64 0) Try.underlying37 hi0 hz0 .i64 .i64 (n : Int) (n : Int) (by omega) (by omega) (by rw [hz1]; omega) (by rw [hz2]; omega) (by omega)
  rw [hz1, Int.toNat_natCast, Nat.mul_one, show (Value.int .i64 0).cells = #[Value.int .i64 0] from rfl] at this
  rw [this, fill_zero, ← toList_madeCells_one, Array.toArray_toList]
theorem int_elem' : Try.prog.elem 37 = 3 := by kernel_rfl
theorem slice_from' (b off N c k : Nat) (K : Int) (hK : K = k) (h : k ≤ N) (W : World) :
    (Instr.slice 37 (.slice (some ⟨b, off, none⟩) N c) (some (.int .i64 K)) none none).run Try.prog W = .ok (.slice (if c = k then some ⟨b, off, none⟩ else some ⟨b, off + k, none⟩) (N - k) (c - k)) W := by
  subst hK
  rw [run_slice_l (P := Try.prog) W 37 (some ⟨b, off, none⟩) N c (by rw [int_elem']; exact Try.underlying37) .i64 (k : Int) (by omega) (by omega)]
  have hs : (sizeOf (Try.prog.elem 37)).run Try.prog W = .ok 1 W := by rw [int_elem']; kernel_rfl
  rw [hs, Int.toNat_natCast]
  by_cases hk : k = 0
  · subst hk; simp [Result.andThen, sliced, Addr.add]
  · simp [Result.andThen, sliced, Addr.add, hk]
theorem slice_upto' (b off N c k : Nat) (K : Int) (hK : K = k) (h : k ≤ c) (W : World) :
    (Instr.slice 37 (.slice (some ⟨b, off, none⟩) N c) none (some (.int .i64 K)) none).run Try.prog W = .ok (.slice (some ⟨b, off, none⟩) k c) W := by
  subst hK
  rw [run_slice_h (P := Try.prog) W 37 (some ⟨b, off, none⟩) N c (by rw [int_elem']; exact Try.underlying37) .i64 (k : Int) (by omega) (by omega)]
  have hs : (sizeOf (Try.prog.elem 37)).run Try.prog W = .ok 1 W := by rw [int_elem']; kernel_rfl
  rw [hs, Int.toNat_natCast]
  simp [Result.andThen, sliced, Addr.add]
theorem mul_by_one (n : Nat) (hn : n ≤ 1000000) (W : World) : Calls Try.prog 63 #[.int .u64 1, .int .u64 (n : Int)] W fun e w' => e = .returned (.tuple #[.int .u64 0, .int .u64 (n : Int)]) ∧ W = w' := by
  refine (Try.bits_Mul 1 n (by omega) (by omega) W).mono ?_
  rintro e w' ⟨rfl, rfl⟩
  refine ⟨?_, rfl⟩
  rw [show 1 * n / 18446744073709551616 = 0 by omega, show 1 * n % 18446744073709551616 = n by omega]; rfl

theorem first_cell {b off : Nat} {z : Int} {w : World} {o : Obj} (hb : b < w.heap.size) (hc : w.cell? ⟨b, off + 0, none⟩ = some (.int .i64 (List.getD [z] 0 0))) (n : Nat) {j : Nat} {u : Value} (hj : (List.replicate (min 1 n) (Value.int .i64 z))[j]? = some u) : (w.alloc o).cell? ((⟨b, off, none⟩ : Addr).add j) = some u := by
  have hlt := (List.getElem?_eq_some_iff.1 hj).1
  rw [List.length_replicate] at hlt
  obtain rfl : j = 0 := by omega
  rw [List.getElem?_replicate, if_pos hlt] at hj
  injection hj with hj
  subst hj
  rw [show (⟨b, off, none⟩ : Addr).add 0 = ⟨b, off + 0, none⟩ from by unfold Addr.add; split <;> simp_all]
  rw [((Lo.refl w).alloc o).cell hb]
  exact hc
theorem fill_cell {z : Int} {n k G : Nat} {w : World} (h : FillAt z n k G w) (m : Nat) (hm : m ≤ k) {j : Nat} {u : Value} (hj : (List.replicate m (Value.int .i64 z))[j]? = some u) : w.cell? ((⟨G, 0, none⟩ : Addr).add j) = some u := by
  have hlt := (List.getElem?_eq_some_iff.1 hj).1
  rw [List.length_replicate] at hlt
  rw [List.getElem?_replicate, if_pos hlt] at hj
  injection hj with hj
  subst hj
  rw [show (⟨G, 0, none⟩ : Addr).add j = ⟨G, j, none⟩ from by unfold Addr.add; split <;> simp_all]
  exact block_cell h (by rw [List.getElem?_toArray, fill_at z (by omega)])

theorem copy_first (z : Int) (n : Nat) {b off c : Nat} {w : World} (hb : b < w.heap.size) (hc : w.cell? ⟨b, off + 0, none⟩ = some (.int .i64 (List.getD [z] 0 0))) :
    ∃ w2, (Builtin.copy_ #[37, 37] 3 #[.slice (some ⟨w.heap.size, 0, none⟩) n n, .slice (some ⟨b, off, none⟩) 1 c]).run Try.prog (w.alloc (.cells (fill z n 0).toArray 3)) = .ok (.int .i64 ((min 1 n : Nat) : Int)) w2 ∧ FillAt z n (min 1 n) w.heap.size w2 ∧ Lo w w2 := by
  have hrun := run_copy_row (P := Try.prog) (w.alloc (.cells (fill z n 0).toArray 3)) 37 37 3 3 w.heap.size 0 n n ⟨b, off, none⟩ 1 c (fill z n 0).toArray 3 (List.replicate (min 1 n) (Value.int .i64 z)) Try.underlying37 (by kernel_rfl) (new_block w _) List.length_replicate (fun j u hj => first_cell hb hc _ hj) (by rw [List.size_toArray, fill_len _ (by omega), List.length_replicate]; omega) (by intro u hu; rw [(List.mem_replicate.1 hu).2]; rfl)
  rw [List.length_replicate] at hrun
  refine ⟨_, hrun, ?_, ?_⟩
  · have h := setRow_heap (w.alloc (.cells (fill z n 0).toArray 3)) w.heap.size _ ((fill z n 0).toArray.toList.take 0 ++ List.replicate (min 1 n) (Value.int .i64 z) ++ (fill z n 0).toArray.toList.drop (0 + min 1 n)).toArray 3 _ (new_block w _)
    unfold FillAt
    rw [h]
    have e := fill_splice z (n := n) (k := 0) (m := min 1 n)
    rw [Nat.zero_add] at e
    rw [← e]
    unfold splice
    simp only [List.append_assoc, List.length_replicate]
  · exact below_setRow ((Lo.refl w).alloc _) (Nat.le_refl _) _
theorem copy_more {z : Int} {n k G : Nat} {w W : World} (hk : k < n) (h : FillAt z n k G W) (hl : Lo w W) (hG : w.heap.size ≤ G) :
    ∃ w2, (Builtin.copy_ #[37, 37] 3 #[.slice (some ⟨G, k, none⟩) (n - k) (n - k), .slice (some ⟨G, 0, none⟩) k n]).run Try.prog W = .ok (.int .i64 ((min k (n - k) : Nat) : Int)) w2 ∧ FillAt z n (k + min k (n - k)) G w2 ∧ Lo w w2 := by
  have hrun := run_copy_row (P := Try.prog) W 37 37 3 3 G k (n - k) (n - k) ⟨G, 0, none⟩ k n (fill z n k).toArray 3 (List.replicate (min k (n - k)) (Value.int .i64 z)) Try.underlying37 (by kernel_rfl) h List.length_replicate (fun j u hj => fill_cell h _ (Nat.min_le_left _ _) hj) (by rw [List.size_toArray, fill_len _ (by omega), List.length_replicate]; omega) (by intro u hu; rw [(List.mem_replicate.1 hu).2]; rfl)
  rw [List.length_replicate] at hrun
  refine ⟨_, hrun, ?_, ?_⟩
  · have h := setRow_heap W G _ ((fill z n k).toArray.toList.take k ++ List.replicate (min k (n - k)) (Value.int .i64 z) ++ (fill z n k).toArray.toList.drop (k + min k (n - k))).toArray 3 _ h
    unfold FillAt
    rw [h, ← fill_splice z (n := n) (k := k) (m := min k (n - k))]
    unfold splice
    simp only [List.append_assoc, List.length_replicate]
  · exact below_setRow hl hG _

set_option maxRecDepth 100000 in
set_option maxHeartbeats 1600000 in
theorem repeat_any (z : Int) (n : Nat) (v : Value) (w : World) (hr : Row w v [z]) (hn : n ≤ 1000000) :
    Calls Try.prog 59 #[v, .int .i64 (n : Int)] w fun e w' => ∃ G, e = .returned (.slice (some ⟨G, 0, none⟩) n n) ∧ FillAt z n n G w' ∧ Lo w w' := by
  obtain ⟨p, c, rfl, _⟩ := hr.form
  obtain ⟨b, off, rfl, hc⟩ := hr.at_ (k := 0) (by simp)
  have HC := Lib.hid hc
  have HM := Lib.hid (mul_by_one n hn)
  have hmk := fun W => repeat_made z n hn W
  have HB : Hid (b < w.heap.size) := Lib.hid (World.block_lt_of_cell? w _ hc)
  simp only [List.length_cons, List.length_nil, Nat.zero_add] at *
  clear hr hc
  go_enter Try.func59, Try.ntmps59
  go_wp2_with fail
  refine (HM.out _).mono ?_
  rintro e w1 ⟨rfl, rfl⟩
  obtain ⟨w2, hcp, hG2, hL⟩ := copy_first z n (c := c) HB.out HC.out
  have HG2 := Lib.hid hG2
  have HL := Lib.hid hL
  clear hG2 hL HC
  go_wp2_with fail
  clear hcp hmk HM
  generalize hG0 : w.heap.size = G at *
  go_loopw [8] (fun s W => ∃ k : Nat, k ≤ n ∧ (k = 0 → n = 0) ∧ s = .int .i64 k ∧ Hid (FillAt z n k G W) ∧ Hid (Lo w W)) (fun s _ => n - (intOf s).toNat)
  case atStart => exact ⟨min 1 n, by omega, by omega, rfl, HG2, HL⟩
  case round =>
    obtain ⟨k, hk, hk0, rfl, HF, HL2⟩ := hrel
    rename World => W1
    by_cases hlt : k < n
    · have hs1 : ∀ W, (Instr.slice 37 (.slice (some ⟨G, 0, none⟩) n n) (some (.int .i64 (k : Int))) none none).run Try.prog W = .ok (.slice (some ⟨G, k, none⟩) (n - k) (n - k)) W := fun W => by
        rw [slice_from' G 0 n n k k rfl hk W, if_neg (by omega), Nat.zero_add]
      have hs2 := fun W => slice_upto' G 0 n n k k rfl hk W
      obtain ⟨w3, hcp, hG3, hL3⟩ := copy_more hlt (show FillAt z n k G W1.drew from HF.out) (HL2.out.drew) (by omega)
      have HG3 := Lib.hid hG3
      have HL3 := Lib.hid hL3
      clear hG3 hL3
      generalize hm : min k (n - k) = m at *
      go_wp2_with fail
      go_region
      all_goals
        go_wp2_with fail
        go_roundw
        case rel => exact ⟨k + m, by omega, by omega, by go_num, HG3, HL3⟩
        case measure => simp [intOf]; omega
    · obtain rfl : k = n := by omega
      go_wp2_with fail
      go_ret
      exact ⟨G, rfl, HF.out, HL2.out⟩
end Go.Proofs.Ytjeahgdefdlabaa
