/-
  Facts that the walks rest on: GlRepeat, CoIs, CoRead, GkKeep. No conditions beyond those stated.
-/
import Derived.Test.YtcnmfgdeanbhoaaGround
import Derived.Test.YtcnmfgdeanbhoaaPart04
import Derived.Test.YtcnmfgdeanbhoaaPart07
import Derived.Laws.CopyOwn
import Derived.Laws.OwnMore
import Derived.Test.YtcnmfgdeanbhoaaPart06
import Derived.RangeFuncNested
import Derived.RangeFuncBound
import Derived.RangeFuncCalls
import Derived.RangeFuncLeaves
import Derived.Shelf.Abstract
import Derived.Shelf.RegionOpen
import Derived.OwnWalkIn
import Derived.TacticsInMore
import Derived.LoopNIn
import Derived.LoopIn
import Derived.Maps.OwnIn
import Derived.Maps.AppendAt
/-
  Contracts of slices.Repeat (of a slice of one number) and of glyf.repeated: so many times the same number. No conditions beyond those stated.
-/
namespace Go.Proofs.Ytcnmfgdeanbhoaa
open Go.RowKit

/-- n numbers, of which the first k are z and the others 0. -/
def fill (z : Int) (n k : Nat) : List Value := List.replicate k (.int .i64 z) ++ List.replicate (n - k) (.int .i64 0)
theorem fill_len (z : Int) {n k : Nat} (h : k ≤ n) : (fill z n k).length = n := by simp [fill]; omega
theorem fill_zero (z : Int) (n : Nat) : fill z n 0 = List.replicate n (.int .i64 0) := by simp [fill]
theorem fill_splice (z : Int) {n k m : Nat} : splice (fill z n k) k (List.replicate m (.int .i64 z)) = fill z n (k + m) := by
  unfold splice fill
  rw [List.take_left' (by simp), List.length_replicate, List.drop_append, ← List.append_assoc, List.replicate_append_replicate]
  congr 1
  simp
  omega
theorem fill_at (z : Int) {n k j : Nat} (h : j < k) : (fill z n k)[j]? = some (.int .i64 z) := by
  unfold fill
  rw [List.getElem?_append_left (by simpa using h)]
  simp [h]
/-- Block G holds n numbers, of which the first k are z. -/
def FillAt (z : Int) (n k G : Nat) (w : World) : Prop := w.heap[G]? = some (.cells (fill z n k).toArray 3 (0, 0))

theorem repeat_made (z : Int) (n : Nat) (hn : n ≤ 1000000) (W : World) : (Instr.makeSlice 33 (.int .i64 (n : Int)) (.int .i64 (n : Int))).run Try.prog W = .ok (.slice (some ⟨W.heap.size, 0, none⟩) n n) (W.alloc (.cells (fill z n 0).toArray 3)) := by
  obtain ⟨i0, hi0, hz0, hz1, hz2⟩ := info_parts int_info
  have := run_makeSlice W 33 3 i0 (.int .i64 0) Try.underlying33 hi0 hz0 .i64 .i64 (n : Int) (n : Int) (by omega) (by omega) (by rw [hz1]; omega) (by rw [hz2]; omega) (by omega)
  rw [hz1, Int.toNat_natCast, Nat.mul_one, show (Value.int .i64 0).cells = #[Value.int .i64 0] from rfl] at this
  rw [this, fill_zero, ← toList_madeCells_one, Array.toArray_toList]
theorem int_elem' : Try.prog.elem 33 = 3 := by kernel_rfl
theorem slice_from' (b off N c k : Nat) (K : Int) (hK : K = k) (h : k ≤ N) (W : World) :
    (Instr.slice 33 (.slice (some ⟨b, off, none⟩) N c) (some (.int .i64 K)) none none).run Try.prog W = .ok (.slice (if c = k then some ⟨b, off, none⟩ else some ⟨b, off + k, none⟩) (N - k) (c - k)) W := by
  subst hK
  rw [run_slice_l (P := Try.prog) W 33 (some ⟨b, off, none⟩) N c (by rw [int_elem']; exact Try.underlying33) .i64 (k : Int) (by omega) (by omega)]
  have hs : (sizeOf (Try.prog.elem 33)).run Try.prog W = .ok 1 W := by rw [int_elem']; kernel_rfl
  rw [hs, Int.toNat_natCast]
  by_cases hk : k = 0
  · subst hk; simp [Result.andThen, sliced, Addr.add]
  · simp [Result.andThen, sliced, Addr.add, hk]
theorem slice_upto' (b off N c k : Nat) (K : Int) (hK : K = k) (h : k ≤ c) (W : World) :
    (Instr.slice 33 (.slice (some ⟨b, off, none⟩) N c) none (some (.int .i64 K)) none).run Try.prog W = .ok (.slice (some ⟨b, off, none⟩) k c) W := by
  subst hK
  rw [run_slice_h (P := Try.prog) W 33 (some ⟨b, off, none⟩) N c (by rw [int_elem']; exact Try.underlying33) .i64 (k : Int) (by omega) (by omega)]
  have hs : (sizeOf (Try.prog.elem 33)).run Try.prog W = .ok 1 W := by rw [int_elem']; kernel_rfl
  rw [hs, Int.toNat_natCast]
  simp [Result.andThen, sliced, Addr.add]
theorem mul_by_one (n : Nat) (hn : n ≤ 1000000) (W : World) : Calls Try.prog 87 #[.int .u64 1, .int .u64 (n : Int)] W fun e w' => e = .returned (.tuple #[.int .u64 0, .int .u64 (n : Int)]) ∧ W = w' := by
  refine (Try.bits_Mul 1 n (by omega) (by omega) W).mono ?_
  rintro e w' ⟨rfl, rfl⟩
  refine ⟨?_, rfl⟩
  rw [show 1 * n / 18446744073709551616 = 0 by omega, show 1 * n % 18446744073709551616 = n by omega]; rfl

theorem first_cell {b off : Nat} {z : Int} {w : World} {o : Obj} (hb : b < w.heap.size) (hc : w.cell? ⟨b, off + 0, none⟩ = some (.int .i64 (List.getD [z] 0 0))) (n : Nat) {j : Nat} {u : Value} (hj : (List.replicate (min 1 n) (Value.int .i64 z))[j]? = some u) : (w.alloc o).cell? ((⟨b, off, none⟩ : Addr).add j) = some u := by
  have hlt := (List.getElem?_eq_some_iff.1 hj).1
  rw [List.length_replicate] at hlt
  obtain rfl : j = 0 := by omega
  rw [List.getElem?_replicate, if_pos hlt] at hj
  injection hj with hj
  subst hj
  rw [show (⟨b, off, none⟩ : Addr).add 0 = ⟨b, off + 0, none⟩ from by unfold Addr.add; split <;> simp_all]
  rw [((Lo.refl w).alloc o).cell hb]
  exact hc
theorem fill_cell {z : Int} {n k G : Nat} {w : World} (h : FillAt z n k G w) (m : Nat) (hm : m ≤ k) {j : Nat} {u : Value} (hj : (List.replicate m (Value.int .i64 z))[j]? = some u) : w.cell? ((⟨G, 0, none⟩ : Addr).add j) = some u := by
  have hlt := (List.getElem?_eq_some_iff.1 hj).1
  rw [List.length_replicate] at hlt
  rw [List.getElem?_replicate, if_pos hlt] at hj
  injection hj with hj
  subst hj
  rw [show (⟨G, 0, none⟩ : Addr).add j = ⟨G, j, none⟩ from by unfold Addr.add; split <;> simp_all]
  exact block_cell h (by rw [List.getElem?_toArray, fill_at z (by omega)])

theorem copy_first (z : Int) (n : Nat) {b off c : Nat} {w : World} (hb : b < w.heap.size) (hc : w.cell? ⟨b, off + 0, none⟩ = some (.int .i64 (List.getD [z] 0 0))) :
    ∃ w2, (Builtin.copy_ #[33, 33] 3 #[.slice (some ⟨w.heap.size, 0, none⟩) n n, .slice (some ⟨b, off, none⟩) 1 c]).run Try.prog (w.alloc (.cells (fill z n 0).toArray 3)) = .ok (.int .i64 ((min 1 n : Nat) : Int)) w2 ∧ FillAt z n (min 1 n) w.heap.size w2 ∧ Lo w w2 := by
  have hrun := run_copy_row (P := Try.prog) (w.alloc (.cells (fill z n 0).toArray 3)) 33 33 3 3 w.heap.size 0 n n ⟨b, off, none⟩ 1 c (fill z n 0).toArray 3 (List.replicate (min 1 n) (Value.int .i64 z)) Try.underlying33 (by kernel_rfl) (new_block w _) List.length_replicate (fun j u hj => first_cell hb hc _ hj) (by rw [List.size_toArray, fill_len _ (by omega), List.length_replicate]; omega) (by intro u hu; rw [(List.mem_replicate.1 hu).2]; rfl)
  rw [List.length_replicate] at hrun
  refine ⟨_, hrun, ?_, ?_⟩
  · have h := setRow_heap (w.alloc (.cells (fill z n 0).toArray 3)) w.heap.size _ ((fill z n 0).toArray.toList.take 0 ++ List.replicate (min 1 n) (Value.int .i64 z) ++ (fill z n 0).toArray.toList.drop (0 + min 1 n)).toArray 3 _ (new_block w _)
    unfold FillAt
    rw [h]
    have e := fill_splice z (n := n) (k := 0) (m := min 1 n)
    rw [Nat.zero_add] at e
    rw [← e]
    unfold splice
    simp only [List.append_assoc, List.length_replicate]
  · exact below_setRow ((Lo.refl w).alloc _) (Nat.le_refl _) _
theorem copy_more {z : Int} {n k G : Nat} {w W : World} (hk : k < n) (h : FillAt z n k G W) (hl : Lo w W) (hG : w.heap.size ≤ G) :
    ∃ w2, (Builtin.copy_ #[33, 33] 3 #[.slice (some ⟨G, k, none⟩) (n - k) (n - k), .slice (some ⟨G, 0, none⟩) k n]).run Try.prog W = .ok (.int .i64 ((min k (n - k) : Nat) : Int)) w2 ∧ FillAt z n (k + min k (n - k)) G w2 ∧ Lo w w2 := by
  have hrun := run_copy_row (P := Try.prog) W 33 33 3 3 G k (n - k) (n - k) ⟨G, 0, none⟩ k n (fill z n k).toArray 3 (List.replicate (min k (n - k)) (Value.int .i64 z)) Try.underlying33 (by kernel_rfl) h List.length_replicate (fun j u hj => fill_cell h _ (Nat.min_le_left _ _) hj) (by rw [List.size_toArray, fill_len _ (by omega), List.length_replicate]; omega) (by intro u hu; rw [(List.mem_replicate.1 hu).2]; rfl)
  rw [List.length_replicate] at hrun
  refine ⟨_, hrun, ?_, ?_⟩
  · have h := setRow_heap W G _ ((fill z n k).toArray.toList.take k ++ List.replicate (min k (n - k)) (Value.int .i64 z) ++ (fill z n k).toArray.toList.drop (k + min k (n - k))).toArray 3 _ h
    unfold FillAt
    rw [h, ← fill_splice z (n := n) (k := k) (m := min k (n - k))]
    unfold splice
    simp only [List.append_assoc, List.length_replicate]
  · exact below_setRow hl hG _

set_option maxRecDepth 100000 in
set_option maxHeartbeats 1600000 in
theorem repeat_any (z : Int) (n : Nat) (v : Value) (w : World) (hr : Row w v [z]) (hn : n ≤ 1000000) :
    Calls Try.prog 83 #[v, .int .i64 (n : Int)] w fun e w' => ∃ G, e = .returned (.slice (some ⟨G, 0, none⟩) n n) ∧ FillAt z n n G w' ∧ Lo w w' := by
  obtain ⟨p, c, rfl, _⟩ := hr.form
  obtain ⟨b, off, rfl, hc⟩ := hr.at_ (k := 0) (by simp)
  have HC := Lib.hid hc
  have HM := Lib.hid (mul_by_one n hn)
  have hmk := fun W => repeat_made z n hn W
  have HB : Hid (b < w.heap.size) := Lib.hid (World.block_lt_of_cell? w _ hc)
  simp only [List.length_cons, List.length_nil, Nat.zero_add] at *
  clear hr hc
  go_enter Try.func83, Try.ntmps83
  go_wp2_with fail
  refine (HM.out _).mono ?_
  rintro e w1 ⟨rfl, rfl⟩
  obtain ⟨w2, hcp, hG2, hL⟩ := copy_first z n (c := c) HB.out HC.out
  have HG2 := Lib.hid hG2
  have HL := Lib.hid hL
  clear hG2 hL HC
  go_wp2_with fail
  clear hcp hmk HM
  generalize hG0 : w.heap.size = G at *
  go_loopw [8] (fun s W => ∃ k : Nat, k ≤ n ∧ (k = 0 → n = 0) ∧ s = .int .i64 k ∧ Hid (FillAt z n k G W) ∧ Hid (Lo w W)) (fun s _ => n - (intOf s).toNat)
  case atStart => exact ⟨min 1 n, by omega, by omega, rfl, HG2, HL⟩
  case round =>
    obtain ⟨k, hk, hk0, rfl, HF, HL2⟩ := hrel
    rename World => W1
    by_cases hlt : k < n
    · have hs1 : ∀ W, (Instr.slice 33 (.slice (some ⟨G, 0, none⟩) n n) (some (.int .i64 (k : Int))) none none).run Try.prog W = .ok (.slice (some ⟨G, k, none⟩) (n - k) (n - k)) W := fun W => by
        rw [slice_from' G 0 n n k k rfl hk W, if_neg (by omega), Nat.zero_add]
      have hs2 := fun W => slice_upto' G 0 n n k k rfl hk W
      obtain ⟨w3, hcp, hG3, hL3⟩ := copy_more hlt (show FillAt z n k G W1.drew from HF.out) (HL2.out.drew) (by omega)
      have HG3 := Lib.hid hG3
      have HL3 := Lib.hid hL3
      clear hG3 hL3
      generalize hm : min k (n - k) = m at *
      go_wp2_with fail
      go_region
      all_goals
        go_wp2_with fail
        go_roundw
        case rel => exact ⟨k + m, by omega, by omega, by go_num, HG3, HL3⟩
        case measure => simp [intOf]; omega
    · obtain rfl : k = n := by omega
      go_wp2_with fail
      go_ret
      exact ⟨G, rfl, HF.out, HL2.out⟩
end Go.Proofs.Ytcnmfgdeanbhoaa
/-
  The contracts of cover.Is and cover.sizes. No conditions beyond those stated.
-/
namespace Go.Proofs.Ytcnmfgdeanbhoaa
open Go.RowKit

set_option maxHeartbeats 400000 in
/-- cover.Is. -/
theorem cois_any (v : Value) (l : List Int) (w : World) (h : Row w v l) :
    Calls Try.prog 42 #[v] w fun e w' => e = .returned (.bool (Co.isCov l)) ∧ w = w' := by
  obtain ⟨p, c, rfl, hlen⟩ := h.form
  have HR := Lib.hid h
  generalize hy : Co.isCov l = y
  have HY : Hid (Co.asc (-1) (l.drop 0) = y) := Lib.hid (by rw [List.drop_zero]; exact hy)
  generalize hn : l.length = n at *
  have HN := Lib.hid hn
  clear hn h hy
  go_enter Try.func42, Try.ntmps42
  go_wp2_with fail
  go_loop [3, 8] (fun b i => ∃ (k : Nat) (z : Int), k ≤ n ∧ i = .int .i64 k ∧ b = .int .i64 z ∧ Hid (Co.asc z (l.drop k) = y)) (fun _ i => n - (intOf i).toNat)
  case atStart => exact ⟨0, -1, Nat.zero_le _, rfl, rfl, HY⟩
  case round =>
    obtain ⟨k, z, hk, rfl, rfl, HI⟩ := hrel
    by_cases hlt : k < n
    · obtain ⟨b, off, rfl, hcell⟩ := HR.out.at_ hlt
      have HS : Hid ((decide (z < l.getD k 0) && decide (l.getD k 0 ≤ 65534) && Co.asc (l.getD k 0) (l.drop (k + 1))) = y) := Lib.hid (by rw [← Co.asc_step (by rw [HN.out]; exact hlt)]; exact HI.out)
      generalize l.getD k 0 = x at *
      clear HI
      by_cases h1 : x ≤ z
      · have HF : Hid (y = false) := Lib.hid (by rw [← HS.out, decide_eq_false (by omega)]; rfl)
        go_wp2_with fail
        go_ret
        exact ⟨ret_bool HF.out.symm, rfl⟩
      · by_cases h2 : 65535 ≤ x
        · have HF : Hid (y = false) := Lib.hid (by rw [← HS.out, decide_eq_false (show ¬ x ≤ 65534 by omega), Bool.and_false]; rfl)
          go_wp2_with fail
          go_ret
          exact ⟨ret_bool HF.out.symm, rfl⟩
        · have HT : Hid (Co.asc x (l.drop (k + 1)) = y) := Lib.hid (by rw [← HS.out, decide_eq_true (show z < x by omega), decide_eq_true (show x ≤ 65534 by omega)]; rfl)
          go_wp2_with fail
          go_round
          case rel => exact ⟨k + 1, x, by omega, by go_num, rfl, HT⟩
          case measure => simp [intOf]; omega
    · obtain rfl : k = n := by omega
      have HF : Hid (y = true) := Lib.hid (by rw [← HI.out, List.drop_of_length_le (by rw [HN.out]; omega)]; rfl)
      go_wp2_with fail
      go_ret
      exact ⟨ret_bool HF.out.symm, rfl⟩

theorem fill_row {z : Int} {n G : Nat} {w : World} (h : FillAt z n n G w) (hn : n ≤ 1000000) : Row w (.slice (some ⟨G, 0, none⟩) n n) (List.replicate n z) := by
  refine .inr ⟨G, 0, n, by rw [List.length_replicate], by rw [List.length_replicate]; omega, by rw [List.length_replicate]; omega, (Array.getElem?_eq_some_iff.1 h).1, fun i hi => ?_⟩
  rw [List.length_replicate] at hi
  rw [Nat.zero_add, block_cell h (by rw [List.getElem?_toArray]; exact fill_at z hi)]
  simp [List.getD, hi]

set_option maxHeartbeats 400000 in
/-- cover.sizes. -/
theorem cosizes_any (n : Nat) (w : World) (hn : n ≤ 1000000) :
    Calls Try.prog 76 #[.int .i64 (n : Int)] w fun e w' => ∃ p c, e = .returned (.slice p n c) ∧ Row w' (.slice p n c) (Co.sz n) ∧ Lo w w' := by
  have HRp := Lib.hid (fun W v h => repeat_any 2 n v W h hn)
  go_enter Try.func76, Try.ntmps76
  go_wp2_with fail
  refine (HRp.out _ _ (row1 w w.heap.size rfl 2)).mono ?_
  rintro e w1 ⟨G, rfl, hf, lo⟩
  have HF := Lib.hid (fill_row hf hn)
  have HL := Lib.hid (((Lo.refl w).alloc _).trans lo)
  clear hf lo
  go_wp2_with fail
  go_ret
  exact ⟨_, _, rfl, HF.out, HL.out⟩
end Go.Proofs.Ytcnmfgdeanbhoaa
/-
  The contract of cover.read: the format of a table and the fields of its glyphs or ranges. No conditions beyond those stated.
-/
namespace Co
open Bn
theorem rd_arg (s : List UInt8) {pos : Int} (h : pos < 0) : rdC s pos = (0, [], 1) ∧ Bn.get s pos [2, 2] = ([], 1) := by
  refine ⟨by unfold rdC; rw [if_pos h], get_neg s h 2⟩
theorem rd_more (s : List UInt8) {pos : Nat} (h : s.length < pos + 4) : rdC s pos = (0, [], 4) ∧ Bn.get s pos [2, 2] = ([], 4) := by
  refine ⟨by unfold rdC; rw [if_neg (by omega), if_pos (by omega)], ?_⟩
  rw [show ([2, 2] : List Int) = sz 2 from rfl, get_sz, if_pos (by omega)]
theorem rd_head (s : List UInt8) {pos : Nat} (h : pos + 4 ≤ s.length) : Bn.get s pos [2, 2] = ([word (s.drop pos) 0, word (s.drop pos) 2], 0) := by
  rw [show ([2, 2] : List Int) = sz 2 from rfl, get_sz, if_neg (by omega)]; rfl
theorem rd_form (s : List UInt8) {pos : Nat} (h : pos + 4 ≤ s.length) (hf : word (s.drop pos) 0 ≠ 1 ∧ word (s.drop pos) 0 ≠ 2) : rdC s pos = (0, [], 5) := by
  unfold rdC; rw [if_neg (by omega), if_neg (by omega), Int.toNat_natCast, if_pos hf]
/-- The fields, or that they are not all there. -/
theorem rd_rest (s : List UInt8) {pos : Nat} (h : pos + 4 ≤ s.length) (hf : word (s.drop pos) 0 = 1 ∨ word (s.drop pos) 0 = 2) :
    (Bn.get s ((pos + 4 : Nat) : Int) (sz (count (s.drop pos)))).2 = (rdC s pos).2.2 ∧ (Bn.get s ((pos + 4 : Nat) : Int) (sz (count (s.drop pos)))).1 = (rdC s pos).2.1 ∧ ((rdC s pos).2.2 ≠ 0 → rdC s pos = (0, [], (rdC s pos).2.2)) ∧
      ((rdC s pos).2.2 = 0 → (rdC s pos).1 = word (s.drop pos) 0) := by
  unfold rdC
  rw [if_neg (by omega), if_neg (by omega), Int.toNat_natCast, if_neg (by omega), get_sz, List.drop_drop, List.length_drop]
  by_cases c : s.length < pos + 4 + 2 * count (s.drop pos)
  · rw [if_pos c, if_pos (by omega)]; simp
  · rw [if_neg c, if_neg (by omega)]; simp
end Co
namespace Go.Proofs.Ytcnmfgdeanbhoaa
open Go.RowKit

/-- What read tells. -/
def ReadC (a : Int × List Int × Int) (w : World) (e : Ending) (w' : World) : Prop := ∃ p c, e = .returned (.tuple #[.int .i64 a.1, .slice p a.2.1.length c, .int .i64 a.2.2]) ∧ Row w' (.slice p a.2.1.length c) a.2.1 ∧ Lo w w'
theorem ReadC.nil {w w' : World} {k : Int} {e : Ending} (he : e = .returned (.tuple #[.int .i64 0, .slice none 0 0, .int .i64 k])) (h : Lo w w') : ReadC (0, [], k) w e w' := by
  subst he
  exact ⟨none, 0, rfl, .inl ⟨_, _, rfl, fun _ => rfl, rfl⟩, h⟩
theorem Row.two2 {w : World} {p : Option Addr} {c : Nat} {x0 x1 : Int} (h : Row w (.slice p 2 c) [x0, x1]) :
    ∃ b off, p = some ⟨b, off, none⟩ ∧ w.cell? ⟨b, off, none⟩ = some (.int .i64 x0) ∧ w.cell? ⟨b, off + 1, none⟩ = some (.int .i64 x1) := by
  obtain ⟨b, off, rfl, h0⟩ := h.at_ (k := 0) (by omega)
  obtain ⟨b1, off1, e1, h1⟩ := h.at_ (k := 1) (by omega)
  simp only [Option.some.injEq, Addr.mk.injEq, and_true] at e1
  obtain ⟨rfl, rfl⟩ := e1
  exact ⟨b, off, rfl, h0, h1⟩

set_option maxHeartbeats 1000000 in
theorem coread_no (s : List UInt8) (pos k : Int) (w : World) (hl : s.length ≤ 9223372036854775807) (h1 : pos ≤ 9223372036854775807) (hb : Bn.get s pos [2, 2] = ([], k)) (hk : k ≠ 0) (hr : Co.rdC s pos = (0, [], k)) :
    Calls Try.prog 58 #[.string ⟨s.toArray⟩, .int .i64 pos] w fun e w' => ReadC (Co.rdC s pos) w e w' := by
  rw [hr]
  have HG := Lib.hid (fun W (v : Value) (h : Row W v [2, 2]) => get_any s pos v [2, 2] W h (by simp) hl h1)
  rw [hb] at HG
  have hkb : (k == 0) = false := by simpa using hk
  clear hk hb hr
  go_enter Try.func58, Try.ntmps58
  go_wp2_with fail
  refine (HG.out _ _ (row2 w w.heap.size rfl 2 2)).mono ?_
  rintro e w1 ⟨p, c, rfl, hrow, lo⟩
  have HL := Lib.hid (((Lo.refl w).alloc _).trans lo)
  clear hrow lo HG
  go_wp2_with fail
  go_ret3
  exact ReadC.nil rfl HL.out

set_option maxHeartbeats 1000000 in
theorem coread_form (s : List UInt8) (pos : Nat) (f n : Int) (w : World) (hl : s.length ≤ 9223372036854775807) (h1 : (pos : Int) ≤ 9223372036854775807) (hb : Bn.get s pos [2, 2] = ([f, n], 0)) (hf1 : f ≠ 1) (hf2 : f ≠ 2) :
    Calls Try.prog 58 #[.string ⟨s.toArray⟩, .int .i64 (pos : Int)] w fun e w' => ReadC (0, [], 5) w e w' := by
  have HG := Lib.hid (fun W (v : Value) (h : Row W v [2, 2]) => get_any s pos v [2, 2] W h (by simp) hl h1)
  rw [hb] at HG
  have hb1 : (f == 1) = false := by simpa using hf1
  have hb2 : (f == 2) = false := by simpa using hf2
  clear hb hf1 hf2
  go_enter Try.func58, Try.ntmps58
  go_wp2_with fail
  refine (HG.out _ _ (row2 w w.heap.size rfl 2 2)).mono ?_
  rintro e w1 ⟨p, c, rfl, hrow, lo⟩
  have HL := Lib.hid (((Lo.refl w).alloc _).trans lo)
  obtain ⟨b, off, rfl, c0, c1⟩ := Row.two2 hrow
  clear hrow lo HG
  go_wp2_with fail
  go_quiet (fail)
  have HL2 := Lib.hid (HL.out.drewN nq)
  go_wp2_with fail
  go_ret3
  exact ReadC.nil rfl HL2.out

set_option maxRecDepth 100000 in
set_option maxHeartbeats 1000000 in
theorem coread_some (s : List UInt8) (pos : Nat) (f : Int) (n m : Nat) (w : World) (hl : s.length ≤ 9223372036854775807) (h1 : (pos : Int) + 4 ≤ 9223372036854775807) (hb : Bn.get s pos [2, 2] = ([f, (n : Int)], 0))
    (hf : f = 1 ∧ m = n ∨ f = 2 ∧ m = 3 * n) (hn : n ≤ 65535) (l : List Int) (k : Int) (hg : Bn.get s ((pos : Int) + 4) (Co.sz m) = (l, k)) (hk : k ≠ 0 → Co.rdC s pos = (0, [], k)) (hk0 : k = 0 → Co.rdC s pos = (f, l, 0)) :
    Calls Try.prog 58 #[.string ⟨s.toArray⟩, .int .i64 (pos : Int)] w fun e w' => ReadC (Co.rdC s pos) w e w' := by
  have HG := Lib.hid (fun W (v : Value) (h : Row W v [2, 2]) => get_any s pos v [2, 2] W h (by simp) hl (by omega))
  rw [hb] at HG
  have HG2 := Lib.hid (fun W (v : Value) (h : Row W v (Co.sz m)) => get_any s ((pos : Int) + 4) v (Co.sz m) W h (by rw [Co.sz_len]; omega) hl h1)
  rw [hg] at HG2
  have HZ := Lib.hid (fun W => cosizes_any m W (by omega))
  have HK := Lib.hid hk
  have HK0 := Lib.hid hk0
  clear hb hg hk hk0
  go_enter Try.func58, Try.ntmps58
  go_wp2_with fail
  refine (HG.out _ _ (row2 w w.heap.size rfl 2 2)).mono ?_
  rintro e w1 ⟨p, c, rfl, hrow, lo⟩
  have HL := Lib.hid (((Lo.refl w).alloc _).trans lo)
  obtain ⟨b, off, rfl, c0, c1⟩ := Row.two2 hrow
  clear hrow lo HG
  go_wp2_with fail
  go_quiet (fail)
  have HL2 := Lib.hid (HL.out.drewN nq)
  clear c0 c1 HL
  rcases hf with ⟨rfl, rfl⟩ | ⟨rfl, hm⟩
  · go_wp2_with fail
    refine (HZ.out _).mono ?_
    rintro e w2 ⟨p2, c2, rfl, hrow, lo⟩
    have HL3 := Lib.hid (HL2.out.trans lo)
    have HR := Lib.hid hrow
    clear hrow lo HZ HL2
    go_wp2_with fail
    refine (HG2.out _ _ HR.out).mono ?_
    rintro e w3 ⟨p3, c3, rfl, hrow, lo⟩
    have HL4 := Lib.hid (HL3.out.trans lo)
    have HR4 := Lib.hid hrow
    clear hrow lo HG2 HL3 HR
    by_cases h0 : k = 0
    · have HK1 := Lib.hid (HK0.out h0)
      clear HK HK0
      subst h0
      go_wp2_with fail
      go_ret3
      rw [HK1.out]
      exact ⟨_, _, rfl, HR4.out, HL4.out⟩
    · have hkb : (k == 0) = false := by simpa using h0
      have HKn := Lib.hid (HK.out h0)
      clear h0 HK HK0 hl h1 hn HR4
      go_wp2_with fail
      go_ret3
      rw [HKn.out]
      exact ReadC.nil rfl HL4.out
  · have HM : Hid (((m : Nat) : Int) = (n : Int) * 3) := Lib.hid (by omega)
    go_wp2_with fail
    rw [← HM.out]
    refine (HZ.out _).mono ?_
    rintro e w2 ⟨p2, c2, rfl, hrow, lo⟩
    have HL3 := Lib.hid (HL2.out.trans lo)
    have HR := Lib.hid hrow
    clear hrow lo HZ HL2 hm
    go_wp2_with fail
    refine (HG2.out _ _ HR.out).mono ?_
    rintro e w3 ⟨p3, c3, rfl, hrow, lo⟩
    have HL4 := Lib.hid (HL3.out.trans lo)
    have HR4 := Lib.hid hrow
    clear hrow lo HG2 HL3 HR
    by_cases h0 : k = 0
    · have HK1 := Lib.hid (HK0.out h0)
      clear HK HK0
      subst h0
      go_wp2_with fail
      go_ret3
      rw [HK1.out]
      exact ⟨_, _, rfl, HR4.out, HL4.out⟩
    · have hkb : (k == 0) = false := by simpa using h0
      have HKn := Lib.hid (HK.out h0)
      clear h0 HK HK0 hl h1 hn HR4
      go_wp2_with fail
      go_ret3
      rw [HKn.out]
      exact ReadC.nil rfl HL4.out

/-- cover.read. -/
theorem coread_any (s : List UInt8) (pos : Int) (w : World) (hl : s.length ≤ 9223372036854775807) (h1 : pos ≤ 9223372036854775807) :
    Calls Try.prog 58 #[.string ⟨s.toArray⟩, .int .i64 pos] w fun e w' => ReadC (Co.rdC s pos) w e w' := by
  by_cases c1 : pos < 0
  · exact coread_no s pos 1 w hl h1 (Co.rd_arg s c1).2 (by omega) (Co.rd_arg s c1).1
  · obtain ⟨q, rfl⟩ := Int.eq_ofNat_of_zero_le (show 0 ≤ pos by omega)
    rcases Nat.lt_or_ge s.length (q + 4) with c2 | c2
    · exact coread_no s q 4 w hl h1 (Co.rd_more s c2).2 (by omega) (Co.rd_more s c2).1
    · have hh := Co.rd_head s c2
      by_cases c3 : Co.word (s.drop q) 0 ≠ 1 ∧ Co.word (s.drop q) 0 ≠ 2
      · rw [Co.rd_form s c2 c3]
        exact coread_form s q _ _ w hl h1 hh c3.1 c3.2
      · obtain ⟨r1, r2, r3, r4⟩ := Co.rd_rest s c2 (by omega)
        have hbd := Co.word_bd (s.drop q) 2
        obtain ⟨n, hn⟩ := Int.eq_ofNat_of_zero_le hbd.1
        rw [hn] at hh
        have hc : Co.count (s.drop q) = if Co.word (s.drop q) 0 = 2 then 3 * n else n := by
          unfold Co.count; rw [hn, Int.toNat_natCast]
        rw [show ((q + 4 : Nat) : Int) = (q : Int) + 4 by omega] at r1 r2
        refine coread_some s q _ n (Co.count (s.drop q)) w hl (by omega) hh ?_ (by omega) (Co.rdC s q).2.1 (Co.rdC s q).2.2 (Prod.ext r2 r1) r3 (fun h => ?_)
        · by_cases c5 : Co.word (s.drop q) 0 = 2
          · rw [if_pos c5] at hc; exact .inr ⟨c5, hc⟩
          · rw [if_neg c5] at hc; exact .inl ⟨by omega, hc⟩
        · exact Prod.ext (r4 h) (Prod.ext rfl h)
end Go.Proofs.Ytcnmfgdeanbhoaa
/-
  What a loop over an iterator keeps of the iterator's own blocks, where the loop's body appends to a slice of its own: all but the slice's row. No conditions beyond those stated.
-/
namespace Go.Proofs.Ytcnmfgdeanbhoaa
open Go.RowKit Go.Shelf

theorem wide_fn (f : FuncId) : Fence.wide.fn f = True := rfl
theorem wide_depth : Fence.wide.depth = none := rfl

/-- The slice that lies in the box B has block b for its row. -/
def Owned (B : Nat) (W : World) (b : Nat) : Prop := ∃ v, W.cell? ⟨B, 0, none⟩ = some v ∧ v.ownBlock = some b
structure Good (B : Nat) (W : World) : Prop where
  lt : B < W.heap.size
  own : ∀ b, Owned B W b → b < W.heap.size
structure KpS (n₀ n₁ B : Nat) (W W' : World) : Prop where
  below : Below n₀ W W'
  good : Good B W → Good B W'
  own : Good B W → ∀ b, Owned B W' b → Owned B W b ∨ W.heap.size ≤ b
  same : Good B W → ∀ b o, W.heap[b]? = some o → o.isCells = true → n₁ ≤ b → ¬ Owned B W b → W'.heap[b]? = some o
theorem KpS.refl (n₀ n₁ B : Nat) (W : World) : KpS n₀ n₁ B W W := ⟨Below.refl _ _, id, fun _ _ h => .inl h, fun _ _ _ h _ _ _ => h⟩
theorem KpS.trans {n₀ n₁ B : Nat} {A W C : World} (h : KpS n₀ n₁ B A W) (k : KpS n₀ n₁ B W C) : KpS n₀ n₁ B A C := by
  refine ⟨h.below.trans k.below, fun g => k.good (h.good g), fun g b hb => ?_, fun g b o hb hc hn ho => ?_⟩
  · rcases k.own (h.good g) b hb with h1 | h1
    · exact h.own g b h1
    · exact .inr (Nat.le_trans h.below.size h1)
  · refine k.same (h.good g) b o (h.same g b o hb hc hn ho) hc hn fun hw => ?_
    rcases h.own g b hw with h1 | h1
    · exact ho h1
    · have := (Array.getElem?_eq_some_iff.1 hb).1; omega
theorem owned_alloc {B : Nat} {W : World} (hB : B < W.heap.size) (o : Obj) (b : Nat) : Owned B (W.alloc o) b ↔ Owned B W b := by
  unfold Owned
  rw [show (W.alloc o).cell? ⟨B, 0, none⟩ = W.cell? ⟨B, 0, none⟩ from World.cell?_alloc_old _ _ _ (by show B ≠ _; omega)]
theorem Good.alloc {B : Nat} {W : World} (h : Good B W) (o : Obj) : Good B (W.alloc o) :=
  ⟨by rw [World.size_alloc]; have := h.lt; omega, fun b hb => by rw [World.size_alloc]; have := h.own b ((owned_alloc h.lt o b).1 hb); omega⟩
theorem Good.new {B : Nat} {W : World} (h : Good B W) (o : Obj) : ¬ Owned B (W.alloc o) W.heap.size := fun hb => by
  have := h.own _ ((owned_alloc h.lt o _).1 hb); omega
theorem KpS.alloc {n₀ n₁ B : Nat} {W : World} (hn : n₀ ≤ W.heap.size) (o : Obj) : KpS n₀ n₁ B W (W.alloc o) :=
  ⟨(Below.refl _ W).alloc hn o, fun g => g.alloc o, fun g b hb => .inl ((owned_alloc g.lt o b).1 hb),
   fun _ b _ hb _ _ _ => (Below.heap_alloc W o b (Array.getElem?_eq_some_iff.1 hb).1).trans hb⟩
theorem KpS.drew (n₀ n₁ B : Nat) (W : World) : KpS n₀ n₁ B W W.drew := ⟨(Below.refl _ W).drew, fun g => ⟨g.lt, g.own⟩, fun _ _ h => .inl h, fun _ _ _ h _ _ _ => h⟩
/-- A block of the iterator's stands, and is not the slice's row. -/
theorem KpS.keep {n₀ n₁ B b : Nat} {W W' : World} {o : Obj} (h : KpS n₀ n₁ B W W') (g : Good B W) (hb : W.heap[b]? = some o) (hc : o.isCells = true) (hn : n₁ ≤ b) (ho : ¬ Owned B W b) : W'.heap[b]? = some o ∧ ¬ Owned B W' b :=
  ⟨h.same g b o hb hc hn ho, fun hw => by
    rcases h.own g b hw with h1 | h1
    · exact ho h1
    · have := (Array.getElem?_eq_some_iff.1 hb).1; omega⟩
theorem kpS_t {n₀ n₁ B : Nat} {A W C : World} (h : KpS n₀ n₁ B A W) (k : KpS n₀ n₁ B W C) : KpS n₀ n₁ B A C := h.trans k
theorem kpS_b {n₀ n₁ B : Nat} {w : World} (hB : B < w.heap.size) (hn : n₀ ≤ w.heap.size) (W : World) (l : Nat) (o o' : Obj) (hl : w.heap.size ≤ l) (h : W.heap[l]? = some o) (hc : o.isCells = false) (hw : o.isWalk = false) : KpS n₀ n₁ B W (W.putObj l o') := by
  have hlt := (Array.getElem?_eq_some_iff.1 h).1
  have hcell : (W.putObj l o').cell? ⟨B, 0, none⟩ = W.cell? ⟨B, 0, none⟩ := by
    unfold World.cell?
    rw [show (W.putObj l o').heap[B]? = W.heap[B]? from World.putObj_heap_other (by omega)]
  have hsz : (W.putObj l o').heap.size = W.heap.size := by simp
  refine ⟨belowK_b hn W l o o' hl h hc hw, fun g => ⟨by rw [hsz]; exact g.lt, fun b hb => ?_⟩, fun _ b hb => .inl ?_, fun _ b u hb hu _ _ => ?_⟩
  · rw [hsz]; refine g.own b ?_
    unfold Owned at *; rwa [hcell] at hb
  · unfold Owned at *; rwa [hcell] at hb
  · refine (World.putObj_heap_other ?_).trans hb
    rintro rfl
    rw [h] at hb; cases hb; rw [hc] at hu; cases hu
/-- The box holds a slice of the call's own: an append turns no more than the box and the slice's row. -/
theorem KpS.grown {n₀ n₁ B : Nat} {t e : TypeId} {size k m : Nat} {v v' : Value} {xs ys : List Value} {tmp : Obj} {W w1 : World} (hv : Boxed W B t v) (hte : t ≠ e) (hrow : W.ownsRow n₀ e size v k xs)
    (hn₀ : n₀ ≤ W.heap.size) (hB : n₀ ≤ B) (hB1 : B < n₁) (hown' : w1.ownsRow n₀ e size v' m ys) (hgrow : (W.alloc tmp).grownBy w1 v.ownBlock) (hat : v'.ownBlock = v.ownBlock ∨ v'.ownBlock = some (W.alloc tmp).heap.size) :
    KpS n₀ n₁ B W (w1.setCell ⟨B, 0, none⟩ v') := by
  obtain ⟨hv1, hv2, hr2, hk2, hb2⟩ := hv.appended hte hrow hn₀ hB hown' hgrow
  have hlt2 : ∀ b, v'.ownBlock = some b → b < (w1.setCell ⟨B, 0, none⟩ v').heap.size := fun b hb => by
    rcases hr2.2 with ⟨rfl, _⟩ | ⟨g, cap, cur, rfl, _, hgb, _⟩
    · simp [Value.ownBlock] at hb
    · obtain rfl : g = b := by simpa [Value.ownBlock] using hb
      exact (Array.getElem?_eq_some_iff.1 hgb).1
  have hown2 : ∀ b, Owned B (w1.setCell ⟨B, 0, none⟩ v') b → v'.ownBlock = some b := by
    rintro b ⟨u, hu, hb⟩
    rw [hv2.cell] at hu
    cases hu
    exact hb
  refine ⟨hb2, fun _ => ⟨hv2.lt, fun b hb => hlt2 b (hown2 b hb)⟩, fun _ b hb => ?_, fun _ b o hb hc hn ho => ?_⟩
  · have h1 := hown2 b hb
    rcases hat with h | h
    · exact .inl ⟨v, hv.cell, by rw [← h]; exact h1⟩
    · rw [h] at h1
      cases h1
      exact .inr (by simp)
  · have hne : b ≠ B := by omega
    have hlt := (Array.getElem?_eq_some_iff.1 hb).1
    have h1 : (W.alloc tmp).heap[b]? = some o := (Below.heap_alloc W tmp b hlt).trans hb
    have h2 : w1.heap[b]? = some o := (hgrow.block b (by rw [World.size_alloc]; omega) (fun e' => ho ⟨v, hv.cell, e'.symm⟩)).trans h1
    exact (Below.heap_setCell w1 ⟨B, 0, none⟩ v' b hne).trans h2

theorem RoundIn.anyDepth {F : Fence} (hd : F.depth = none) {m m' : Nat} {P : Program} {l : Nat} {f : FuncId} {tmps : Array Value} {assign body : Code} {w : World} {R : Ending → World → Prop}
    (h : RoundIn F m P l f tmps assign body w R) : RoundIn F m' P l f tmps assign body w R := ⟨h.1, fun c cs _ => h.2 c cs (fun d hh => by rw [hd] at hh; cases hh)⟩
theorem YieldAt.anyDepth {F : Fence} (hd : F.depth = none) {m : Nat} (m' : Nat) {P : Program} {l : Nat} {args : Array Value} {W : World} {R : Ending → World → Prop} (h : YieldAt F m P l args W R) : YieldAt F m' P l args W R := by
  obtain ⟨fn, tmps, assign, body, hy, hR⟩ := h
  exact ⟨fn, tmps, assign, body, hy, RoundIn.anyDepth hd hR⟩
end Go.Proofs.Ytcnmfgdeanbhoaa
