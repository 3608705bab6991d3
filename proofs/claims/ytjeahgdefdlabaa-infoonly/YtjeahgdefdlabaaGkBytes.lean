/-
  Texts as lists of bytes: s[i], s[a:b], s + t, []byte(s), string(b), in the walk's spelling. Nothing of the program but its types. No conditions.
-/
import Derived.Test.YtjeahgdefdlabaaGkLo
import Derived.Lib.ConvBytes
import Derived.Laws.IdiomStrings
import Derived.Laws.Concat
namespace Gk
open Go

theorem extract_list (l : List UInt8) (a b : Nat) : (⟨l.toArray⟩ : ByteArray).extract a b = ⟨((l.drop a).take (b - a)).toArray⟩ := by
  apply ByteArray.ext
  simp [ByteArray.data_extract, List.extract_eq_take_drop]
theorem extract_from (l : List UInt8) (a : Nat) : (⟨l.toArray⟩ : ByteArray).extract a l.length = ⟨(l.drop a).toArray⟩ := by
  rw [extract_list, List.take_of_length_le (by simp)]
theorem cat_list (l m : List UInt8) : (⟨l.toArray⟩ : ByteArray) ++ ⟨m.toArray⟩ = ⟨(l ++ m).toArray⟩ := by
  apply ByteArray.ext
  simp [ByteArray.data_append]
theorem take_snoc (l : List UInt8) (k : Nat) (h : k < l.length) : l.take (k + 1) = l.take k ++ [l.getD k 0] := by
  rw [List.take_succ_eq_append_getElem h]; simp [List.getD, List.getElem?_eq_getElem h]
theorem getD_mem (l : List UInt8) (k : Nat) (h : k < l.length) : l.getD k 0 ∈ l := by
  simp [List.getD, List.getElem?_eq_getElem h]
theorem getD_left (a b : List UInt8) (j : Nat) (h : j < a.length) : (a ++ b).getD j 0 = a.getD j 0 := by
  simp [List.getD, List.getElem?_append_left h]
theorem getD_mid (a b : List UInt8) (c : UInt8) : (a ++ c :: b).getD a.length 0 = c := by
  simp [List.getD]
theorem getD_last (a : List UInt8) (c : UInt8) : (a ++ [c]).getD ((a ++ [c]).length - 1) 0 = c := by
  simp [List.getD]

end Gk
namespace Go.Proofs.Ytjeahgdefdlabaa
open Go.RowKit

theorem conv_bytes (l : List UInt8) (w : World) : ∃ B C W1, (convert 9 67 (.string ⟨l.toArray⟩)).run Try.prog w = .ok (.slice (some ⟨B, 0, none⟩) l.length C) W1 ∧ Lo w W1 ∧
    ∀ j, j < l.length → W1.cell? ⟨B, j, none⟩ = some (.int .u8 (l.getD j 0).toNat) := by
  refine ⟨_, _, _, Lib.run_convert_string_bytes w 9 67 5 ⟨l.toArray⟩ Try.underlying9 Try.underlying67 Try.underlying5, ?_, fun j hj => Lib.bytesWorld_cell w 5 ⟨l.toArray⟩ j hj⟩
  exact ⟨rfl, rfl, rfl, by rw [Lib.bytesWorld_size]; omega, fun k hk => Lib.bytesWorld_at_old w _ _ k hk⟩

theorem conv_bytes_own (l : List UInt8) (w : World) : ∃ C W1, (convert 9 67 (.string ⟨l.toArray⟩)).run Try.prog w = .ok (.slice (some ⟨w.heap.size, 0, none⟩) l.length C) W1 ∧ Lo w W1 ∧ w.heap.size < W1.heap.size ∧
    (∀ j, j < l.length → W1.cell? ⟨w.heap.size, j, none⟩ = some (.int .u8 (l.getD j 0).toNat)) ∧ ∀ j, j < l.length → W1.frozen? ⟨w.heap.size, j, none⟩ = false := by
  refine ⟨_, _, Lib.run_convert_string_bytes w 9 67 5 ⟨l.toArray⟩ Try.underlying9 Try.underlying67 Try.underlying5, ?_, by rw [Lib.bytesWorld_size]; omega, fun j hj => Lib.bytesWorld_cell w 5 ⟨l.toArray⟩ j hj, fun j hj => ?_⟩
  · exact ⟨rfl, rfl, rfl, by rw [Lib.bytesWorld_size]; omega, fun k hk => Lib.bytesWorld_at_old w _ _ k hk⟩
  · have hs : l.length ≤ (Lib.bytesCells w 5 ⟨l.toArray⟩).size := by simp [Lib.bytesCells]
    simp only [World.frozen?, Lib.bytesWorld_at_new]
    simp
    omega

theorem ba_get (l : List UInt8) (k : Nat) (h : k < (ByteArray.mk l.toArray).size) : (ByteArray.mk l.toArray)[k] = l.getD k 0 := by
  have h' : k < l.length := h
  show l.toArray[k] = _
  simp [List.getD, List.getElem?_eq_getElem h']
theorem ba_at (l : List UInt8) (k : Nat) (c : UInt8) (hc : l.getD k 0 = c) (h : k < (ByteArray.mk l.toArray).size) : (ByteArray.mk l.toArray)[k] = c := by
  have h' : k < l.length := h
  rw [← hc]
  show l.toArray[k] = _
  simp [List.getD, List.getElem?_eq_getElem h']

theorem ne_byte (c d : UInt8) (h : c ≠ d) : ((c.toNat : Int) == (d.toNat : Int)) = false := by
  rw [beq_eq_false_iff_ne]
  intro he
  exact h (UInt8.toNat_inj.1 (by omega))

theorem one_byte (W : World) (c : Int) (h0 : 0 ≤ c) (h1 : c < 256) : (convert 67 9 (.slice (some ⟨W.heap.size, 0, none⟩) 1 1)).run Try.prog (W.alloc (.cells #[.int .u8 c] 5)) = .ok (.string ⟨[UInt8.ofNat c.toNat].toArray⟩) (W.alloc (.cells #[.int .u8 c] 5)) := by
  have := run_convert_bytes_back (P := Try.prog) (W.alloc (.cells #[.int .u8 c] 5)) 67 9 5 ⟨W.heap.size, 0, none⟩ 1 [UInt8.ofNat c.toNat] Try.underlying67 Try.underlying5 Try.underlying9 (fun j hj => by
    obtain rfl : j = 0 := by simp at hj; omega
    rw [Addr.add_lit]
    simp [go_sem]
    omega)
  exact this

theorem ret_cut {a b c d : ByteArray} {t : Bool} (h : a = c) (k : b = d) : Ending.returned (.tuple #[.string a, .string b, .bool t]) = .returned (.tuple #[.string c, .string d, .bool t]) := by rw [h, k]

end Go.Proofs.Ytjeahgdefdlabaa
