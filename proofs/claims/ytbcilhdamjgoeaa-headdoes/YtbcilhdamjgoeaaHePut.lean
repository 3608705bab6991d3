/-
  The contract of head's table.put: a number is written into bytes at a place. No conditions beyond those stated.
-/
import Derived.Test.YtbcilhdamjgoeaaHeGet
import Derived.Test.YtbcilhdamjgoeaaBnPut
import Derived.Lib.BufferWrite
import Derived.Lib.SlBuf
namespace He
/-- Bytes written over others. -/
def over (l : List UInt8) (pos : Nat) (b : List UInt8) : List UInt8 := l.take pos ++ b ++ l.drop (pos + b.length)
theorem over_len (l : List UInt8) (pos : Nat) (b : List UInt8) (h : pos + b.length ≤ l.length) : (over l pos b).length = l.length := by
  unfold over; simp; omega
theorem put_one (size value : Int) (hs : Bn.isSize size = true) (hf : Bn.fits value size = true) : Bn.put [size] [value] = (Bn.bytes value size.natAbs, 0) := by
  unfold Bn.put
  rw [if_neg (by simp [Bn.allSizes, hs]), if_neg (by simp [Bn.allFit, hf])]
  simp [Bn.join]
end He
namespace Go.Proofs.Ytbcilhdamjgoeaa
open Go.RowKit

/-- A row of bytes in a block of its own. -/
def Buf (w : World) (B : Nat) (l : List UInt8) : Prop := w.heap[B]? = some (.cells (Lib.byteCells l).toArray 5 (0, 0))
/-- Of what was there nothing has turned but block B. -/
def Kept (B : Nat) (w w' : World) : Prop := Below 0 w w' ∧ ∀ j, j < w.heap.size → j ≠ B → w'.heap[j]? = w.heap[j]?
theorem Kept.of_lo {B : Nat} {w w' : World} (h : Lo w w') : Kept B w w' := ⟨Below.mono h (Nat.zero_le _), fun j hj _ => h.block j hj⟩
theorem Kept.refl (B : Nat) (w : World) : Kept B w w := Kept.of_lo (Lo.refl w)
theorem Kept.trans {B : Nat} {a b c : World} (h : Kept B a b) (k : Kept B b c) : Kept B a c :=
  ⟨Below.trans h.1 k.1, fun j hj hn => by rw [k.2 j (Nat.lt_of_lt_of_le hj h.1.size) hn, h.2 j hj hn]⟩
theorem Kept.lo {B : Nat} {a b c : World} (h : Lo a b) (k : Kept B b c) (hB : a.heap.size ≤ B) : Lo a c := by
  refine Below.trans h ⟨k.1.os, k.1.tape, k.1.output, k.1.size, fun j hj => ?_⟩
  exact k.2 j (Nat.lt_of_lt_of_le hj h.size) (by omega)
theorem Kept.block {B T : Nat} {o : Obj} {w w' : World} (h : Kept B w w') (hT : w.heap[T]? = some o) (hne : T ≠ B) : w'.heap[T]? = some o := by
  have hlt : T < w.heap.size := by
    rcases Nat.lt_or_ge T w.heap.size with hlt | hge
    · exact hlt
    · rw [Array.getElem?_eq_none hge] at hT; cases hT
  rw [h.2 T hlt hne]; exact hT
theorem cells_over (l : List UInt8) (pos : Nat) (b : List UInt8) : (Lib.byteCells l).toArray.toList.take pos ++ Lib.byteCells b ++ (Lib.byteCells l).toArray.toList.drop (pos + b.length) = Lib.byteCells (He.over l pos b) := by
  unfold Lib.byteCells He.over
  simp [List.map_take, List.map_drop]
theorem setRow_block (w : World) (B : Nat) (c d : Array Value) (ty : Nat) (h : w.heap[B]? = some (.cells c ty (0, 0))) : (w.setRow B d).heap[B]? = some (.cells d ty (0, 0)) ∧ Kept B w (w.setRow B d) := by
  exact ⟨setRow_heap w B c d ty _ h, ⟨⟨rfl, rfl, rfl, by simp, fun j hj => by omega⟩, fun j _ hn => setRow_other w B j d hn⟩⟩

set_option maxRecDepth 100000 in
set_option maxHeartbeats 1600000 in
theorem tput_any (l : List UInt8) (B n pos : Nat) (size value : Int) (w : World) (hB : Buf w B l) (hn : l.length = n) (hs : Bn.isSize size = true) (hf : Bn.fits value size = true) (hfit : pos + size.natAbs ≤ n) :
    Calls Try.prog 54 #[.slice (some ⟨B, 0, none⟩) n n, .int .i64 pos, .int .i64 size, .int .i64 value] w fun e w' => e = .returned (.tuple #[]) ∧ Buf w' B (He.over l pos (Bn.bytes value size.natAbs)) ∧ Kept B w w' := by
  have HP := Lib.hid (fun (v u : Value) (W : World) (h1 : Row W v [size]) (h2 : Row W u [value]) => put_any [size] [value] v u W h1 h2 (by simp))
  rw [He.put_one size value hs hf] at HP
  unfold strErr at HP
  simp only at HP
  have hbl := Bn.bytes_len value size.natAbs
  have hz := Bn.isSize_wide hs
  generalize Bn.bytes value size.natAbs = bs at *
  have HB := Lib.hid hB
  clear hB hs hf
  go_enter Try.func54, Try.ntmps54
  go_wp2_with fail
  refine (HP.out _ _ _ ((row1 w _ rfl size).lo ((Lo.refl _).alloc _)) (row1 _ _ (by simp) value)).mono ?_
  rintro e w1 ⟨rfl, lo⟩
  have lo' : Lo w w1 := (((Lo.refl w).alloc _).alloc _).trans lo
  have HB1 : Hid (Buf w1 B l) := Lib.hid (lo_block lo' HB.out)
  have HL1 := Lib.hid lo'
  clear lo lo' HP
  have hcl : (Lib.byteCells l).toArray.size = n := by rw [← hn]; unfold Lib.byteCells; simp
  have hsz : (ByteArray.mk bs.toArray).size = size.natAbs := hbl
  have hC := Lib.run_copy_row_string w1 94 9 3 5 B pos (n - pos) (n - pos) ⟨bs.toArray⟩ (Lib.byteCells l).toArray 5 Try.underlying94 (by kernel_rfl) HB1.out (by rw [hsz]; omega) (by rw [hsz, hcl]; exact hfit)
  rw [show (ByteArray.mk bs.toArray).data.toList = bs from rfl, show (ByteArray.mk bs.toArray).size = bs.length from rfl, cells_over] at hC
  obtain ⟨hs1, hs2⟩ := setRow_block w1 B _ (Lib.byteCells (He.over l pos bs)).toArray _ HB1.out
  have HE1 : Hid (Buf (w1.setRow B (Lib.byteCells (He.over l pos bs)).toArray) B (He.over l pos bs)) := Lib.hid hs1
  have HE2 := Lib.hid ((Kept.of_lo HL1.out).trans hs2)
  clear hs1 hs2
  go_wp2_with fail
  go_end0
  exact ⟨rfl, HE1.out, HE2.out⟩
end Go.Proofs.Ytbcilhdamjgoeaa
