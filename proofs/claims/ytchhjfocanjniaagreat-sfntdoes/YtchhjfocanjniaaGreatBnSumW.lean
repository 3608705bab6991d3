/-
  The contracts of bin.Sum and bin.Pad: they answer what the plain functions on bytes say. No conditions beyond those stated.
-/
import Derived.Test.YtchhjfocanjniaaGreatBnPieceW
import Derived.Test.YtchhjfocanjniaaGreatShelf
namespace Bn
/-- Byte by byte, each at its place. -/
def ps : Nat → Nat → List UInt8 → Nat
  | _, v, [] => v
  | i, v, c :: r => ps (i + 1) ((v + c.toNat * 256 ^ (3 - i % 4)) % 4294967296) r
theorem ps_snoc : ∀ (l : List UInt8) (i v : Nat) (c : UInt8), ps i v (l ++ [c]) = (ps i v l + c.toNat * 256 ^ (3 - (i + l.length) % 4)) % 4294967296
  | [], i, v, c => by simp [ps]
  | d :: r, i, v, c => by
    rw [List.cons_append, ps, ps_snoc r, ps, List.length_cons, show i + 1 + r.length = i + (r.length + 1) by omega]
theorem ps_four : ∀ (l : List UInt8) (i v : Nat), ps (i + 4) v l = ps i v l
  | [], _, _ => rfl
  | c :: r, i, v => by rw [ps, ps, show i + 4 + 1 = (i + 1) + 4 by omega, ps_four r, show (i + 4) % 4 = i % 4 by omega]
theorem ps_lt : ∀ (l : List UInt8) (i v : Nat), v < 4294967296 → ps i v l < 4294967296
  | [], _, _, h => h
  | c :: r, i, v, _ => by rw [ps]; exact ps_lt r _ _ (Nat.mod_lt _ (by omega))
theorem ps_chunks : ∀ (l : List UInt8) (v : Nat), v < 4294967296 → ps 0 v l = chunks v (up l 4)
  | [], v, _ => rfl
  | [a], v, _ => by
    show (v + a.toNat * 256 ^ 3) % 4294967296 = (v + be [a, 0, 0, 0]) % 4294967296
    simp [be]; omega
  | [a, b], v, _ => by
    show ((v + a.toNat * 256 ^ 3) % 4294967296 + b.toNat * 256 ^ 2) % 4294967296 = (v + be [a, b, 0, 0]) % 4294967296
    simp [be]; omega
  | [a, b, c], v, _ => by
    show (((v + a.toNat * 256 ^ 3) % 4294967296 + b.toNat * 256 ^ 2) % 4294967296 + c.toNat * 256 ^ 1) % 4294967296 = (v + be [a, b, c, 0]) % 4294967296
    simp [be]; omega
  | a :: b :: c :: d :: r, v, _ => by
    have hu := up_append [a, b, c, d] r 4 (by simp)
    rw [show (a :: b :: c :: d :: r) = [a, b, c, d] ++ r from rfl, hu]
    show ps (0 + 4) ((((((v + a.toNat * 256 ^ 3) % 4294967296 + b.toNat * 256 ^ 2) % 4294967296 + c.toNat * 256 ^ 1) % 4294967296) + d.toNat * 256 ^ 0) % 4294967296) r = chunks ((v + be [a, b, c, d]) % 4294967296) (up r 4)
    rw [ps_four, ps_chunks r _ (Nat.mod_lt _ (by omega))]
    congr 1
    simp [be]; omega
theorem ps_sum (l : List UInt8) : ps 0 0 l = sum l := ps_chunks l 0 (by omega)
theorem ps_take (l : List UInt8) (k : Nat) (h : k < l.length) : ps 0 0 (l.take (k + 1)) = (ps 0 0 (l.take k) + (l.getD k 0).toNat * 256 ^ (3 - k % 4)) % 4294967296 := by
  rw [Gk.take_snoc l k h, ps_snoc, List.length_take, Nat.min_eq_left (by omega), Nat.zero_add]
theorem repeat_zero (n : Nat) : Go.Lib.repeatL [0] n = List.replicate n 0 := by
  have := Go.Lib.repeatL_replicate 0 1 n
  rw [Nat.mul_one] at this
  exact this
theorem up_some (l : List UInt8) (n : Nat) (h : l.length % n ≠ 0) (h0 : 0 < n) : up l n = l ++ List.replicate (n - l.length % n) 0 := by
  have := Nat.mod_lt l.length h0
  unfold up
  rw [Nat.mod_eq_of_lt (a := n - l.length % n) (by omega)]
end Bn
namespace Go.Proofs.YtchhjfocanjniaaGreat
open Go.RowKit

set_option maxHeartbeats 2000000 in
theorem bsum_any (l : List UInt8) (w : World) (hl : l.length ≤ 9223372036854775807) :
    Calls Tryz.prog 35 #[.string ⟨l.toArray⟩] w fun e w' => e = .returned (.int .i64 (Bn.sum l : Nat)) ∧ w = w' := by
  generalize hy : Bn.sum l = y
  have HY := Lib.hid hy
  clear hy
  go_enter Tryz.func35, Tryz.ntmps35
  go_wp2_with fail
  go_loop [3, 4, 7] (fun s _ i => ∃ k v : Nat, k ≤ l.length ∧ i = .int .i64 k ∧ s = .int .u32 v ∧ Hid (v = Bn.ps 0 0 (l.take k))) (fun _ _ i => l.length - (intOf i).toNat)
  case atStart => exact ⟨0, 0, Nat.zero_le _, rfl, rfl, Lib.hid rfl⟩
  case round =>
    obtain ⟨k, v, hk, rfl, rfl, HV⟩ := hrel
    have hv : v < 4294967296 := by rw [HV.out]; exact Bn.ps_lt _ _ _ (by omega)
    by_cases hlt : k < l.length
    · have hc := ba_get l k
      have HB := Lib.hid (Bn.ps_take l k hlt)
      generalize l.getD k 0 = c at *
      have hc2 : c.toNat < 256 := UInt8.toNat_lt c
      have h4 : k % 4 = 0 ∨ k % 4 = 1 ∨ k % 4 = 2 ∨ k % 4 = 3 := by omega
      rcases h4 with h4 | h4 | h4 | h4
      · have hm : (k : Int) % 4 = 0 := by omega
        have H4 := Lib.hid h4
        clear h4
        go_wp2_with fail
        go_round
        case rel => exact ⟨k + 1, (v + c.toNat * 16777216) % 4294967296, by omega, by go_num, congrArg (Value.int .u32) (by omega), Lib.hid (by rw [HB.out, HV.out, H4.out])⟩
        case measure => simp [intOf]; omega
      · have hm : (k : Int) % 4 = 1 := by omega
        have H4 := Lib.hid h4
        clear h4
        go_wp2_with fail
        go_round
        case rel => exact ⟨k + 1, (v + c.toNat * 65536) % 4294967296, by omega, by go_num, congrArg (Value.int .u32) (by omega), Lib.hid (by rw [HB.out, HV.out, H4.out])⟩
        case measure => simp [intOf]; omega
      · have hm : (k : Int) % 4 = 2 := by omega
        have H4 := Lib.hid h4
        clear h4
        go_wp2_with fail
        go_round
        case rel => exact ⟨k + 1, (v + c.toNat * 256) % 4294967296, by omega, by go_num, congrArg (Value.int .u32) (by omega), Lib.hid (by rw [HB.out, HV.out, H4.out])⟩
        case measure => simp [intOf]; omega
      · have hm : (k : Int) % 4 = 3 := by omega
        have H4 := Lib.hid h4
        clear h4
        go_wp2_with fail
        go_round
        case rel => exact ⟨k + 1, (v + c.toNat * 1) % 4294967296, by omega, by go_num, congrArg (Value.int .u32) (by omega), Lib.hid (by rw [HB.out, HV.out, H4.out])⟩
        case measure => simp [intOf]; omega
    · have HE : Hid (v = y) := Lib.hid (by rw [HV.out, List.take_of_length_le (by omega), Bn.ps_sum, HY.out])
      go_wp2_with fail
      go_ret
      exact ⟨ret_int (by rw [HE.out]), rfl⟩

set_option maxHeartbeats 400000 in
theorem pad_arg (l : List UInt8) (n : Int) (w : World) (h : n < 1 ∨ 64 < n) :
    Calls Tryz.prog 30 #[.string ⟨l.toArray⟩, .int .i64 n] w fun e w' => e = strErr ([], 1) ∧ Lo w w' := by
  by_cases hp : n < 1
  · clear h
    go_enter Tryz.func30, Tryz.ntmps30
    go_wp2_with fail
    go_ret2
    exact ⟨rfl, Lo.refl w⟩
  · have h2 : 64 < n := by omega
    clear h
    go_enter Tryz.func30, Tryz.ntmps30
    go_wp2_with fail
    go_ret2
    exact ⟨rfl, Lo.refl w⟩

set_option maxHeartbeats 400000 in
theorem pad_even (l : List UInt8) (n : Nat) (w : World) (h1 : 1 ≤ n) (h2 : n ≤ 64) (h : l.length % n = 0) (hl : l.length ≤ 4611686018427387904) :
    Calls Tryz.prog 30 #[.string ⟨l.toArray⟩, .int .i64 n] w fun e w' => e = strErr (l, 0) ∧ Lo w w' := by
  have hr : (l.length : Int) % (n : Int) = 0 := by have : ((l.length % n : Nat) : Int) = 0 := by rw [h]; rfl
                                                   rwa [Int.natCast_emod] at this
  have hnz : ¬ (n : Int) = 0 := by omega
  clear h
  go_enter Tryz.func30, Tryz.ntmps30
  go_wp2_with fail
  go_ret2
  exact ⟨rfl, Lo.refl w⟩

theorem ret_str2 {a b : ByteArray} {k : Int} (h : a = b) : Ending.returned (.tuple #[.string a, .int .i64 k]) = .returned (.tuple #[.string b, .int .i64 k]) := by rw [h]

set_option maxHeartbeats 800000 in
theorem pad_odd (l : List UInt8) (n r : Nat) (w : World) (h1 : 1 ≤ n) (h2 : n ≤ 64) (h : l.length % n = r) (h0 : r ≠ 0) (hl : l.length ≤ 4611686018427387904) :
    Calls Tryz.prog 30 #[.string ⟨l.toArray⟩, .int .i64 n] w fun e w' => e = strErr (l ++ List.replicate (n - r) 0, 0) ∧ Lo w w' := by
  have hr : (l.length : Int) % (n : Int) = r := by rw [← h, Int.natCast_emod]
  have hrn : r < n := by rw [← h]; exact Nat.mod_lt _ (by omega)
  have hnz : ¬ (n : Int) = 0 := by omega
  have hrz : ((r : Int) == 0) = false := by simp; omega
  have hsub : (n : Int) - r = ((n - r : Nat) : Int) := by omega
  have HR := Lib.hid (fun W : World => Tryz.strings_Repeat ⟨#[0]⟩ (n - r) W (by omega) (by show 1 * _ ≤ _; omega))
  have HS := Lib.hid hsub
  clear h hsub
  generalize hz : List.replicate (n - r) (0 : UInt8) = z
  have hlen : z.length ≤ 64 := by rw [← hz]; simp; omega
  have HZ := Lib.hid hz
  clear hz
  go_enter Tryz.func30, Tryz.ntmps30
  go_wp2_with fail
  rw [HS.out]
  refine (HR.out _).mono ?_
  rintro e w1 ⟨rfl, hlo⟩
  rw [show Lib.repeatL (ByteArray.mk #[0]).data.toList (n - r) = z from (Bn.repeat_zero _).trans HZ.out]
  go_wp2_with fail
  go_ret2
  exact ⟨ret_str2 (Gk.cat_list l z), hlo⟩

/-- bin.Pad. -/
theorem pad_any (l : List UInt8) (n : Int) (w : World) (hl : l.length ≤ 4611686018427387904) :
    Calls Tryz.prog 30 #[.string ⟨l.toArray⟩, .int .i64 n] w fun e w' => e = strErr (Bn.pad l n) ∧ Lo w w' := by
  unfold Bn.pad
  by_cases c0 : n < 1 ∨ 64 < n
  · rw [if_pos c0]; exact pad_arg l n w c0
  · rw [if_neg c0]
    obtain ⟨q, rfl⟩ := Int.eq_ofNat_of_zero_le (show 0 ≤ n by omega)
    rw [Int.toNat_natCast]
    by_cases hm : l.length % q = 0
    · rw [Bn.up_done l q hm]; exact pad_even l q w (by omega) (by omega) hm hl
    · rw [Bn.up_some l q hm (by omega)]; exact pad_odd l q _ w (by omega) (by omega) rfl hm hl
end Go.Proofs.YtchhjfocanjniaaGreat
