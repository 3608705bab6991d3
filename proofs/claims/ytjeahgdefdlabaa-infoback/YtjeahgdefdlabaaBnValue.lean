/-
  Contracts of package bin's value (a field's bytes as a number) and piece (some bytes, or an error raised). No conditions beyond those stated.
-/
import Derived.Test.YtjeahgdefdlabaaBnBase
namespace Bn
open Go
theorem or_nat (a b : Nat) (ha : a < 4611686018427387904) (hb : b < 4611686018427387904) : bits .or .i64 (a : Int) (b : Int) = ((a ||| b : Nat) : Int) := by
  have hx : a ||| b < 2 ^ 62 := Nat.or_lt_two_pow (n := 62) (by omega) (by omega)
  show IntKind.i64.wrap ((BitVec.ofInt 64 (a : Int) ||| BitVec.ofInt 64 (b : Int)).toNat : Int) = _
  rw [BitVec.toNat_or, ofInt_u64 a (by omega), ofInt_u64 b (by omega), IntKind.wrap_i64]
  omega
theorem or_byte (v : Nat) (c : UInt8) (hv : v < 1099511627776) : bits .or .i64 ((v : Int) * 256) (c.toNat : Int) = ((256 * v + c.toNat : Nat) : Int) := by
  have hc : c.toNat < 256 := UInt8.toNat_lt c
  rw [show (v : Int) * 256 = ((256 * v : Nat) : Int) by omega, or_nat _ _ (by omega) (by omega), nat_join 8 _ _ (by omega) (by omega)]
/-- Where a field's number does not fit as it stands, it is one below 0. -/
theorem one_of_fits (l : List UInt8) (size : Int) (hs : isSize size = true) (hl : l.length = size.natAbs) : one l size = if fits (be l) size = true then (be l : Int) else (be l : Int) - ((256 ^ size.natAbs : Nat) : Int) := by
  obtain ⟨w1, w2⟩ := isSize_wide hs
  have hh := pow_half size.natAbs w1
  have hb := be_lt l
  unfold fits one
  rw [hl] at hb ⊢
  generalize 256 ^ size.natAbs / 2 = hf at *
  generalize 256 ^ size.natAbs = P at *
  by_cases hn : size < 0
  · rw [if_pos hn]
    by_cases hc : hf ≤ be l
    · rw [if_pos ⟨hn, hc⟩, if_neg]; simp only [Bool.and_eq_true, decide_eq_true_eq]; omega
    · rw [if_neg (fun h => hc h.2), if_pos]; simp only [Bool.and_eq_true, decide_eq_true_eq]; omega
  · rw [if_neg hn, if_neg (fun h => hn h.1), if_pos]; simp only [Bool.and_eq_true, decide_eq_true_eq]; omega
theorem be_take (l : List UInt8) (k : Nat) (h : k < l.length) : be (l.take (k + 1)) = 256 * be (l.take k) + (l.getD k 0).toNat := by
  rw [Gk.take_snoc l k h, be_snoc]
theorem be_take_lt (l : List UInt8) (k : Nat) : be (l.take k) < 256 ^ k := by
  have := be_lt (l.take k)
  exact Nat.lt_of_lt_of_le this (Nat.pow_le_pow_right (by omega) (by simp; omega))
end Bn
namespace Go.Proofs.Ytjeahgdefdlabaa
open Go.RowKit

set_option maxHeartbeats 800000 in
theorem value_some (l : List UInt8) (size P : Int) (n : Nat) (w : World) (hl : l.length = n) (hn : n ≤ 4) (hs : Bn.isSize size = true)
    (hp : (2 : Int) ^ (8 * n) = P) (hP : 0 ≤ P ∧ P ≤ 4294967296) :
    Calls Try.prog 38 #[.string ⟨l.toArray⟩, .int .i64 size] w fun e w' => e = .returned (.int .i64 (if Bn.fits (Bn.be l) size = true then (Bn.be l : Int) else (Bn.be l : Int) - P)) ∧ w = w' := by
  have HN : Hid (l.length = n) := Lib.hid hl
  have HPP := Lib.hid hp
  clear hp
  obtain ⟨hP0, hP1⟩ := hP
  generalize hy : (if Bn.fits (Bn.be l) size = true then (Bn.be l : Int) else (Bn.be l : Int) - P) = y
  have HY := Lib.hid hy
  clear hy
  go_enter Try.func38, Try.ntmps38
  go_wp2_with fail
  go_loop [5, 6, 9] (fun s _ i => ∃ k v : Nat, k ≤ n ∧ i = .int .i64 k ∧ s = .int .i64 v ∧ Hid (v = Bn.be (l.take k))) (fun _ _ i => n - (intOf i).toNat)
  case atStart => exact ⟨0, 0, Nat.zero_le _, rfl, rfl, Lib.hid rfl⟩
  case round =>
    obtain ⟨k, v, hk, rfl, rfl, HV⟩ := hrel
    have hv : v < 1099511627776 := by
      rw [HV.out]
      refine Nat.lt_of_lt_of_le (Bn.be_take_lt l k) (Nat.le_trans (Nat.pow_le_pow_right (by omega) (show k ≤ 5 by omega)) (by decide))
    by_cases hlt : k < n
    · have HK : Hid (k < l.length) := Lib.hid (by rw [HN.out]; exact hlt)
      have hc := ba_get l k
      have HB := Lib.hid (Bn.be_take l k HK.out)
      generalize l.getD k 0 = c at *
      have hor := Bn.or_byte v c hv
      have hc2 : c.toNat < 256 := UInt8.toNat_lt c
      go_wp2_with fail
      go_round
      case rel => exact ⟨k + 1, 256 * v + c.toNat, by omega, by go_num, rfl, Lib.hid (by rw [HB.out, HV.out])⟩
      case measure => simp [intOf]; omega
    · have HE : Hid (l.take k = l) := Lib.hid (List.take_of_length_le (by rw [HN.out]; omega))
      have HV2 : Hid (Bn.be l = v) := Lib.hid (by rw [HV.out, HE.out])
      have hy := HY.out
      rw [HV2.out] at hy
      clear HV HE HY
      by_cases hf : Bn.fits v size = true
      · rw [if_pos hf] at hy
        have HF := Lib.hid hf
        have HY := Lib.hid hy
        clear hf hy
        go_wp2_with fail
        refine (fits_any v size _ hs).mono ?_
        rw [HF.out]
        rintro e w1 ⟨rfl, rfl⟩
        go_wp2_with fail
        go_ret
        exact ⟨ret_int HY.out, rfl⟩
      · rw [if_neg hf] at hy
        have HF := Lib.hid (show Bn.fits v size = false by simpa using hf)
        have HY := Lib.hid hy
        clear hf hy
        go_wp2_with fail
        refine (fits_any v size _ hs).mono ?_
        rw [HF.out]
        rintro e w1 ⟨rfl, rfl⟩
        go_wp2_with fail
        go_ret
        refine ⟨ret_int ?_, rfl⟩
        rw [HPP.out, ← HY.out, wrap_id (n := P) (by omega) (by omega), wrap_id (by omega) (by omega)]

theorem value_any (l : List UInt8) (size : Int) (w : World) (hs : Bn.isSize size = true) (hl : l.length = size.natAbs) :
    Calls Try.prog 38 #[.string ⟨l.toArray⟩, .int .i64 size] w fun e w' => e = .returned (.int .i64 (Bn.one l size)) ∧ w = w' := by
  rw [Bn.one_of_fits l size hs hl]
  refine value_some l size _ size.natAbs w hl (Bn.isSize_wide hs).2 hs ?_ ?_
  · rcases Bn.size_cases hs with rfl | rfl | rfl | rfl | rfl | rfl | rfl | rfl <;> decide
  · rcases Bn.size_cases hs with rfl | rfl | rfl | rfl | rfl | rfl | rfl | rfl <;> decide

theorem ret_str {a b : ByteArray} (h : a = b) : Ending.returned (.string a) = .returned (.string b) := by rw [h]

set_option maxHeartbeats 400000 in
theorem piece_ret (l : List UInt8) (pos n : Nat) (w : World) (h : pos + n ≤ l.length) (hl : l.length ≤ 9223372036854775807) :
    Calls Try.prog 36 #[.string ⟨l.toArray⟩, .int .i64 pos, .int .i64 n] w fun e w' => e = .returned (.string ⟨((l.drop pos).take n).toArray⟩) ∧ w = w' := by
  go_enter Try.func36, Try.ntmps36
  go_wp2
  go_ret
  exact ⟨ret_str (by rw [Gk.extract_list, Nat.add_sub_cancel_left]), rfl⟩

set_option maxHeartbeats 400000 in
theorem piece_raise (l : List UInt8) (pos : Int) (n : Int) (w : World) (h0 : 0 ≤ pos) (h1 : pos ≤ 9223372036854775807) (h : (l.length : Int) - pos < n) (hl : l.length ≤ 9223372036854775807) :
    Calls Try.prog 36 #[.string ⟨l.toArray⟩, .int .i64 pos, .int .i64 n] w fun e w' => e = .panicked (raise 4) ∧ w = w' := by
  go_enter Try.func36, Try.ntmps36
  go_wp2
  exact ⟨rfl, rfl, rfl⟩
end Go.Proofs.Ytjeahgdefdlabaa
