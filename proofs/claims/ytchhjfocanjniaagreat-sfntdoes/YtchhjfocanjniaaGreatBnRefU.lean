/-
  Contracts of the document's answers for layer 3: Up, Sum of the references. No conditions beyond those stated.
-/
import Derived.Test.YtchhjfocanjniaaGreatBnRefP
namespace Bn
theorem chunks_four (v : Nat) (l : List UInt8) (h : 4 ≤ l.length) : chunks v l = chunks ((v + be (l.take 4)) % 4294967296) (l.drop 4) := by
  match l, h with
  | a :: b :: c :: d :: r, _ => rfl
theorem one_four (l : List UInt8) : one l 4 = be l := by unfold one; rw [if_neg (by rintro ⟨h, _⟩; omega)]
end Bn
namespace Go.Proofs.YtchhjfocanjniaaGreat
open Go.RowKit

set_option maxHeartbeats 800000 in
theorem rup_any (l : List UInt8) (n : Nat) (w : World) (h1 : 1 ≤ n) (h2 : n ≤ 64) (hl : l.length ≤ 1000000) :
    Calls Tryz.prog 34 #[.string ⟨l.toArray⟩, .int .i64 n] w fun e w' => e = .returned (.string ⟨(Bn.up l n).toArray⟩) ∧ w = w' := by
  generalize hy : Bn.up l n = y
  have hyl : y.length ≤ 1000064 := by
    rw [← hy, Bn.up_len]
    have := Nat.mod_lt (n - l.length % n) (show 0 < n by omega)
    omega
  have HY := Lib.hid hy
  clear hy
  have hnz : ¬ (n : Int) = 0 := by omega
  go_enter Tryz.func34, Tryz.ntmps34
  go_wp2_with fail
  go_loop [0] (fun s => ∃ m : List UInt8, s = .string ⟨m.toArray⟩ ∧ m.length ≤ y.length ∧ Hid (Bn.up m n = y)) (fun s => match s with | .string b => y.length - b.size | _ => 0)
  case atStart => exact ⟨l, rfl, by rw [← HY.out, Bn.up_len]; omega, HY⟩
  case round =>
    obtain ⟨m, rfl, hm, HU⟩ := hrel
    by_cases h0 : m.length % n = 0
    · have hr : (m.length : Int) % (n : Int) = 0 := by
        have : ((m.length % n : Nat) : Int) = 0 := by rw [h0]; rfl
        rwa [Int.natCast_emod] at this
      have HE : Hid (m = y) := Lib.hid (by rw [← HU.out, Bn.up_done m n h0])
      clear h0
      go_wp2_with fail
      go_ret
      exact ⟨ret_str (by rw [HE.out]), rfl⟩
    · have HS := Lib.hid (Bn.up_step m n (by omega) h0)
      have hlt : m.length + 1 ≤ y.length := by
        have := HU.out
        rw [← HS.out] at this
        rw [← this, Bn.up_len, List.length_append, List.length_singleton]; omega
      generalize hr0 : m.length % n = r at *
      have hr : (m.length : Int) % (n : Int) = r := by rw [← hr0, Int.natCast_emod]
      have hrz : ((r : Int) == 0) = false := by simp; omega
      clear hr0
      go_wp2_with fail
      go_round
      case rel => exact ⟨m ++ [0], congrArg Value.string (Gk.cat_list m [0]), by simp; omega, Lib.hid (by rw [HS.out]; exact HU.out)⟩
      case measure =>
        have hs : (⟨m.toArray⟩ : ByteArray).size = m.length := rfl
        have hs1 : (⟨#[0]⟩ : ByteArray).size = 1 := rfl
        simp
        omega

set_option maxHeartbeats 800000 in
theorem rsum_any (l : List UInt8) (w : World) (hl : l.length ≤ 1000000) :
    Calls Tryz.prog 37 #[.string ⟨l.toArray⟩] w fun e w' => e = .returned (.int .i64 (Bn.sum l : Nat)) ∧ w = w' := by
  have HU := Lib.hid (fun W => rup_any l 4 W (by omega) (by omega) hl)
  have hm4 := Bn.up_mod l 4 (by omega)
  have hul : (Bn.up l 4).length ≤ 1000004 := by rw [Bn.up_len]; omega
  generalize hy : Bn.sum l = y
  unfold Bn.sum at hy
  generalize Bn.up l 4 = s at *
  have HY := Lib.hid hy
  clear hy
  go_enter Tryz.func37, Tryz.ntmps37
  go_wp2_with fail
  refine (HU.out _).mono ?_
  rintro e w1 ⟨rfl, rfl⟩
  go_wp2_with fail
  go_loop [3, 4] (fun v i => ∃ k x : Nat, k ≤ s.length ∧ k % 4 = 0 ∧ x < 4294967296 ∧ i = .int .i64 k ∧ v = .int .i64 x ∧ Hid (Bn.chunks x (s.drop k) = y)) (fun _ i => s.length - (intOf i).toNat)
  case atStart => exact ⟨0, 0, Nat.zero_le _, rfl, by omega, rfl, rfl, Lib.hid (by rw [List.drop_zero]; exact HY.out)⟩
  case round =>
    obtain ⟨k, x, hk, hk4, hx, rfl, rfl, HC⟩ := hrel
    by_cases hlt : k < s.length
    · have hk4' : k + 4 ≤ s.length := by omega
      have hx1 : (⟨s.toArray⟩ : ByteArray).extract k (k + 4) = ⟨((s.drop k).take 4).toArray⟩ := by rw [Gk.extract_list, Nat.add_sub_cancel_left]
      have HF : Hid (Bn.chunks x (s.drop k) = Bn.chunks ((x + Bn.be ((s.drop k).take 4)) % 4294967296) (s.drop (k + 4))) := Lib.hid (by rw [Bn.chunks_four x (s.drop k) (by simp; omega), List.drop_drop])
      have HO := Lib.hid (fun W => rone_any ((s.drop k).take 4) 4 W (by simp; omega))
      rw [Bn.one_four] at HO
      have hbe : Bn.be ((s.drop k).take 4) < 4294967296 := by
        have := Bn.be_lt ((s.drop k).take 4)
        exact Nat.lt_of_lt_of_le this (Nat.le_trans (Nat.pow_le_pow_right (by omega) (show ((s.drop k).take 4).length ≤ 4 by simp; omega)) (by decide))
      generalize (s.drop k).take 4 = t at *
      generalize Bn.be t = b at *
      go_wp2_with fail
      refine (HO.out _).mono ?_
      rintro e w1 ⟨rfl, rfl⟩
      go_wp2_with fail
      go_round
      case rel => exact ⟨k + 4, (x + b) % 4294967296, by omega, by omega, by omega, by go_num, by go_num, Lib.hid (by rw [← HF.out]; exact HC.out)⟩
      case measure => simp [intOf]; omega
    · have HE : Hid (x = y) := Lib.hid (by
        have := HC.out
        rw [List.drop_of_length_le (by omega)] at this
        exact this)
      go_wp2_with fail
      go_ret
      exact ⟨ret_int (by rw [HE.out]), rfl⟩
end Go.Proofs.YtchhjfocanjniaaGreat
