/-
  The contracts of dimen's digits and Text. No conditions but that the package variable of powers of ten reads as it is laid.
-/
import Derived.Test.YtlfhnldeidgkjaaDoorDmPow
namespace Dm
open Go
theorem fraction_le (p k : Nat) (hp : p < 65536) (hk : k ≤ 5) : fraction p k ≤ 10 ^ k ∧ 10 ^ k ≤ 100000 := by
  have h1 : 10 ^ k ≤ 10 ^ 5 := Nat.pow_le_pow_right (by omega) hk
  refine ⟨?_, by omega⟩
  unfold fraction
  have hpos : 0 < 10 ^ k := Nat.pow_pos (by omega)
  generalize 10 ^ k = t at *
  have h2 : 2 * p * t ≤ 131070 * t := Nat.mul_le_mul_right _ (by omega)
  omega
theorem extract_list (l : List UInt8) (a b : Nat) : (⟨l.toArray⟩ : ByteArray).extract a b = ⟨((l.drop a).take (b - a)).toArray⟩ := by
  apply ByteArray.ext
  simp [ByteArray.data_extract, List.extract_eq_take_drop]
theorem extract_from (l : List UInt8) (a : Nat) : (⟨l.toArray⟩ : ByteArray).extract a l.length = ⟨(l.drop a).toArray⟩ := by
  rw [extract_list, List.take_of_length_le (by simp)]
theorem decDigits_ne (n : Nat) : 1 ≤ (Lib.decDigits n).length := by
  rw [Lib.decDigits_eq]; simp [Lib.nDigits_pos]
end Dm
namespace Go.Proofs.YtlfhnldeidgkjaaDoor
open Go.RowKit

set_option maxHeartbeats 400000 in
theorem digits_any (p : Nat) (w : World) (hp : p < 65536) (ht : Tab w) :
    Calls Tryd.prog 32 #[.int .i64 p] w fun e w' => e = .returned (.string ⟨(Dm.digits p).toArray⟩) ∧ Lo w w' := by
  have HT := Lib.hid ht
  clear ht
  obtain ⟨hc1, hc2⟩ := Dm.count_bd p
  go_enter Tryd.func32, Tryd.ntmps32
  go_wp2_with fail
  go_loop [3] (fun i => ∃ c : Nat, 1 ≤ c ∧ c ≤ Dm.count p ∧ i = .int .i64 c) (fun i => Dm.count p - (intOf i).toNat)
  case atStart => exact ⟨1, by omega, by omega, rfl⟩
  case round =>
    obtain ⟨c, h1, h2, rfl⟩ := hrel
    obtain ⟨hf1, hf2⟩ := Dm.fraction_le p c hp (by omega)
    by_cases hlt : c < Dm.count p
    · have hne := Dm.count_least p c h1 hlt
      have HF := Lib.hid (fun W => fraction_any p c W (by omega) hp)
      have HS := Lib.hid (fun W => scaled_any (Dm.fraction p c) c W (by omega) (by omega))
      generalize Dm.fraction p c = f at *
      generalize Dm.scaled f c = g at *
      have hne' : ((g : Int) != (p : Int)) = true := by simp; omega
      clear hf1 hf2
      go_wp2_with fail
      refine (HF.out _).mono ?_
      rintro e w' ⟨rfl, rfl⟩
      go_wp2_with fail
      refine (HS.out _).mono ?_
      rintro e w' ⟨rfl, rfl⟩
      go_wp2_with fail
      go_round
      case rel => exact ⟨c + 1, by omega, by omega, by go_num⟩
      case measure => simp [intOf]; omega
    · obtain rfl : c = Dm.count p := by omega
      have hne := Dm.ok_count p
      have HD : Hid (Dm.digits p = (Lib.decDigits (10 ^ Dm.count p + Dm.fraction p (Dm.count p))).drop 1) := Lib.hid rfl
      have HF := Lib.hid (fun W => fraction_any p (Dm.count p) W (by omega) hp)
      have HS := Lib.hid (fun W => scaled_any (Dm.fraction p (Dm.count p)) (Dm.count p) W (by omega) (by omega))
      have HP := Lib.hid (fun W => power_any (Dm.count p) (10 ^ Dm.count p) W (by omega) rfl)
      generalize Dm.count p = c at *
      generalize Dm.fraction p c = f at *
      generalize Dm.scaled f c = g at *
      generalize 10 ^ c = t at *
      have hne' : ((g : Int) != (p : Int)) = false := by simp; omega
      clear hne h2 hlt
      go_wp2_with fail
      refine (HF.out _).mono ?_
      rintro e w' ⟨rfl, rfl⟩
      go_wp2_with fail
      refine (HS.out _).mono ?_
      rintro e w' ⟨rfl, rfl⟩
      go_wp2_with fail
      refine (HP.out _).mono ?_
      rintro e w' ⟨rfl, rfl⟩
      go_wp2_with fail
      refine (HF.out _).mono ?_
      rintro e w' ⟨rfl, rfl⟩
      go_wp2_with fail
      rw [show (t : Int) + (f : Int) = ((t + f : Nat) : Int) by omega]
      refine (format_any (t + f) _ (by omega) HT.out).mono ?_
      rintro e w1 ⟨rfl, hlo⟩
      have hl := Dm.decDigits_ne (t + f)
      generalize Lib.decDigits (t + f) = l at *
      go_wp2_with fail
      go_ret
      refine ⟨?_, hlo⟩
      rw [HD.out]
      exact congrArg (fun s => Ending.returned (Value.string s)) (Dm.extract_from l 1)
end Go.Proofs.YtlfhnldeidgkjaaDoor
