/-
  The contract of the document's answer for layer 3, Bytes. No conditions beyond those stated.
-/
import Derived.Test.YtjeahgdefdlabaaBnRefP
namespace Bn
theorem bytes_eq (v : Int) (n : Nat) : bytes v n = tail n (if v < 0 then v + ((256 ^ n : Nat) : Int) else v).toNat := rfl
end Bn
namespace Go.Proofs.Ytjeahgdefdlabaa
open Go.RowKit

set_option maxHeartbeats 800000 in
/-- The loop of Bytes, from a number that is not below 0 on. -/
theorem rbytes_pos (u n : Nat) (w : World) (hn : n ≤ 4) (hu : u < 4294967296) :
    Calls Try.prog 24 #[.int .i64 u, .int .i64 n] w fun e w' => e = .returned (.string ⟨(Bn.tail n u).toArray⟩) ∧ Lo w w' := by
  have h0 : ¬ (u : Int) < 0 := by omega
  go_enter Try.func24, Try.ntmps24
  go_wp2_with fail
  go_loopw [0, 5, 6] (fun a o i W => ∃ (k m : Nat) (l : List UInt8), k ≤ n ∧ i = .int .i64 k ∧ a = .int .i64 m ∧ o = .string ⟨l.toArray⟩ ∧ Hid (m = u / 256 ^ k) ∧ Hid (l = Bn.tail k u) ∧ Lo w W) (fun _ _ i _ => n - (intOf i).toNat)
  case atStart => exact ⟨0, u, [], Nat.zero_le _, rfl, rfl, rfl, Lib.hid (by simp), Lib.hid rfl, Lo.refl _⟩
  case round =>
    obtain ⟨k, m, l, hk, rfl, rfl, rfl, Hmo, Hl, hlo⟩ := hrel
    have hmb : m < 4294967296 := by rw [Hmo.out]; exact Nat.lt_of_le_of_lt (Nat.div_le_self _ _) hu
    have hll : l.length ≤ 4 := by rw [Hl.out, Bn.tail_len]; omega
    by_cases hlt : k < n
    · have hone : ∀ W : World, (convert 67 9 (.slice (some ⟨W.heap.size, 0, none⟩) 1 1)).run Try.prog (W.alloc (.cells #[.int .u8 ((m : Int) % 256)] 5)) = .ok (.string ⟨[UInt8.ofNat ((m : Int) % 256).toNat].toArray⟩) (W.alloc (.cells #[.int .u8 ((m : Int) % 256)] 5)) := fun W => one_byte W _ (by omega) (by omega)
      go_wp2_with fail
      exact ⟨⟨k + 1, m / 256, UInt8.ofNat (m % 256) :: l, by omega, by go_num, by go_num, congrArg Value.string (Gk.cat_list [UInt8.ofNat (m % 256)] l), Lib.hid (by rw [Hmo.out, Nat.pow_succ, Nat.div_div_eq_div_mul]), Lib.hid (by rw [Bn.tail_cons, Bn.dig, Hmo.out, Hl.out]), hlo.alloc _⟩, by simp [intOf]; omega⟩
    · obtain rfl : k = n := by omega
      go_wp2_with fail
      go_ret
      exact ⟨congrArg (fun l : List UInt8 => Ending.returned (Value.string ⟨l.toArray⟩)) Hl.out, hlo⟩

set_option maxHeartbeats 800000 in
theorem rbytes_neg (x : Int) (u n : Nat) (w : World) (hn : n ≤ 4) (hu : u < 4294967296) (h0 : x < 0) (hx : x + ((256 ^ n : Nat) : Int) = u) (_hP1 : 256 ^ n ≤ 4294967296) :
    Calls Try.prog 24 #[.int .i64 x, .int .i64 n] w fun e w' => e = .returned (.string ⟨(Bn.tail n u).toArray⟩) ∧ Lo w w' := by
  have HP := Lib.hid (fun W => rpower_any n W hn)
  generalize 256 ^ n = P at *
  go_enter Try.func24, Try.ntmps24
  go_wp2_with fail
  refine (HP.out _).mono ?_
  rintro e w1 ⟨rfl, rfl⟩
  go_wp2_with fail
  go_loopw [0, 5, 6] (fun a o i W => ∃ (k m : Nat) (l : List UInt8), k ≤ n ∧ i = .int .i64 k ∧ a = .int .i64 m ∧ o = .string ⟨l.toArray⟩ ∧ Hid (m = u / 256 ^ k) ∧ Hid (l = Bn.tail k u) ∧ Lo w W) (fun _ _ i _ => n - (intOf i).toNat)
  case atStart => exact ⟨0, u, [], Nat.zero_le _, rfl, congrArg (Value.int .i64) (by omega), rfl, Lib.hid (by simp), Lib.hid rfl, Lo.refl _⟩
  case round =>
    obtain ⟨k, m, l, hk, rfl, rfl, rfl, Hmo, Hl, hlo⟩ := hrel
    have hmb : m < 4294967296 := by rw [Hmo.out]; exact Nat.lt_of_le_of_lt (Nat.div_le_self _ _) hu
    have hll : l.length ≤ 4 := by rw [Hl.out, Bn.tail_len]; omega
    by_cases hlt : k < n
    · have hone : ∀ W : World, (convert 67 9 (.slice (some ⟨W.heap.size, 0, none⟩) 1 1)).run Try.prog (W.alloc (.cells #[.int .u8 ((m : Int) % 256)] 5)) = .ok (.string ⟨[UInt8.ofNat ((m : Int) % 256).toNat].toArray⟩) (W.alloc (.cells #[.int .u8 ((m : Int) % 256)] 5)) := fun W => one_byte W _ (by omega) (by omega)
      go_wp2_with fail
      exact ⟨⟨k + 1, m / 256, UInt8.ofNat (m % 256) :: l, by omega, by go_num, by go_num, congrArg Value.string (Gk.cat_list [UInt8.ofNat (m % 256)] l), Lib.hid (by rw [Hmo.out, Nat.pow_succ, Nat.div_div_eq_div_mul]), Lib.hid (by rw [Bn.tail_cons, Bn.dig, Hmo.out, Hl.out]), hlo.alloc _⟩, by simp [intOf]; omega⟩
    · obtain rfl : k = n := by omega
      go_wp2_with fail
      go_ret
      exact ⟨congrArg (fun l : List UInt8 => Ending.returned (Value.string ⟨l.toArray⟩)) Hl.out, hlo⟩

theorem rbytes_any (x z : Int) (w : World) (hz : Bn.isSize z = true) (hf : Bn.fits x z = true) :
    Calls Try.prog 24 #[.int .i64 x, .int .i64 z.natAbs] w fun e w' => e = .returned (.string ⟨(Bn.bytes x z.natAbs).toArray⟩) ∧ Lo w w' := by
  have h4 := (Bn.isSize_wide hz).2
  have hP1 : 256 ^ z.natAbs ≤ 4294967296 := Nat.le_trans (Nat.pow_le_pow_right (by omega) h4) (by decide)
  have hge := Bn.fits_ge hf
  have hlt : x < ((256 ^ z.natAbs : Nat) : Int) := by
    unfold Bn.fits at hf
    generalize 256 ^ z.natAbs = P at *
    by_cases h : z < 0
    · rw [if_pos h] at hf; simp only [Bool.and_eq_true, decide_eq_true_eq] at hf; omega
    · rw [if_neg h] at hf; simp only [Bool.and_eq_true, decide_eq_true_eq] at hf; omega
  rw [Bn.bytes_eq]
  by_cases h0 : x < 0
  · rw [if_pos h0]
    exact rbytes_neg x _ z.natAbs w h4 (by omega) h0 (by omega) hP1
  · rw [if_neg h0]
    obtain ⟨u, rfl⟩ := Int.eq_ofNat_of_zero_le (show 0 ≤ x by omega)
    rw [Int.toNat_natCast]
    exact rbytes_pos u z.natAbs w h4 (by omega)
end Go.Proofs.Ytjeahgdefdlabaa
