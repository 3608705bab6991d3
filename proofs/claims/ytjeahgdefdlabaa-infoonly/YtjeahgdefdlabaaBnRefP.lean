/-
  Contracts of the document's answers for layer 3: Power and One. No conditions beyond those stated.
-/
import Derived.Test.YtjeahgdefdlabaaBnPut
namespace Go.Proofs.Ytjeahgdefdlabaa
open Go.RowKit

set_option maxHeartbeats 400000 in
theorem rpower_any (n : Nat) (w : World) (hn : n ≤ 4) : Calls Try.prog 44 #[.int .i64 n] w fun e w' => e = .returned (.int .i64 (256 ^ n : Nat)) ∧ w = w' := by
  go_enter Try.func44, Try.ntmps44
  go_wp2_with fail
  go_loop [3, 4] (fun s i => ∃ k v : Nat, k ≤ n ∧ i = .int .i64 k ∧ s = .int .i64 v ∧ Hid (v = 256 ^ k)) (fun _ i => n - (intOf i).toNat)
  case atStart => exact ⟨0, 1, Nat.zero_le _, rfl, rfl, Lib.hid rfl⟩
  case round =>
    obtain ⟨k, v, hk, rfl, rfl, HV⟩ := hrel
    have hv : v ≤ 4294967296 := by
      rw [HV.out]
      exact Nat.le_trans (Nat.pow_le_pow_right (by omega) (show k ≤ 4 by omega)) (by decide)
    by_cases hlt : k < n
    · go_wp2_with fail
      go_round
      case rel => exact ⟨k + 1, 256 * v, by omega, by go_num, by go_num, Lib.hid (by rw [Nat.pow_succ, HV.out, Nat.mul_comm])⟩
      case measure => simp [intOf]; omega
    · obtain rfl : k = n := by omega
      go_wp2_with fail
      go_ret
      exact ⟨ret_int (by rw [HV.out]; simp), rfl⟩

set_option maxHeartbeats 800000 in
theorem rone_any (l : List UInt8) (size : Int) (w : World) (hl : l.length ≤ 4) :
    Calls Try.prog 19 #[.string ⟨l.toArray⟩, .int .i64 size] w fun e w' => e = .returned (.int .i64 (Bn.one l size)) ∧ w = w' := by
  generalize hy : Bn.one l size = y
  have HY := Lib.hid hy
  clear hy
  have HP := Lib.hid (fun W => rpower_any l.length W hl)
  have hP1 : 256 ^ l.length ≤ 4294967296 := Nat.le_trans (Nat.pow_le_pow_right (by omega) hl) (by decide)
  have HBE := Lib.hid (Bn.be_lt l)
  have HYD : Hid (y = if size < 0 ∧ 256 ^ l.length / 2 ≤ Bn.be l then (Bn.be l : Int) - ((256 ^ l.length : Nat) : Int) else (Bn.be l : Int)) := Lib.hid (by rw [← HY.out]; rfl)
  clear HY
  generalize 256 ^ l.length = P at *
  go_enter Try.func19, Try.ntmps19
  go_wp2_with fail
  go_loop [5, 6] (fun s i => ∃ k v : Nat, k ≤ l.length ∧ i = .int .i64 k ∧ s = .int .i64 v ∧ Hid (v = Bn.be (l.take k))) (fun _ i => l.length - (intOf i).toNat)
  case atStart => exact ⟨0, 0, Nat.zero_le _, rfl, rfl, Lib.hid rfl⟩
  case round =>
    obtain ⟨k, v, hk, rfl, rfl, HV⟩ := hrel
    have hv : v < 1099511627776 := by
      rw [HV.out]
      refine Nat.lt_of_lt_of_le (Bn.be_take_lt l k) (Nat.le_trans (Nat.pow_le_pow_right (by omega) (show k ≤ 5 by omega)) (by decide))
    by_cases hlt : k < l.length
    · have hc := ba_get l k
      have HB := Lib.hid (Bn.be_take l k hlt)
      generalize l.getD k 0 = c at *
      have hc2 : c.toNat < 256 := UInt8.toNat_lt c
      go_wp2_with fail
      go_round
      case rel => exact ⟨k + 1, 256 * v + c.toNat, by omega, by go_num, by go_num, Lib.hid (by rw [HB.out, HV.out])⟩
      case measure => simp [intOf]; omega
    · have HV2 : Hid (Bn.be l = v) := Lib.hid (by rw [HV.out, List.take_of_length_le (by omega)])
      have hy := HYD.out
      rw [HV2.out] at hy
      by_cases hs : size < 0
      · by_cases hc : P / 2 ≤ v
        · rw [if_pos ⟨hs, hc⟩] at hy
          have HY := Lib.hid hy
          clear hy HYD
          go_wp2_with fail
          refine (HP.out _).mono ?_
          rintro e w1 ⟨rfl, rfl⟩
          go_wp2_with fail
          refine (HP.out _).mono ?_
          rintro e w1 ⟨rfl, rfl⟩
          go_wp2_with fail
          go_ret
          exact ⟨ret_int (by rw [HY.out]), rfl⟩
        · rw [if_neg (fun h => hc h.2)] at hy
          have HY := Lib.hid hy
          clear hy HYD
          go_wp2_with fail
          refine (HP.out _).mono ?_
          rintro e w1 ⟨rfl, rfl⟩
          go_wp2_with fail
          go_ret
          exact ⟨ret_int (by rw [HY.out]), rfl⟩
      · rw [if_neg (fun h => hs h.1)] at hy
        have HY := Lib.hid hy
        clear hy HYD
        go_wp2_with fail
        go_ret
        exact ⟨ret_int (by rw [HY.out]), rfl⟩
end Go.Proofs.Ytjeahgdefdlabaa
