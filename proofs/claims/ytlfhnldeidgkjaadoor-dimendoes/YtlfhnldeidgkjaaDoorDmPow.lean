/-
  The contracts of dimen's power, scaled, fraction, digits, within and Text. No conditions but that the package variable of powers of ten reads as it is laid.
-/
import Derived.Test.YtlfhnldeidgkjaaDoorDmOf
import Derived.Test.YtlfhnldeidgkjaaDoorDmText
import Derived.Test.YtlfhnldeidgkjaaDoorShelf
import Derived.IntWalk
namespace Go.Proofs.YtlfhnldeidgkjaaDoor
open Go.RowKit

theorem wrap_id {n : Int} (h1 : -9223372036854775808 ≤ n) (h2 : n ≤ 9223372036854775807) : wrap64 n = n := by unfold wrap64; omega

set_option maxHeartbeats 400000 in
theorem power_any (k t : Nat) (w : World) (hk : k ≤ 10) (ht : t = 10 ^ k) :
    Calls Tryd.prog 51 #[.int .i64 k] w fun e w' => e = .returned (.int .i64 (t : Int)) ∧ w = w' := by
  have HT := Lib.hid ht
  clear ht
  go_enter Tryd.func51, Tryd.ntmps51
  go_wp2
  go_loop [3, 5] (fun n i => ∃ j p : Nat, j ≤ k ∧ i = .int .i64 j ∧ n = .int .i64 p ∧ Hid (p = 10 ^ j)) (fun _ i => k - (intOf i).toNat)
  case atStart => exact ⟨0, 1, Nat.zero_le _, rfl, rfl, Lib.hid rfl⟩
  case round =>
    obtain ⟨j, p, hj, rfl, rfl, HP⟩ := hrel
    have hp : p ≤ 10000000000 := by rw [HP.out]; exact Dm.pow10_bd j (by omega)
    by_cases hlt : j < k
    · go_wp2
      go_round
      case rel => exact ⟨j + 1, p * 10, by omega, by go_num, by go_num, Lib.hid (by rw [HP.out, Nat.pow_succ])⟩
      case measure => simp [intOf]; omega
    · go_wp2
      go_ret
      obtain rfl : j = k := by omega
      exact ⟨ret_int (by rw [HP.out, HT.out]), rfl⟩

set_option maxHeartbeats 400000 in
theorem scaled_any (n k : Nat) (w : World) (hk : k ≤ 10) (hn : n ≤ 10000000000) :
    Calls Tryd.prog 41 #[.int .i64 n, .int .i64 k] w fun e w' => e = .returned (.int .i64 (Dm.scaled n k : Nat)) ∧ w = w' := by
  unfold Dm.scaled
  have hb := Dm.pow10_bd k hk
  have hp : 0 < 10 ^ k := Nat.pow_pos (by omega)
  have HP := Lib.hid (fun W => power_any k (10 ^ k) W hk rfl)
  generalize 10 ^ k = t at *
  go_enter Tryd.func41, Tryd.ntmps41
  go_wp2_with fail
  refine (HP.out _).mono ?_
  rintro e w' ⟨rfl, rfl⟩
  go_wp2_with fail
  go_ret
  exact ⟨ret_int (by simp), rfl⟩

set_option maxHeartbeats 400000 in
theorem fraction_any (p k : Nat) (w : World) (hk : k ≤ 10) (hp : p < 65536) :
    Calls Tryd.prog 50 #[.int .i64 p, .int .i64 k] w fun e w' => e = .returned (.int .i64 (Dm.fraction p k : Nat)) ∧ w = w' := by
  unfold Dm.fraction
  have hb := Dm.pow10_bd k hk
  have HP := Lib.hid (fun W => power_any k (10 ^ k) W hk rfl)
  generalize 10 ^ k = t at *
  have hm : 2 * p * t ≤ 131072 * 10000000000 := Nat.mul_le_mul (by omega) hb
  have hc : (2 * (p : Int)) * (t : Int) = ((2 * p * t : Nat) : Int) := by simp
  have HC := Lib.hid hc
  generalize 2 * p * t = m at *
  clear hc
  go_enter Tryd.func50, Tryd.ntmps50
  go_wp2_with fail
  refine (HP.out _).mono ?_
  rintro e w' ⟨rfl, rfl⟩
  go_wp2_with fail
  go_ret
  refine ⟨ret_int ?_, rfl⟩
  have hc := HC.out
  generalize 2 * (p : Int) * (t : Int) = z at *
  subst hc
  rw [wrap_id (n := (m : Int)) (by omega) (by omega), wrap_id (n := (m : Int) + 65536) (by omega) (by omega), Int.tdiv_eq_ediv_of_nonneg (by omega), wrap_id (n := ((m : Int) + 65536) / 131072) (by omega) (by omega)]
  omega

/-- The powers of ten lie where the program laid them, whatever is made later. -/
def Tab (w : World) : Prop := Lib.TabIs Tryd.prog w "internal/strconv.uint64pow10" .u64 Lib.pow10Tab

theorem Tab.lo {w w' : World} (h : Tab w) (l : Lo w w') : Tab w' := by
  unfold Tab Lib.TabIs World.var? at *
  cases hg : Tryd.prog.globalNamed "internal/strconv.uint64pow10" with
  | none => rw [hg] at h; simp at h
  | some g =>
    rw [hg] at h
    simp only [Option.bind_some] at h ⊢
    have hlt : g < w.heap.size := by
      by_cases hg : g < w.heap.size
      · exact hg
      · rw [Array.getElem?_eq_none (by omega)] at h; simp at h
    rw [l.block g hlt]
    exact h

theorem Lo.drewN {a b : World} (h : Lo a b) (k : Nat) : Lo a (b.drewN k) := by
  unfold Lo; exact Below.trans h ⟨rfl, rfl, rfl, Nat.le_refl _, fun _ _ => rfl⟩
theorem grow_lo (w : World) (k : Nat) (os : Array Obj) : Lo w (Sort.grow (w.drewN k) os) := by
  refine ((Lo.refl w).drewN k).trans ⟨rfl, rfl, rfl, ?_, fun j hj => ?_⟩
  · simp [Sort.grow]
  · simp only [Sort.grow]; exact Array.getElem?_append_left hj

theorem format_any (n : Nat) (w : World) (h : n ≤ 9223372036854775807) (ht : Tab w) :
    Calls Tryd.prog 31 #[.int .i64 n, .int .i64 10] w fun e w' => e = .returned (.string ⟨(Lib.decDigits n).toArray⟩) ∧ Lo w w' := by
  refine (Tryd.strconv_FormatInt_10 n (by omega) (by omega) w ht).mono ?_
  rintro e w' ⟨rfl, k, os, rfl⟩
  refine ⟨?_, grow_lo w k os⟩
  unfold Lib.itoa
  rw [if_neg (by omega)]
  simp

set_option maxHeartbeats 400000 in
theorem within_yes (n : Int) (w : World) (h1 : -1073741823 ≤ n) (h2 : n ≤ 1073741823) :
    Calls Tryd.prog 42 #[.int .i64 n] w fun e w' => e = .returned (.int .i64 n) ∧ w = w' := by
  go_enter Tryd.func42, Tryd.ntmps42
  go_wp2
  go_ret
  exact ⟨rfl, rfl⟩

set_option maxHeartbeats 400000 in
theorem within_no (n : Int) (w : World) (h : n < -1073741823 ∨ 1073741823 < n) :
    Calls Tryd.prog 42 #[.int .i64 n] w fun e w' => e = .panicked (raise 2) ∧ w = w' := by
  rcases h with h | h
  · go_enter Tryd.func42, Tryd.ntmps42
    go_wp2
    exact ⟨rfl, rfl, rfl⟩
  · have h' : ¬ n < -1073741823 := by omega
    go_enter Tryd.func42, Tryd.ntmps42
    go_wp2
    exact ⟨rfl, rfl, rfl⟩
end Go.Proofs.YtlfhnldeidgkjaaDoor
