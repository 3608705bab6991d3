/-
  The contract of fixed.Is. No conditions.
-/
import Derived.Test.YtbcilhdamjgoeaaGkLo
import Derived.Test.YtbcilhdamjgoeaaFxMath
namespace Go.Proofs.Ytbcilhdamjgoeaa
open Go.RowKit

set_option maxHeartbeats 400000 in
theorem is_nil_any (p : Option Addr) (c : Nat) (w : World) : Calls Try.prog 29 #[.slice p 0 c] w fun e w' => e = .returned (.bool true) ∧ w = w' := by
  go_enter Try.func29, Try.ntmps29
  go_wp2
  go_loop [7] (fun i => i = .int .i64 0) (fun _ => 0)
  case atStart => exact rfl
  case round =>
    subst hrel
    go_wp2
    go_ret
    exact ⟨rfl, rfl⟩

set_option maxHeartbeats 400000 in
theorem is_row_any (b off cap : Nat) (l : List Int) (w : World) (hm : l.length ≤ 9223372036854775807)
    (hc : ∀ i, i < l.length → w.cell? ⟨b, off + i, none⟩ = some (.int .i64 (l.getD i 0))) :
    Calls Try.prog 29 #[.slice (some ⟨b, off, none⟩) l.length cap] w fun e w' => e = .returned (.bool (Fx.is l)) ∧ w = w' := by
  generalize hn : l.length = n at *
  have HN : Hid (l.length = n) := hn
  have HC : Hid (∀ i, i < n → w.cell? ⟨b, off + i, none⟩ = some (.int .i64 (l.getD i 0))) := hc
  clear hn hc
  go_enter Try.func29, Try.ntmps29
  go_wp2
  go_loop [7] (fun i => ∃ k : Nat, k ≤ n ∧ i = .int .i64 k ∧ Fx.is (l.take k) = true) (fun i => n - (intOf i).toNat)
  case atStart => exact ⟨0, Nat.zero_le _, rfl, rfl⟩
  case round =>
    obtain ⟨k, hk, rfl, his⟩ := hrel
    have HI := Lib.hid his
    clear his
    by_cases hlt : k < n
    · have hcell := HC.out k hlt
      have hstep : l.take (k + 1) = l.take k ++ [l.getD k 0] := by
        have h' : k < l.length := by rw [HN.out]; exact hlt
        rw [List.take_succ_eq_append_getElem h']; simp [List.getD, List.getElem?_eq_getElem h']
      have HS := Lib.hid hstep
      clear hstep
      generalize hz : l.getD k 0 = z at *
      have HZ := Lib.hid hz
      clear hz
      by_cases h1 : z < -1073741823
      · go_wp2
        go_ret
        refine ⟨ret_bool ?_, rfl⟩
        symm
        have : Fx.len z = false := Fx.len_not (by omega)
        have hmem : z ∈ l := by
          have h' : k < l.length := by rw [HN.out]; exact hlt
          rw [← HZ.out]; simp [List.getD, List.getElem?_eq_getElem h']
        simp only [Fx.is]
        rw [Bool.eq_false_iff]
        intro hall
        rw [List.all_eq_true] at hall
        rw [hall z hmem] at this
        cases this
      · by_cases h2 : 1073741823 < z
        · go_wp2
          go_ret
          refine ⟨ret_bool ?_, rfl⟩
          symm
          have : Fx.len z = false := Fx.len_not (by omega)
          have hmem : z ∈ l := by
            have h' : k < l.length := by rw [HN.out]; exact hlt
            rw [← HZ.out]; simp [List.getD, List.getElem?_eq_getElem h']
          simp only [Fx.is]
          rw [Bool.eq_false_iff]
          intro hall
          rw [List.all_eq_true] at hall
          rw [hall z hmem] at this
          cases this
        · go_wp2
          go_round
          case rel =>
            refine ⟨k + 1, by omega, by go_num, ?_⟩
            rw [HS.out, Fx.is, List.all_append]
            have h0 : (l.take k).all Fx.len = true := HI.out
            simp [h0, Fx.len_yes (n := z) (by omega) (by omega)]
          case measure => simp [intOf]; omega
    · go_wp2
      go_ret
      refine ⟨ret_bool ?_, rfl⟩
      have h1 : l.take k = l := List.take_of_length_le (by rw [HN.out]; omega)
      have := HI.out
      rw [h1] at this
      exact this.symm

theorem is_any (v : Value) (l : List Int) (w : World) (h : Row w v l) :
    Calls Try.prog 29 #[v] w fun e w' => e = .returned (.bool (Fx.is l)) ∧ w = w' := by
  rcases h with ⟨p, c, rfl, _, rfl⟩ | ⟨b, off, cap, rfl, h2, h2b, h3, h4⟩
  · exact is_nil_any p c w
  · exact is_row_any b off cap l w h2 h4

theorem one_len (a : Int) : Fx.is [a] = Fx.len a := by simp [Fx.is]

end Go.Proofs.Ytbcilhdamjgoeaa
