/-
  The contract of the document's answer for layer 1, MulDiv, and of what it calls. No conditions beyond those stated.
-/
import Derived.Test.YtbcilhdamjgoeaaFxMul
import Derived.Test.YtbcilhdamjgoeaaFxRLen
import Derived.Test.YtbcilhdamjgoeaaFxNear
namespace Go.Proofs.Ytbcilhdamjgoeaa
open Go.RowKit

set_option maxHeartbeats 400000 in
theorem rtold_any (a : Int) (w : World) : Calls Try.prog 84 #[.int .i64 a] w fun e w' => e = tup (Fx.told a) ∧ w = w' := by
  by_cases h : Fx.len a = true
  · rw [Fx.told, if_pos h]
    have H := Lib.hid h
    clear h
    go_enter Try.func84, Try.ntmps84
    go_wp2_with fail
    refine (rlen_any a _).mono ?_
    rintro e w1 ⟨rfl, rfl⟩
    rw [H.out]
    go_wp2_with fail
    go_ret2
    exact ⟨rfl, rfl⟩
  · rw [Fx.told, if_neg h]
    have H : Hid (Fx.len a = false) := by show _ = _; simpa using h
    clear h
    go_enter Try.func84, Try.ntmps84
    go_wp2_with fail
    refine (rlen_any a _).mono ?_
    rintro e w1 ⟨rfl, rfl⟩
    rw [H.out]
    go_wp2_with fail
    go_ret2
    exact ⟨rfl, rfl⟩

set_option maxHeartbeats 400000 in
theorem rfar_any (n : Int) (w : World) (h1 : -2305843009213693952 ≤ n) (h2 : n ≤ 2305843009213693952) :
    Calls Try.prog 86 #[.int .i64 n] w fun e w' => e = .returned (.int .i64 (Fx.size n)) ∧ w = w' := by
  by_cases h : n < 0
  · go_enter Try.func86, Try.ntmps86
    go_wp2
    go_ret
    exact ⟨ret_int (by simp [Fx.size, h]), rfl⟩
  · go_enter Try.func86, Try.ntmps86
    go_wp2
    go_ret
    exact ⟨ret_int (by unfold Fx.size; rw [if_neg (by omega)]), rfl⟩

/-- The document's nearest, c above 0. -/
theorem Fx.near_ref (p c : Int) (hc : 0 < c) :
    Fx.near p c = (if p < 0 then -(Fx.size p / c + if c ≤ 2 * (Fx.size p % c) then 1 else 0) else Fx.size p / c + if c ≤ 2 * (Fx.size p % c) then 1 else 0) := by
  have hnn : ∀ q : Int, 0 ≤ q → Fx.near q c = q / c + if c ≤ 2 * (q % c) then 1 else 0 := by
    intro q hq
    have hz : Fx.size c = c := by unfold Fx.size; rw [if_neg (by omega)]
    have e1 : q.tdiv c = q / c := Int.tdiv_eq_ediv_of_nonneg hq
    have e2 : q.tmod c = q % c := Int.tmod_eq_emod_of_nonneg hq
    have hm := Int.emod_nonneg q (show c ≠ 0 by omega)
    have hz2 : Fx.size (q % c) = q % c := by unfold Fx.size; rw [if_neg (by omega)]
    unfold Fx.near
    rw [e1, e2, hz, hz2]
    by_cases h : 2 * (q % c) < c
    · rw [if_pos h, if_neg (by omega), Int.add_zero]
    · rw [if_neg h, if_pos (by simp; omega), if_pos (by omega)]
  by_cases hp : p < 0
  · have hs : Fx.size p = -p := by unfold Fx.size; rw [if_pos hp]
    rw [if_pos hp, hs, ← hnn (-p) (by omega), Fx.near_neg _ _ (by omega), Int.neg_neg]
  · have hs : Fx.size p = p := by unfold Fx.size; rw [if_neg hp]
    rw [if_neg hp, hs, ← hnn p (by omega)]

set_option maxHeartbeats 400000 in
theorem rnearest_any (p c : Int) (w : World) (h1 : -1152921504606846976 ≤ p) (h2 : p ≤ 1152921504606846976) (h3 : 0 < c) (h4 : c ≤ 1073741823) :
    Calls Try.prog 85 #[.int .i64 p, .int .i64 c] w fun e w' => e = .returned (.int .i64 (Fx.near p c)) ∧ w = w' := by
  have hn := Fx.near_ref p c h3
  have hs := Fx.size_nonneg p
  have hs2 : Fx.size p ≤ 1152921504606846976 := by rw [Fx.size_natAbs]; omega
  have HF := Lib.hid (fun W => rfar_any p W (by omega) (by omega))
  generalize Fx.near p c = y at *
  generalize Fx.size p = s at *
  have hq1 : 0 ≤ s / c := Int.ediv_nonneg hs (by omega)
  have hq2 : s / c ≤ 1152921504606846976 := Int.le_trans (Int.ediv_le_self c hs) hs2
  have hr1 : 0 ≤ s % c := Int.emod_nonneg s (by omega)
  have hr2 : s % c < c := Int.emod_lt_of_pos s h3
  have h5 : ¬ c = 0 := by omega
  have HN := Lib.hid hn
  clear hn
  go_enter Try.func85, Try.ntmps85
  go_wp2_with fail
  refine (HF.out _).mono ?_
  rintro e w1 ⟨rfl, rfl⟩
  go_wp2_with fail
  refine (HF.out _).mono ?_
  rintro e w1 ⟨rfl, rfl⟩
  by_cases ht : c ≤ 2 * (s % c)
  · by_cases hp : p < 0
    · go_wp2_with fail
      go_ret
      exact ⟨ret_int (by rw [HN.out, if_pos hp, if_pos ht]), rfl⟩
    · go_wp2_with fail
      go_ret
      exact ⟨ret_int (by rw [HN.out, if_neg (by omega), if_pos ht]), rfl⟩
  · by_cases hp : p < 0
    · go_wp2_with fail
      go_ret
      exact ⟨ret_int (by rw [HN.out, if_pos hp, if_neg (by omega)]; omega), rfl⟩
    · go_wp2_with fail
      go_ret
      exact ⟨ret_int (by rw [HN.out, if_neg (by omega), if_neg (by omega)]; omega), rfl⟩

set_option maxHeartbeats 800000 in
theorem rmuldiv_no (a b c : Int) (w : World) (h : Fx.len a = false ∨ Fx.len a = true ∧ Fx.len b = false ∨ Fx.len a = true ∧ Fx.len b = true ∧ Fx.len c = false ∨ Fx.len a = true ∧ Fx.len b = true ∧ Fx.len c = true ∧ (c == 0) = true) :
    Calls Try.prog 60 #[.int .i64 a, .int .i64 b, .int .i64 c] w fun e w' => e = tup (0, 1) ∧ w = w' := by
  rcases h with h | ⟨h, hb⟩ | ⟨h, hb, hc⟩ | ⟨h, hb, hc, h0⟩
  · have HA := Lib.hid h
    clear h
    go_enter Try.func60, Try.ntmps60
    go_wp2_with fail
    refine (rlen_any a _).mono ?_
    rintro e w1 ⟨rfl, rfl⟩
    rw [HA.out]
    go_wp2_with fail
    go_ret2
    exact ⟨rfl, rfl⟩
  · have HA := Lib.hid h
    have HB := Lib.hid hb
    clear h hb
    go_enter Try.func60, Try.ntmps60
    go_wp2_with fail
    refine (rlen_any a _).mono ?_
    rintro e w1 ⟨rfl, rfl⟩
    rw [HA.out]
    go_wp2_with fail
    refine (rlen_any b _).mono ?_
    rintro e w1 ⟨rfl, rfl⟩
    rw [HB.out]
    go_wp2_with fail
    go_ret2
    exact ⟨rfl, rfl⟩
  all_goals
    have HA := Lib.hid h
    have HB := Lib.hid hb
    have HC := Lib.hid hc
    clear h hb hc
    go_enter Try.func60, Try.ntmps60
    go_wp2_with fail
    refine (rlen_any a _).mono ?_
    rintro e w1 ⟨rfl, rfl⟩
    rw [HA.out]
    go_wp2_with fail
    refine (rlen_any b _).mono ?_
    rintro e w1 ⟨rfl, rfl⟩
    rw [HB.out]
    go_wp2_with fail
    refine (rlen_any c _).mono ?_
    rintro e w1 ⟨rfl, rfl⟩
    rw [HC.out]
    go_wp2_with fail
    go_ret2
    exact ⟨rfl, rfl⟩

set_option maxHeartbeats 800000 in
theorem rmuldiv_yes (a b c : Int) (w : World) (ha : Fx.len a = true) (hb : Fx.len b = true) (hc : Fx.len c = true) (h0 : c ≠ 0) :
    Calls Try.prog 60 #[.int .i64 a, .int .i64 b, .int .i64 c] w fun e w' => e = tup (Fx.told (Fx.near (a * b) c)) ∧ w = w' := by
  obtain ⟨c1, c2⟩ := (Fx.len_iff c).1 hc
  obtain ⟨m1, m2⟩ := Fx.mul_bd ha hb
  have HA := Lib.hid ha
  have HB := Lib.hid hb
  have HC := Lib.hid hc
  have HF := Lib.hid (fun W => rfar_any c W (by omega) (by omega))
  have hz : (c == 0) = false := by simpa using h0
  have HT := Lib.hid (fun W => rtold_any (Fx.near (a * b) c) W)
  by_cases hneg : c < 0
  · have HN := Lib.hid (fun W => rnearest_any (-(a * b)) (-c) W (by omega) (by omega) (by omega) (by omega))
    rw [Fx.near_neg _ _ (by omega), Fx.near_neg_by _ _ h0, Int.neg_neg] at HN
    rw [show Fx.size c = -c from by unfold Fx.size; rw [if_pos hneg]] at HF
    clear ha hb hc h0
    generalize Fx.near (a * b) c = y at *
    generalize Fx.told y = x at *
    go_enter Try.func60, Try.ntmps60
    go_wp2_with fail
    refine (rlen_any a _).mono ?_
    rintro e w1 ⟨rfl, rfl⟩
    rw [HA.out]
    go_wp2_with fail
    refine (rlen_any b _).mono ?_
    rintro e w1 ⟨rfl, rfl⟩
    rw [HB.out]
    go_wp2_with fail
    refine (rlen_any c _).mono ?_
    rintro e w1 ⟨rfl, rfl⟩
    rw [HC.out]
    go_wp2_with fail
    refine (HF.out _).mono ?_
    rintro e w1 ⟨rfl, rfl⟩
    go_wp2_with fail
    refine (HN.out _).mono ?_
    rintro e w1 ⟨rfl, rfl⟩
    go_wp2_with fail
    refine (HT.out _).mono ?_
    rintro e w1 ⟨rfl, rfl⟩
    go_wp2_with fail
    go_ret2
    exact ⟨rfl, rfl⟩
  · have HN := Lib.hid (fun W => rnearest_any (a * b) c W (by omega) (by omega) (by omega) (by omega))
    rw [show Fx.size c = c from by unfold Fx.size; rw [if_neg hneg]] at HF
    clear ha hb hc h0
    generalize Fx.near (a * b) c = y at *
    generalize Fx.told y = x at *
    go_enter Try.func60, Try.ntmps60
    go_wp2_with fail
    refine (rlen_any a _).mono ?_
    rintro e w1 ⟨rfl, rfl⟩
    rw [HA.out]
    go_wp2_with fail
    refine (rlen_any b _).mono ?_
    rintro e w1 ⟨rfl, rfl⟩
    rw [HB.out]
    go_wp2_with fail
    refine (rlen_any c _).mono ?_
    rintro e w1 ⟨rfl, rfl⟩
    rw [HC.out]
    go_wp2_with fail
    refine (HF.out _).mono ?_
    rintro e w1 ⟨rfl, rfl⟩
    go_wp2_with fail
    refine (HN.out _).mono ?_
    rintro e w1 ⟨rfl, rfl⟩
    go_wp2_with fail
    refine (HT.out _).mono ?_
    rintro e w1 ⟨rfl, rfl⟩
    go_wp2_with fail
    go_ret2
    exact ⟨rfl, rfl⟩

theorem rmuldiv_any (a b c : Int) (w : World) :
    Calls Try.prog 60 #[.int .i64 a, .int .i64 b, .int .i64 c] w fun e w' => e = tup (Fx.mulDiv a b c) ∧ w = w' := by
  by_cases h : Fx.is [a, b, c] = true ∧ c ≠ 0
  · obtain ⟨ha, hb, hc⟩ : Fx.len a = true ∧ Fx.len b = true ∧ Fx.len c = true := by simpa [Fx.is] using h.1
    rw [Fx.mulDiv, if_pos h]; exact rmuldiv_yes a b c w ha hb hc h.2
  · rw [Fx.mulDiv, if_neg h]
    refine rmuldiv_no a b c w ?_
    cases ha : Fx.len a with
    | false => exact .inl rfl
    | true =>
      cases hb : Fx.len b with
      | false => exact .inr (.inl ⟨rfl, rfl⟩)
      | true =>
        cases hc : Fx.len c with
        | false => exact .inr (.inr (.inl ⟨rfl, rfl, rfl⟩))
        | true =>
          refine .inr (.inr (.inr ⟨rfl, rfl, rfl, ?_⟩))
          have : Fx.is [a, b, c] = true := by simp [Fx.is, ha, hb, hc]
          simp only [this, true_and] at h; simpa using h
end Go.Proofs.Ytbcilhdamjgoeaa
