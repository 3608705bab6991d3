/-
  The contracts of konst.Name and konst.Find: they answer what the plain functions say. No conditions beyond those stated.
-/
import Derived.Test.YtcbchnckeeklkaaKoNam
namespace Ko
theorem find_at {x : List UInt8} {k : Nat} (h : k < 56) (hx : (names.getD k [] == x) = true) : find x = ((k : Int), 0) := find_first h (eq_of_beq hx)
end Ko
namespace Go.Proofs.Ytcbchnckeeklkaa
open Go.RowKit

set_option maxHeartbeats 400000 in
/-- konst.Name. -/
theorem kname_any (k : Int) (w : World) : Calls Try.prog 12 #[.int .i64 k] w fun e w' => e = strErr (Ko.name k) ∧ Lo w w' := by
  by_cases h0 : k < 0
  · rw [Ko.name_no (.inl h0)]
    unfold strErr
    go_enter Try.func12, Try.ntmps12
    go_wp2_with fail
    go_ret2
    exact ⟨rfl, Lo.refl _⟩
  · by_cases h1 : 56 ≤ k
    · rw [Ko.name_no (.inr (by omega))]
      unfold strErr
      go_enter Try.func12, Try.ntmps12
      go_wp2_with fail
      go_ret2
      exact ⟨rfl, Lo.refl _⟩
    · obtain ⟨n, rfl⟩ := Int.eq_ofNat_of_zero_le (show 0 ≤ k by omega)
      have hn : n < 56 := by omega
      rw [Ko.name_yes hn]
      have HN := Lib.hid (fun W => names_any W)
      have hix := fun W => name_at n hn W
      generalize Ko.names.getD n [] = x at *
      generalize aggN = v at *
      unfold strErr
      go_enter Try.func12, Try.ntmps12
      go_wp2_with fail
      refine (HN.out _).mono ?_
      rintro e w1 ⟨rfl, lo⟩
      have HL := Lib.hid lo
      clear lo HN
      go_wp2_with fail
      go_ret2
      exact ⟨rfl, HL.out⟩

set_option maxHeartbeats 400000 in
/-- konst.Find. -/
theorem kfind_any (x : List UInt8) (w : World) : Calls Try.prog 14 #[.string ⟨x.toArray⟩] w fun e w' => e = .returned (.tuple #[.int .i64 (Ko.find x).1, .int .i64 (Ko.find x).2]) ∧ Lo w w' := by
  have HN := Lib.hid (fun W => names_any W)
  have HX := Lib.hid (fun n (hn : n < 56) W => name_at n hn W)
  have HNo := Lib.hid (@Ko.find_never x)
  have HYes := Lib.hid (fun k (h : k < 56) => @Ko.find_at x k h)
  generalize hf : Ko.find x = f at *
  clear hf
  obtain ⟨fa, fb⟩ := f
  generalize aggN = v at *
  dsimp only
  go_enter Try.func14, Try.ntmps14
  go_wp2_with fail
  refine (HN.out _).mono ?_
  rintro e w1 ⟨rfl, lo⟩
  have HL := Lib.hid lo
  clear lo HN
  go_wp2_with fail
  go_loop [7] (fun i => ∃ k : Nat, k ≤ 56 ∧ i = .int .i64 k ∧ Hid (∀ j, j < k → (Ko.names.getD j [] == x) = false)) (fun i => 56 - (intOf i).toNat)
  case atStart => exact ⟨0, by omega, rfl, Lib.hid (fun j hj => absurd hj (Nat.not_lt_zero _))⟩
  case round =>
    obtain ⟨k, hk, rfl, HI⟩ := hrel
    by_cases hlt : k < 56
    · have hix := fun W => HX.out k hlt W
      have HYk := Lib.hid (HYes.out k hlt)
      have HIk : Hid ((Ko.names.getD k [] == x) = false → ∀ j, j < k + 1 → (Ko.names.getD j [] == x) = false) := Lib.hid (by
        intro hf j hj
        rcases Nat.lt_or_ge j k with hl | hl
        · exact HI.out j hl
        · obtain rfl : j = k := by omega
          exact hf)
      generalize Ko.names.getD k [] = nk at *
      cases hb : (nk == x) with
      | true =>
        have HE := Lib.hid (HYk.out hb)
        clear HI HIk HYk
        go_wp2_with fail
        go_ret2
        obtain ⟨rfl, rfl⟩ := Prod.mk.inj HE.out
        exact ⟨rfl, HL.out⟩
      | false =>
        have HI2 := Lib.hid (HIk.out hb)
        clear HI HIk HYk
        go_wp2_with fail
        go_round
        case rel => exact ⟨k + 1, by omega, by go_num, HI2⟩
        case measure => simp [intOf]; omega
    · obtain rfl : k = 56 := by omega
      have HE := Lib.hid (HNo.out (fun j hj e => by have h := HI.out j hj; rw [e] at h; simp at h))
      go_wp2_with fail
      go_ret2
      obtain ⟨rfl, rfl⟩ := Prod.mk.inj HE.out
      exact ⟨rfl, HL.out⟩
end Go.Proofs.Ytcbchnckeeklkaa
