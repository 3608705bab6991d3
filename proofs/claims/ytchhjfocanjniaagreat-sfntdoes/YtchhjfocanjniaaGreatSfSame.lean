/-
  Contracts of the document's Same (of rows that are alike) and Few. No conditions beyond those stated.
-/
import Derived.Test.YtchhjfocanjniaaGreatSfGet
namespace Sf
/-- Few tables, and short. -/
def fewAt (x : Tab) : Bool := decide (x.2.length ≤ 2000) && decide (x.1.length ≤ 20)
def few (l : List Tab) : Bool := decide (l.length ≤ 70) && l.all fewAt
theorem few_small {l : List Tab} (h : few l = true) : Small l := by
  unfold few fewAt at h
  simp only [Bool.and_eq_true, decide_eq_true_eq, List.all_eq_true] at h
  exact ⟨h.1, fun x hx => ⟨(h.2 x hx).2, by have := (h.2 x hx).1; omega⟩⟩
theorem few_dat {l : List Tab} (h : few l = true) : ∀ x ∈ l, x.2.length ≤ 2000 := by
  unfold few fewAt at h
  simp only [Bool.and_eq_true, decide_eq_true_eq, List.all_eq_true] at h
  exact fun x hx => (h.2 x hx).1
theorem few_fail {l : List Tab} {x : Tab} (h : x ∈ l) (hx : fewAt x = false) : few l = false := by
  unfold few
  rw [Bool.and_eq_false_iff]
  right
  rw [List.all_eq_false]
  exact ⟨x, h, by simp [hx]⟩
end Sf
namespace Go.Proofs.YtchhjfocanjniaaGreat
open Go.RowKit

set_option maxHeartbeats 1600000 in
theorem few_any (l : List Sf.Tab) (v : Value) (w : World) (h : TRow w v l) (hs : ∀ x ∈ l, x.1.length ≤ 9223372036854775807 ∧ x.2.length ≤ 9223372036854775807) : Calls Tryz.prog 4 #[v] w fun e w' => e = .returned (.bool (Sf.few l)) ∧ Lo w w' := by
  obtain ⟨p, c, rfl, hlen⟩ := h.form
  have HR := Lib.hid h
  have HS := Lib.hid hs
  generalize hy : Sf.few l = y
  have HY := Lib.hid hy
  generalize hn : l.length = n at *
  have HN := Lib.hid hn
  clear hn h hy hs
  by_cases h70 : n ≤ 70
  · go_enter Tryz.func4, Tryz.ntmps4
    go_wp2_with fail
    go_loop [3] (fun i => ∃ k : Nat, k ≤ n ∧ i = .int .i64 k ∧ Hid (∀ j x, j < k → l[j]? = some x → Sf.fewAt x = true)) (fun i => n - (intOf i).toNat)
    case atStart => exact ⟨0, Nat.zero_le _, rfl, Lib.hid (by omega)⟩
    case round =>
      obtain ⟨k, hk, rfl, HI⟩ := hrel
      by_cases hlt : k < n
      · obtain ⟨⟨tg, dt⟩, hx⟩ := Sf.some_at (l := l) (k := k) (by rw [HN.out]; exact hlt)
        obtain ⟨b, off, rfl, hc1, hc2⟩ := TRow.at2 HR.out hx
        have hsm := HS.out _ (List.mem_of_getElem? hx)
        have HX := Lib.hid hx
        clear hx
        simp only at hc1 hc2 hsm
        by_cases hd : dt.length ≤ 2000
        · by_cases ht : tg.length ≤ 20
          · have HI2 : Hid (∀ j x, j < k + 1 → l[j]? = some x → Sf.fewAt x = true) := Lib.hid (by
              intro j x hj hx
              rcases Nat.lt_or_ge j k with h | h
              · exact HI.out j x h hx
              · obtain rfl : j = k := by omega
                rw [HX.out] at hx; cases hx
                simp [Sf.fewAt, hd, ht])
            go_wp2_with fail
            go_round
            case rel => exact ⟨k + 1, by omega, by go_num, HI2⟩
            case measure => simp [intOf]; omega
          · have HE : Hid (y = false) := Lib.hid (by rw [← HY.out]; exact Sf.few_fail (List.mem_of_getElem? HX.out) (by simp [Sf.fewAt]; omega))
            go_wp2_with fail
            go_ret
            exact ⟨ret_bool HE.out.symm, Lo.refl _⟩
        · have HE : Hid (y = false) := Lib.hid (by rw [← HY.out]; exact Sf.few_fail (List.mem_of_getElem? HX.out) (by simp [Sf.fewAt]; omega))
          go_wp2_with fail
          go_ret
          exact ⟨ret_bool HE.out.symm, Lo.refl _⟩
      · have HE : Hid (y = true) := Lib.hid (by
          rw [← HY.out]
          unfold Sf.few
          rw [Bool.and_eq_true, decide_eq_true_eq, List.all_eq_true]
          refine ⟨by rw [HN.out]; exact h70, fun x hx => ?_⟩
          obtain ⟨j, hj⟩ := List.getElem?_of_mem hx
          exact HI.out j x (by have := (List.getElem?_eq_some_iff.1 hj).1; rw [HN.out] at this; omega) hj)
        go_wp2_with fail
        go_ret
        exact ⟨ret_bool (by rw [HE.out]; simp; omega), Lo.refl _⟩
  · have HE : Hid (y = false) := Lib.hid (by rw [← HY.out]; unfold Sf.few; rw [HN.out]; simp [h70])
    go_enter Tryz.func4, Tryz.ntmps4
    go_wp2_with fail
    go_loop [3] (fun i => i = .int .i64 0) (fun _ => 0)
    case atStart => rfl
    case round =>
      subst hrel
      go_wp2_with fail
      all_goals
        go_ret
        exact ⟨ret_bool (by rw [HE.out]; simp; omega), Lo.refl _⟩

set_option maxHeartbeats 1600000 in
theorem same_any (l : List Sf.Tab) (v u : Value) (w : World) (h : TRow w v l) (h2 : TRow w u l) : Calls Tryz.prog 14 #[v, u] w fun e w' => e = .returned (.bool true) ∧ Lo w w' := by
  obtain ⟨p, c, rfl, hlen⟩ := h.form
  obtain ⟨p2, c2, rfl, _⟩ := h2.form
  have HR := Lib.hid h
  have HR2 := Lib.hid h2
  generalize hn : l.length = n at *
  have HN := Lib.hid hn
  clear hn h h2
  go_enter Tryz.func14, Tryz.ntmps14
  go_wp2_with fail
  go_loopw [5] (fun i W => ∃ k : Nat, k ≤ n ∧ i = .int .i64 k ∧ Hid (Lo w W)) (fun i _ => n - (intOf i).toNat)
  case atStart => exact ⟨0, Nat.zero_le _, rfl, Lib.hid (Lo.refl _)⟩
  case round =>
    obtain ⟨k, hk, rfl, HL⟩ := hrel
    by_cases hlt : k < n
    · obtain ⟨⟨tg, dt⟩, hx⟩ := Sf.some_at (l := l) (k := k) (by rw [HN.out]; exact hlt)
      obtain ⟨b, off, rfl, hc1, hc2⟩ := TRow.at2 (HR.out.lo HL.out) hx
      obtain ⟨b2, off2, rfl, hc3, hc4⟩ := TRow.at2 (HR2.out.lo HL.out) hx
      clear hx
      simp only at hc1 hc2 hc3 hc4
      go_wp2_with fail
      go_quiet (fail)
      have HL2 := Lib.hid (HL.out.drewN nq)
      go_wp2_with fail
      go_roundw
      case rel => exact ⟨k + 1, by omega, by go_num, HL2⟩
      case measure => simp [intOf]; omega
    · go_wp2_with fail
      go_ret
      exact ⟨rfl, HL.out⟩
end Go.Proofs.YtchhjfocanjniaaGreat
