/-
  The contracts of cover.Is and cover.sizes. No conditions beyond those stated.
-/
import Derived.Test.YtjeahgdefdlabaaCoFacts
import Derived.Test.YtjeahgdefdlabaaBnGet2
import Derived.Test.YtjeahgdefdlabaaGlRepeat
namespace Go.Proofs.Ytjeahgdefdlabaa
open Go.RowKit

set_option maxHeartbeats 400000 in
/-- cover.Is. -/
theorem cois_any (v : Value) (l : List Int) (w : World) (h : Row w v l) :
    Calls Try.prog 30 #[v] w fun e w' => e = .returned (.bool (Co.isCov l)) ∧ w = w' := by
  obtain ⟨p, c, rfl, hlen⟩ := h.form
  have HR := Lib.hid h
  generalize hy : Co.isCov l = y
  have HY : Hid (Co.asc (-1) (l.drop 0) = y) := Lib.hid (by rw [List.drop_zero]; exact hy)
  generalize hn : l.length = n at *
  have HN := Lib.hid hn
  clear hn h hy
  go_enter Try.func30, Try.ntmps30
  go_wp2_with fail
  go_loop [3, 8] (fun b i => ∃ (k : Nat) (z : Int), k ≤ n ∧ i = .int .i64 k ∧ b = .int .i64 z ∧ Hid (Co.asc z (l.drop k) = y)) (fun _ i => n - (intOf i).toNat)
  case atStart => exact ⟨0, -1, Nat.zero_le _, rfl, rfl, HY⟩
  case round =>
    obtain ⟨k, z, hk, rfl, rfl, HI⟩ := hrel
    by_cases hlt : k < n
    · obtain ⟨b, off, rfl, hcell⟩ := HR.out.at_ hlt
      have HS : Hid ((decide (z < l.getD k 0) && decide (l.getD k 0 ≤ 65534) && Co.asc (l.getD k 0) (l.drop (k + 1))) = y) := Lib.hid (by rw [← Co.asc_step (by rw [HN.out]; exact hlt)]; exact HI.out)
      generalize l.getD k 0 = x at *
      clear HI
      by_cases h1 : x ≤ z
      · have HF : Hid (y = false) := Lib.hid (by rw [← HS.out, decide_eq_false (by omega)]; rfl)
        go_wp2_with fail
        go_ret
        exact ⟨ret_bool HF.out.symm, rfl⟩
      · by_cases h2 : 65535 ≤ x
        · have HF : Hid (y = false) := Lib.hid (by rw [← HS.out, decide_eq_false (show ¬ x ≤ 65534 by omega), Bool.and_false]; rfl)
          go_wp2_with fail
          go_ret
          exact ⟨ret_bool HF.out.symm, rfl⟩
        · have HT : Hid (Co.asc x (l.drop (k + 1)) = y) := Lib.hid (by rw [← HS.out, decide_eq_true (show z < x by omega), decide_eq_true (show x ≤ 65534 by omega)]; rfl)
          go_wp2_with fail
          go_round
          case rel => exact ⟨k + 1, x, by omega, by go_num, rfl, HT⟩
          case measure => simp [intOf]; omega
    · obtain rfl : k = n := by omega
      have HF : Hid (y = true) := Lib.hid (by rw [← HI.out, List.drop_of_length_le (by rw [HN.out]; omega)]; rfl)
      go_wp2_with fail
      go_ret
      exact ⟨ret_bool HF.out.symm, rfl⟩

theorem fill_row {z : Int} {n G : Nat} {w : World} (h : FillAt z n n G w) (hn : n ≤ 1000000) : Row w (.slice (some ⟨G, 0, none⟩) n n) (List.replicate n z) := by
  refine .inr ⟨G, 0, n, by rw [List.length_replicate], by rw [List.length_replicate]; omega, by rw [List.length_replicate]; omega, (Array.getElem?_eq_some_iff.1 h).1, fun i hi => ?_⟩
  rw [List.length_replicate] at hi
  rw [Nat.zero_add, block_cell h (by rw [List.getElem?_toArray]; exact fill_at z hi)]
  simp [List.getD, hi]

set_option maxHeartbeats 400000 in
/-- cover.sizes. -/
theorem cosizes_any (n : Nat) (w : World) (hn : n ≤ 1000000) :
    Calls Try.prog 53 #[.int .i64 (n : Int)] w fun e w' => ∃ p c, e = .returned (.slice p n c) ∧ Row w' (.slice p n c) (Co.sz n) ∧ Lo w w' := by
  have HRp := Lib.hid (fun W v h => repeat_any 2 n v W h hn)
  go_enter Try.func53, Try.ntmps53
  go_wp2_with fail
  refine (HRp.out _ _ (row1 w w.heap.size rfl 2)).mono ?_
  rintro e w1 ⟨G, rfl, hf, lo⟩
  have HF := Lib.hid (fill_row hf hn)
  have HL := Lib.hid (((Lo.refl w).alloc _).trans lo)
  clear hf lo
  go_wp2_with fail
  go_ret
  exact ⟨_, _, rfl, HF.out, HL.out⟩
end Go.Proofs.Ytjeahgdefdlabaa
