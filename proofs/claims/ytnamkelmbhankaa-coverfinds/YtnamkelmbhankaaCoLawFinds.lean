/-
  The walk of the law CoverFinds. No conditions beyond those stated.
-/
import Derived.Test.YtnamkelmbhankaaCoCovered
import Derived.Test.YtnamkelmbhankaaCoRef
namespace Co
theorem find_or {l : List Int} (h : isCov l = true) (g : Int) : (∃ i, i < l.length ∧ l.getD i 0 = g ∧ find l g = (i, true)) ∨ (find l g = (0, false) ∧ ∀ i, i < l.length → l.getD i 0 ≠ g) := by
  by_cases c : ∃ i, i < l.length ∧ l.getD i 0 = g
  · obtain ⟨i, h1, h2⟩ := c
    exact .inl ⟨i, h1, h2, find_idx h h1 h2⟩
  · have k : ∀ i, i < l.length → l.getD i 0 ≠ g := fun i h1 h2 => c ⟨i, h1, h2⟩
    exact .inr ⟨find_out k, k⟩
end Co
namespace Go.Proofs.Ytnamkelmbhankaa
open Go.RowKit

set_option maxHeartbeats 400000 in
theorem coverFinds_far (p : Option Addr) (n c : Nat) (g : Int) (w : World) (h : 500 < n) :
    Calls Try.prog 6 #[.slice p n c, .int .i64 g] w fun e w' => e = .returned (.bool true) ∧ Lo w w' := by
  have HS := Lib.hid (rshort12_any p n c w)
  rw [decide_eq_false (show ¬ n ≤ 500 by omega)] at HS
  go_enter Try.func6, Try.ntmps6
  go_wp2_with fail
  refine HS.out.mono ?_
  rintro e w1 ⟨rfl, rfl⟩
  go_wp2_with fail
  go_ret
  exact ⟨rfl, Lo.refl _⟩

set_option maxHeartbeats 800000 in
theorem coverFinds_no (v : Value) (l : List Int) (g : Int) (w : World) (hr : Row w v l) (hn : l.length ≤ 500) (hc : Co.isCov l = false) :
    Calls Try.prog 6 #[v, .int .i64 g] w fun e w' => e = .returned (.bool true) ∧ Lo w w' := by
  have HF := Lib.hid (cofind_any v l g w hr)
  rw [Co.find_no (.inl hc)] at HF
  have HI := Lib.hid (cois_any v l w hr)
  rw [hc] at HI
  have HD := Lib.hid (fun W => covered_any W)
  obtain ⟨p, c, rfl, _⟩ := hr.form
  have HS := Lib.hid (rshort12_any p l.length c w)
  rw [decide_eq_true hn] at HS
  dsimp only at HF
  rw [show ((0 : Nat) : Int) = 0 from rfl] at HF
  clear hr hc
  go_enter Try.func6, Try.ntmps6
  go_wp2_with fail
  refine HS.out.mono ?_
  rintro e w1 ⟨rfl, rfl⟩
  go_wp2_with fail
  refine HF.out.mono ?_
  rintro e w1 ⟨rfl, rfl⟩
  go_wp2_with fail
  refine HI.out.mono ?_
  rintro e w1 ⟨rfl, rfl⟩
  go_wp2_with fail
  refine (HD.out _).mono ?_
  rintro e w2 ⟨rfl, lo⟩
  have HL := Lib.hid lo
  clear lo
  go_wp2_with fail
  go_ret
  exact ⟨rfl, HL.out⟩

set_option maxRecDepth 100000 in
set_option maxHeartbeats 1600000 in
theorem coverFinds_ok (v : Value) (l : List Int) (g : Int) (w : World) (hr : Row w v l) (hn : l.length ≤ 500) (hc : Co.isCov l = true) (i : Nat) (ok : Bool) (hf : Co.find l g = (i, ok))
    (hok : ok = true ∧ i < l.length ∧ l.getD i 0 = g ∨ ok = false ∧ i = 0 ∧ ∀ j, j < l.length → l.getD j 0 ≠ g) :
    Calls Try.prog 6 #[v, .int .i64 g] w fun e w' => e = .returned (.bool true) ∧ Lo w w' := by
  have HF := Lib.hid (cofind_any v l g w hr)
  rw [hf] at HF
  have HI := Lib.hid (cois_any v l w hr)
  rw [hc] at HI
  have HD := Lib.hid (fun W => covered_any W)
  obtain ⟨p, c, rfl, _⟩ := hr.form
  have HR := Lib.hid hr
  have HS := Lib.hid (rshort12_any p l.length c w)
  rw [decide_eq_true hn] at HS
  dsimp only at HF
  have HOk := Lib.hid hok
  generalize l.length = n at *
  clear hr hc hf hok
  go_enter Try.func6, Try.ntmps6
  go_wp2_with fail
  refine HS.out.mono ?_
  rintro e w1 ⟨rfl, rfl⟩
  go_wp2_with fail
  refine HF.out.mono ?_
  rintro e w1 ⟨rfl, rfl⟩
  go_wp2_with fail
  refine HI.out.mono ?_
  rintro e w1 ⟨rfl, rfl⟩
  go_wp2_with fail
  go_loopw [7, 8] (fun s k W => ∃ (j : Nat) (b : Bool), j ≤ n ∧ k = .int .i64 (j : Int) ∧ s = .bool b ∧ Hid (b = true ↔ ∃ i, i < j ∧ l.getD i 0 = g) ∧ Hid (Lo w W)) (fun _ k _ => n - (intOf k).toNat)
  case atStart => exact ⟨0, false, Nat.zero_le _, rfl, rfl, Lib.hid ⟨fun h => (by cases h), fun ⟨i, h, _⟩ => by omega⟩, Lib.hid (Lo.refl _)⟩
  case round =>
    obtain ⟨j, b, hj, rfl, rfl, HB, HL⟩ := hrel
    rename World => W0
    by_cases hlt : j < n
    · obtain ⟨b0, off, rfl, cj⟩ := (HR.out.lo HL.out).at_ hlt
      cases b with
      | true =>
        have HB2 : Hid (true = true ↔ ∃ i, i < j + 1 ∧ l.getD i 0 = g) := Lib.hid ⟨fun _ => by obtain ⟨i, h1, h2⟩ := HB.out.1 rfl; exact ⟨i, by omega, h2⟩, fun _ => rfl⟩
        clear HB
        go_wp2_with fail
        go_roundw
        case rel => exact ⟨j + 1, true, by omega, by go_num, rfl, HB2, HL⟩
        case measure => simp [intOf]; omega
      | false =>
        by_cases he : l.getD j 0 = g
        · have HB2 : Hid (true = true ↔ ∃ i, i < j + 1 ∧ l.getD i 0 = g) := Lib.hid ⟨fun _ => ⟨j, by omega, he⟩, fun _ => rfl⟩
          rw [he] at cj
          clear HB he
          go_wp2_with fail
          go_roundw
          case rel => exact ⟨j + 1, true, by omega, by go_num, rfl, HB2, HL⟩
          case measure => simp [intOf]; omega
        · have hq : (l.getD j 0 == g) = false := by simpa using he
          have HB2 : Hid (false = true ↔ ∃ i, i < j + 1 ∧ l.getD i 0 = g) := Lib.hid ⟨fun h => (by cases h), fun ⟨i, h1, h2⟩ => by
            rcases Nat.lt_or_ge i j with h3 | h3
            · exact HB.out.2 ⟨i, h3, h2⟩
            · obtain rfl : i = j := by omega
              exact absurd h2 he⟩
          clear HB he
          generalize l.getD j 0 = x at *
          go_wp2_with fail
          go_roundw
          case rel => exact ⟨j + 1, false, by omega, by go_num, rfl, HB2, HL⟩
          case measure => simp [intOf]; omega
    · obtain rfl : j = n := by omega
      have hbo : b = ok := by
        rcases HOk.out with ⟨h1, h2, h3⟩ | ⟨h1, h2, h3⟩
        · rw [h1]; exact HB.out.2 ⟨i, h2, h3⟩
        · rw [h1]
          cases b with
          | false => rfl
          | true => obtain ⟨q, h4, h5⟩ := HB.out.1 rfl; exact absurd h5 (h3 q h4)
      subst hbo
      go_wp2_with fail
      refine (HD.out _).mono ?_
      rintro e w2 ⟨rfl, lo⟩
      have HL2 := Lib.hid (HL.out.trans lo)
      clear lo
      rcases HOk.out with ⟨rfl, h2, h3⟩ | ⟨rfl, rfl, _⟩
      · obtain ⟨b0, off, rfl, ci⟩ := (HR.out.lo HL2.out).at_ h2
        rw [h3] at ci
        have h2' : (i : Int) < (j : Int) := by omega
        clear h3 HOk HB
        by_cases h0 : i = 0
        · subst h0
          rw [Nat.add_zero] at ci
          go_wp2_with fail
          go_ret
          exact ⟨rfl, HL2.out⟩
        · have hq0 : ((i : Int) == 0) = false := by simp; omega
          go_wp2_with fail
          go_ret
          exact ⟨rfl, HL2.out⟩
      · clear HOk HB
        go_wp2_with fail
        go_ret
        exact ⟨rfl, HL2.out⟩

theorem coverFinds_walk (v : Value) (l : List Int) (g : Int) (w : World) (hr : Row w v l) (_w1 : (Lit.int .i64 g).wf = true) :
    Calls Try.prog 6 #[v, .int .i64 g] w fun e w' => e = .returned (.bool true) ∧ Below w.heap.size w w' := by
  by_cases hn : l.length ≤ 500
  · cases hc : Co.isCov l with
    | false => exact coverFinds_no v l g w hr hn hc
    | true =>
      rcases Co.find_or hc g with ⟨i, h1, h2, h3⟩ | ⟨h1, h2⟩
      · exact coverFinds_ok v l g w hr hn hc i true h3 (.inl ⟨rfl, h1, h2⟩)
      · exact coverFinds_ok v l g w hr hn hc 0 false h1 (.inr ⟨rfl, rfl, h2⟩)
  · obtain ⟨p, c, rfl, _⟩ := hr.form
    exact coverFinds_far p l.length c g w (by omega)
end Go.Proofs.Ytnamkelmbhankaa
