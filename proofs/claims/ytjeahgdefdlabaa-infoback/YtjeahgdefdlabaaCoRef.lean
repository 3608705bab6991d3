/-
  Contracts of the document's answers for layer 12: Is, word. No conditions beyond those stated.
-/
import Derived.Test.YtjeahgdefdlabaaCoIs
import Derived.Test.YtjeahgdefdlabaaBnRefP
import Derived.Test.YtjeahgdefdlabaaGkBytes
namespace Go.Proofs.Ytjeahgdefdlabaa
open Go.RowKit

set_option maxHeartbeats 4000000 in
theorem ris12_any (v : Value) (l : List Int) (w : World) (h : Row w v l) (hn : l.length ≤ 1000000) :
    Calls Try.prog 32 #[v] w fun e w' => e = .returned (.bool (Co.isCov l)) ∧ Lo w w' := by
  obtain ⟨p, c, rfl, _⟩ := h.form
  have HR := Lib.hid h
  generalize hy : Co.isCov l = y
  have HY : Hid (Co.asc (-1) (l.drop 0) = y) := Lib.hid (by rw [List.drop_zero]; exact hy)
  generalize hN : l.length = n at *
  have HN := Lib.hid hN
  clear hN h hy
  go_enter Try.func32, Try.ntmps32
  go_wp2_with fail
  go_loopw [3] (fun i W => ∃ (k : Nat) (z : Int), k ≤ n ∧ i = .int .i64 k ∧ Hid (-1 ≤ z ∧ (k = 0 → z = -1) ∧ (0 < k → l.getD (k - 1) 0 = z)) ∧ Hid (Co.asc z (l.drop k) = y) ∧ Hid (Lo w W)) (fun i _ => n - (intOf i).toNat)
  case atStart => exact ⟨0, -1, Nat.zero_le _, rfl, Lib.hid ⟨by omega, fun _ => rfl, fun h => by omega⟩, HY, Lib.hid (Lo.refl _)⟩
  case round =>
    obtain ⟨k, z, hk, rfl, HZ, HI, HL⟩ := hrel
    by_cases hlt : k < n
    · have hrow := HR.out.lo HL.out
      obtain ⟨b, off, rfl, ck⟩ := hrow.at_ hlt
      have HS : Hid ((decide (z < l.getD k 0) && decide (l.getD k 0 ≤ 65534) && Co.asc (l.getD k 0) (l.drop (k + 1))) = y) := Lib.hid (by rw [← Co.asc_step (by rw [HN.out]; exact hlt)]; exact HI.out)
      have hk0 : (0 : Int) ≤ (k : Int) := by omega
      have hkn : (k : Int) < (n : Int) := by omega
      clear HI
      cases k with
      | zero =>
        have hz : z = -1 := HZ.out.2.1 rfl
        subst hz
        rw [Nat.add_zero] at ck
        clear hrow
        generalize hx : l.getD 0 0 = x at *
        have HX := Lib.hid hx
        clear hx HZ
        by_cases h1 : x < 0
        · have HF : Hid (y = false) := Lib.hid (by rw [← HS.out, decide_eq_false (show ¬ (-1 : Int) < x by omega)]; rfl)
          go_wp2_with fail
          go_quiet (fail)
          have HL2 := Lib.hid (HL.out.drewN nq)
          go_wp2_with fail
          go_ret
          exact ⟨ret_bool HF.out.symm, HL2.out⟩
        · by_cases h2 : 65534 < x
          · have HF : Hid (y = false) := Lib.hid (by rw [← HS.out, decide_eq_false (show ¬ x ≤ 65534 by omega), Bool.and_false]; rfl)
            have he1 : decide (x < 0) = false := decide_eq_false h1
            have he2 : decide (65534 < x) = true := decide_eq_true h2
            clear h1 h2
            go_wp2_with fail
            go_quiet (fail)
            have HL2 := Lib.hid (HL.out.drewN nq)
            go_wp2_with fail
            go_ret
            exact ⟨ret_bool HF.out.symm, HL2.out⟩
          · have HT : Hid (Co.asc x (l.drop (0 + 1)) = y) := Lib.hid (by rw [← HS.out, decide_eq_true (show (-1 : Int) < x by omega), decide_eq_true (show x ≤ 65534 by omega)]; rfl)
            have hx0 : -1 ≤ x := by omega
            have HZ4 : Hid (-1 ≤ x ∧ (0 + 1 = 0 → x = -1) ∧ (0 < 0 + 1 → l.getD (0 + 1 - 1) 0 = x)) := Lib.hid ⟨hx0, fun h => by omega, fun _ => HX.out⟩
            have he1 : decide (x < 0) = false := decide_eq_false h1
            have he2 : decide (65534 < x) = false := decide_eq_false h2
            clear h1 h2
            go_wp2_with fail
            go_quiet (fail)
            have HL2 := Lib.hid (HL.out.drewN nq)
            go_wp2_with fail
            go_roundw
            case rel => exact ⟨1, x, by omega, by go_num, HZ4, HT, HL2⟩
            case measure => simp [intOf]; omega
      | succ j =>
        obtain ⟨b', off', e1, cj⟩ := hrow.at_ (k := j) (by omega)
        simp only [Option.some.injEq, Addr.mk.injEq, and_true] at e1
        obtain ⟨rfl, rfl⟩ := e1
        have hzz : l.getD j 0 = z := HZ.out.2.2 (by omega)
        have hz1 : -1 ≤ z := HZ.out.1
        rw [hzz] at cj
        clear hrow hzz
        clear HZ
        generalize hq : j + 1 = q at *
        generalize hx : l.getD q 0 = x at *
        have HX := Lib.hid hx
        clear hx
        have hq1 : IntKind.i64.wrap ((q : Int) - 1) = (j : Int) := by rw [IntWalk.i64_in _ (by omega)]; omega
        have hq2 : decide (0 < q) = true := decide_eq_true (by omega)
        have hj0 : (0 : Int) ≤ (j : Int) := by omega
        have hjn : (j : Int) < (n : Int) := by omega
        have hjt : (q : Int) - 1 = (j : Int) := by omega
        have HQ := Lib.hid hq
        clear hq
        by_cases h1 : x < 0
        · have HF : Hid (y = false) := Lib.hid (by rw [← HS.out, decide_eq_false (show ¬ z < x by omega)]; rfl)
          go_wp2_with fail
          go_quiet (fail)
          have HL2 := Lib.hid (HL.out.drewN nq)
          go_wp2_with fail
          go_ret
          exact ⟨ret_bool HF.out.symm, HL2.out⟩
        · by_cases h2 : 65534 < x
          · have HF : Hid (y = false) := Lib.hid (by rw [← HS.out, decide_eq_false (show ¬ x ≤ 65534 by omega), Bool.and_false]; rfl)
            have he1 : decide (x < 0) = false := decide_eq_false h1
            have he2 : decide (65534 < x) = true := decide_eq_true h2
            clear h1 h2
            go_wp2_with fail
            go_quiet (fail)
            have HL2 := Lib.hid (HL.out.drewN nq)
            go_wp2_with fail
            go_ret
            exact ⟨ret_bool HF.out.symm, HL2.out⟩
          · by_cases h3 : x ≤ z
            · have HF : Hid (y = false) := Lib.hid (by rw [← HS.out, decide_eq_false (show ¬ z < x by omega)]; rfl)
              have he1 : decide (x < 0) = false := decide_eq_false h1
              have he2 : decide (65534 < x) = false := decide_eq_false h2
              have he3 : decide (x ≤ z) = true := decide_eq_true h3
              clear h1 h2 h3
              go_wp2_with fail
              go_quiet (fail)
              have HL2 := Lib.hid (HL.out.drewN nq)
              go_wp2_with fail
              go_ret
              exact ⟨ret_bool HF.out.symm, HL2.out⟩
            · have HT : Hid (Co.asc x (l.drop (q + 1)) = y) := Lib.hid (by rw [← HS.out, decide_eq_true (show z < x by omega), decide_eq_true (show x ≤ 65534 by omega)]; rfl)
              have hx0 : -1 ≤ x := by omega
              have HZ4 : Hid (-1 ≤ x ∧ (q + 1 = 0 → x = -1) ∧ (0 < q + 1 → l.getD (q + 1 - 1) 0 = x)) := Lib.hid ⟨hx0, fun h => by omega, fun _ => HX.out⟩
              have he1 : decide (x < 0) = false := decide_eq_false h1
              have he2 : decide (65534 < x) = false := decide_eq_false h2
              have he3 : decide (x ≤ z) = false := decide_eq_false h3
              clear h1 h2 h3
              go_wp2_with fail
              go_quiet (fail)
              have HL2 := Lib.hid (HL.out.drewN nq)
              go_wp2_with fail
              go_roundw
              case rel => exact ⟨q + 1, x, by omega, by go_num, HZ4, HT, HL2⟩
              case measure => simp [intOf]; omega
    · obtain rfl : k = n := by omega
      have HF : Hid (y = true) := Lib.hid (by rw [← HI.out, List.drop_of_length_le (by rw [HN.out]; omega)]; rfl)
      go_wp2_with fail
      go_ret
      exact ⟨ret_bool HF.out.symm, HL.out⟩

set_option maxHeartbeats 400000 in
theorem rword12_any (s : List UInt8) (p : Nat) (w : World) (h : p + 2 ≤ s.length) (hl : s.length ≤ 9223372036854775807) :
    Calls Try.prog 45 #[.string ⟨s.toArray⟩, .int .i64 (p : Int)] w fun e w' => e = .returned (.int .i64 (Co.word s p)) ∧ w = w' := by
  have HO := Lib.hid (fun W => rone_any ((s.drop p).take 2) 2 W (by rw [List.length_take]; omega))
  have hx : (⟨s.toArray⟩ : ByteArray).extract p (p + 2) = ⟨((s.drop p).take 2).toArray⟩ := by rw [Gk.extract_list, show p + 2 - p = 2 by omega]
  have h1 : (p : Int) + 2 ≤ (s.length : Int) := by omega
  go_enter Try.func45, Try.ntmps45
  go_wp2_with fail
  refine (HO.out _).mono ?_
  rintro e w' ⟨rfl, rfl⟩
  go_wp2_with fail
  go_ret
  exact ⟨rfl, rfl⟩

end Go.Proofs.Ytjeahgdefdlabaa
