/-
  Facts that the walks rest on: BnBase, CuBase, CoFacts. No conditions beyond those stated.
-/
import Derived.Test.YtcnmfgdeanbhoaaGround
import Derived.Test.YtcnmfgdeanbhoaaPlain
import Derived.Laws.BitsAllLaws
import Derived.Test.YtcnmfgdeanbhoaaPart03
import Derived.Test.YtcnmfgdeanbhoaaPart02
/-
  Contracts of package bin's small functions: width, areSizes, total, bounds, fits. No conditions beyond those stated.
-/
namespace Bn
theorem size_cases {n : Int} (h : isSize n = true) : n = 1 ∨ n = 2 ∨ n = 3 ∨ n = 4 ∨ n = -1 ∨ n = -2 ∨ n = -3 ∨ n = -4 := by
  rw [isSize_iff] at h; omega
/-- The least number of a size, and the one behind its greatest. -/
def lo (size : Int) : Int := if size < 0 then -((256 ^ size.natAbs / 2 : Nat) : Int) else 0
def hi (size : Int) : Int := if size < 0 then ((256 ^ size.natAbs / 2 : Nat) : Int) else ((256 ^ size.natAbs : Nat) : Int)
theorem fits_lohi (v size : Int) : fits v size = (decide (lo size ≤ v) && decide (v < hi size)) := by
  unfold fits lo hi
  by_cases h : size < 0
  · simp [h]
  · simp [h]
theorem allSizes_snoc (l : List Int) (n : Int) : allSizes (l ++ [n]) = (allSizes l && isSize n) := by simp [allSizes]
theorem allSizes_false {l : List Int} {k : Nat} (hk : k < l.length) (h : isSize (l.getD k 0) = false) : allSizes l = false := by
  have hmem : l.getD k 0 ∈ l := by simp [List.getD, List.getElem?_eq_getElem hk]
  cases e : allSizes l with
  | false => rfl
  | true => rw [List.all_eq_true.1 e _ hmem] at h; cases h
theorem allSizes_at {l : List Int} {k : Nat} (h : allSizes l = true) (hk : k < l.length) : isSize (l.getD k 0) = true := by
  have hmem : l.getD k 0 ∈ l := by simp [List.getD, List.getElem?_eq_getElem hk]
  exact List.all_eq_true.1 h _ hmem
theorem take_snoc {l : List Int} {k : Nat} (hk : k < l.length) : l.take (k + 1) = l.take k ++ [l.getD k 0] := by
  rw [List.take_succ_eq_append_getElem hk]; simp [List.getD, List.getElem?_eq_getElem hk]
theorem many_snoc (l : List Int) (n : Int) : many (l ++ [n]) = many l + n.natAbs := by simp [many]
theorem many_le (l : List Int) (h : allSizes l = true) : many l ≤ 4 * l.length := by
  induction l with
  | nil => simp [many]
  | cons n r ih =>
    simp only [allSizes, List.all_cons, Bool.and_eq_true] at h
    have := isSize_wide h.1
    have := ih h.2
    rw [many_cons, List.length_cons]; omega
theorem many_take_le (l : List Int) (h : allSizes l = true) (k : Nat) : many (l.take k) ≤ 4 * k := by
  have h1 : allSizes (l.take k) = true := by
    unfold allSizes at *
    rw [List.all_eq_true] at *
    exact fun x hx => h x (List.mem_of_mem_take hx)
  have := many_le _ h1
  rw [List.length_take] at this
  omega
end Bn
namespace Go.Proofs.Ytcnmfgdeanbhoaa
open Go.RowKit

/-- The error k, raised. -/
def raise (k : Int) : List PanicEntry := [{ v := .iface 25 (.int .i64 k), recovered := false }]

/-- A slice that reads as l, taken apart. -/
theorem Row.form {w : World} {v : Value} {l : List Int} (h : Row w v l) : ∃ p c, v = .slice p l.length c ∧ l.length ≤ 9223372036854775807 := by
  rcases h with ⟨p, c, rfl, _, rfl⟩ | ⟨b, off, cap, rfl, h2, h2b, h3, h4⟩
  · exact ⟨_, _, rfl, by simp⟩
  · exact ⟨_, _, rfl, h2⟩
theorem Row.at_ {w : World} {p : Option Addr} {n c : Nat} {l : List Int} (h : Row w (.slice p n c) l) {k : Nat} (hk : k < n) :
    ∃ b off, p = some ⟨b, off, none⟩ ∧ w.cell? ⟨b, off + k, none⟩ = some (.int .i64 (l.getD k 0)) := by
  rcases h with ⟨_, _, h1, _, rfl⟩ | ⟨b, off, cap, h1, h2, h2b, h3, h4⟩
  · injection h1 with _ h1 _; omega
  · injection h1 with hp hn _
    exact ⟨b, off, hp, h4 k (by omega)⟩

set_option maxHeartbeats 400000 in
theorem width_any (n : Int) (w : World) (h : Bn.isSize n = true) :
    Calls Try.prog 55 #[.int .i64 n] w fun e w' => e = .returned (.int .i64 n.natAbs) ∧ w = w' := by
  rw [Bn.isSize_iff] at h
  by_cases hn : n < 0
  · go_enter Try.func55, Try.ntmps55
    go_wp2
    go_ret
    exact ⟨ret_int (by omega), rfl⟩
  · go_enter Try.func55, Try.ntmps55
    go_wp2
    go_ret
    exact ⟨ret_int (by omega), rfl⟩

set_option maxHeartbeats 400000 in
theorem bounds_any (n : Int) (w : World) (h : Bn.isSize n = true) :
    Calls Try.prog 81 #[.int .i64 n] w fun e w' => e = .returned (.tuple #[.int .i64 (Bn.lo n), .int .i64 (Bn.hi n)]) ∧ w = w' := by
  rcases Bn.size_cases h with rfl | rfl | rfl | rfl | rfl | rfl | rfl | rfl
  all_goals
    go_enter Try.func81, Try.ntmps81
    go_wp2_with fail
    refine (width_any _ _ h).mono ?_
    rintro e w' ⟨rfl, rfl⟩
    go_wp2_with fail
    go_ret2
    exact ⟨rfl, rfl⟩

set_option maxHeartbeats 400000 in
theorem fits_any (v n : Int) (w : World) (h : Bn.isSize n = true) :
    Calls Try.prog 68 #[.int .i64 v, .int .i64 n] w fun e w' => e = .returned (.bool (Bn.fits v n)) ∧ w = w' := by
  rw [Bn.fits_lohi]
  have HB := Lib.hid (fun W => bounds_any n W h)
  clear h
  generalize Bn.lo n = x at *
  generalize Bn.hi n = y at *
  by_cases h1 : x ≤ v
  · by_cases h2 : v < y
    · go_enter Try.func68, Try.ntmps68
      go_wp2_with fail
      refine (HB.out _).mono ?_
      rintro e w' ⟨rfl, rfl⟩
      go_wp2_with fail
      go_ret
      exact ⟨ret_bool (by simp; omega), rfl⟩
    · go_enter Try.func68, Try.ntmps68
      go_wp2_with fail
      refine (HB.out _).mono ?_
      rintro e w' ⟨rfl, rfl⟩
      go_wp2_with fail
      go_ret
      exact ⟨ret_bool (by simp; omega), rfl⟩
  · go_enter Try.func68, Try.ntmps68
    go_wp2_with fail
    refine (HB.out _).mono ?_
    rintro e w' ⟨rfl, rfl⟩
    go_wp2_with fail
    go_ret
    exact ⟨ret_bool (by simp; omega), rfl⟩

set_option maxHeartbeats 400000 in
theorem areSizes_any (v : Value) (l : List Int) (w : World) (h : Row w v l) :
    Calls Try.prog 49 #[v] w fun e w' => e = .returned (.bool (Bn.allSizes l)) ∧ w = w' := by
  obtain ⟨p, c, rfl, hlen⟩ := h.form
  have HR := Lib.hid h
  generalize hn : l.length = n at *
  have HN := Lib.hid hn
  clear hn h
  go_enter Try.func49, Try.ntmps49
  go_wp2_with fail
  go_loop [4, 7] (fun _ i => ∃ k : Nat, k ≤ n ∧ i = .int .i64 k ∧ Hid (Bn.allSizes (l.take k) = true)) (fun _ i => n - (intOf i).toNat)
  case atStart => exact ⟨0, Nat.zero_le _, rfl, Lib.hid rfl⟩
  case round =>
    obtain ⟨k, hk, rfl, HI⟩ := hrel
    by_cases hlt : k < n
    · obtain ⟨b, off, rfl, hcell⟩ := HR.out.at_ hlt
      have HK : Hid (k < l.length) := Lib.hid (by rw [HN.out]; exact hlt)
      have HT := Lib.hid (Bn.take_snoc HK.out)
      generalize hz : l.getD k 0 = z at *
      have HZ := Lib.hid hz
      clear hz
      by_cases h1 : z = 0
      · have HF : Hid (Bn.allSizes l = false) := Lib.hid (Bn.allSizes_false HK.out (by rw [HZ.out, h1]; rfl))
        subst h1
        go_wp2_with fail
        go_ret
        exact ⟨ret_bool HF.out.symm, rfl⟩
      · have h1b : (z == 0) = false := by simpa using h1
        by_cases h2 : z < -4
        · have HF : Hid (Bn.allSizes l = false) := Lib.hid (Bn.allSizes_false HK.out (by rw [HZ.out, Bool.eq_false_iff]; intro hc; rw [Bn.isSize_iff] at hc; omega))
          clear h1
          go_wp2_with fail
          go_ret
          exact ⟨ret_bool HF.out.symm, rfl⟩
        · by_cases h3 : 4 < z
          · have HF : Hid (Bn.allSizes l = false) := Lib.hid (Bn.allSizes_false HK.out (by rw [HZ.out, Bool.eq_false_iff]; intro hc; rw [Bn.isSize_iff] at hc; omega))
            clear h1
            go_wp2_with fail
            go_ret
            exact ⟨ret_bool HF.out.symm, rfl⟩
          · have HS : Hid (Bn.isSize z = true) := Lib.hid (by rw [Bn.isSize_iff]; omega)
            clear h1
            go_wp2_with fail
            go_round
            case rel => exact ⟨k + 1, by omega, by go_num, Lib.hid (by rw [HT.out, Bn.allSizes_snoc, HI.out, HS.out]; rfl)⟩
            case measure => simp [intOf]; omega
    · go_wp2_with fail
      go_ret
      refine ⟨ret_bool ?_, rfl⟩
      have h1 : l.take k = l := List.take_of_length_le (by rw [HN.out]; omega)
      have := HI.out
      rw [h1] at this
      exact this.symm

set_option maxHeartbeats 400000 in
theorem total_any (v : Value) (l : List Int) (w : World) (h : Row w v l) (hs : Bn.allSizes l = true) (hsmall : l.length ≤ 1000000) :
    Calls Try.prog 53 #[v] w fun e w' => e = .returned (.int .i64 (Bn.many l : Nat)) ∧ w = w' := by
  obtain ⟨p, c, rfl, hlen⟩ := h.form
  have HR := Lib.hid h
  have HS := Lib.hid hs
  generalize hn : l.length = n at *
  have HN := Lib.hid hn
  clear hn h hs hlen
  go_enter Try.func53, Try.ntmps53
  go_wp2_with fail
  go_loop [3, 5, 8] (fun s _ i => ∃ k m : Nat, k ≤ n ∧ i = .int .i64 k ∧ s = .int .i64 m ∧ Hid (m = Bn.many (l.take k))) (fun _ _ i => n - (intOf i).toNat)
  case atStart => exact ⟨0, 0, Nat.zero_le _, rfl, rfl, Lib.hid rfl⟩
  case round =>
    obtain ⟨k, m, hk, rfl, rfl, HM⟩ := hrel
    have hm : m ≤ 4 * k := by rw [HM.out]; exact Bn.many_take_le l HS.out k
    by_cases hlt : k < n
    · obtain ⟨b, off, rfl, hcell⟩ := HR.out.at_ hlt
      have HK : Hid (k < l.length) := Lib.hid (by rw [HN.out]; exact hlt)
      have HT := Lib.hid (Bn.take_snoc HK.out)
      have HZ := Lib.hid (Bn.allSizes_at HS.out HK.out)
      have hw4 := (Bn.isSize_wide HZ.out).2
      generalize l.getD k 0 = z at *
      go_wp2_with fail
      refine (width_any z _ HZ.out).mono ?_
      rintro e w1 ⟨rfl, rfl⟩
      generalize hq : z.natAbs = q at *
      have HQ := Lib.hid hq
      clear hq
      go_wp2_with fail
      go_round
      case rel => exact ⟨k + 1, m + q, by omega, by go_num, by go_num, Lib.hid (by rw [HT.out, Bn.many_snoc, ← HM.out, HQ.out])⟩
      case measure => simp [intOf]; omega
    · go_wp2_with fail
      go_ret
      refine ⟨ret_int ?_, rfl⟩
      have h1 : l.take k = l := List.take_of_length_le (by rw [HN.out]; omega)
      rw [HM.out, h1]

end Go.Proofs.Ytcnmfgdeanbhoaa
/-
  Contracts of package cutin's small functions: fit, rise, passed (made for int), Is, At. No conditions beyond those stated.
-/
namespace Go.Proofs.Ytcnmfgdeanbhoaa
open Go.RowKit

set_option maxHeartbeats 800000 in
theorem cufit_any (v : Value) (l : List Int) (w : World) (h : Row w v l) : Calls Try.prog 44 #[v] w fun e w' => e = .returned (.bool (Cu.allS l)) ∧ w = w' := by
  obtain ⟨pu, cu, rfl, hlen⟩ := h.form
  have HR := Lib.hid h
  have HB := Lib.hid (fun k hk hf => @Cu.allS_bad l k hk hf)
  have HA := Lib.hid (fun k => @Cu.allS_all l k)
  generalize Cu.allS l = y at *
  generalize hn : l.length = n at *
  have HN := Lib.hid hn
  clear hn h
  go_enter Try.func44, Try.ntmps44
  go_wp2_with fail
  go_loopw [4, 7] (fun _ i W => ∃ (k : Nat), k ≤ n ∧ i = .int .i64 k ∧ Hid (∀ i, i < k → Bn.fits (l.getD i 0) (-2) = true) ∧ w = W) (fun _ i _ => n - (intOf i).toNat)
  case atStart => exact ⟨0, Nat.zero_le _, rfl, Lib.hid (fun i h => by omega), rfl⟩
  case round =>
    obtain ⟨k, hk, rfl, HI, rfl⟩ := hrel
    by_cases hlt : k < n
    · have hk' : k < l.length := by rw [HN.out]; exact hlt
      obtain ⟨b, off, rfl, c1⟩ := HR.out.at_ (k := k) hlt
      have HS : Hid (Bn.fits (l.getD k 0) (-2) = true → ∀ i, i < k + 1 → Bn.fits (l.getD i 0) (-2) = true) := Lib.hid (fun h i hi => by
        rcases Nat.lt_or_ge i k with h1 | h1
        · exact HI.out i h1
        · obtain rfl : i = k := by omega
          exact h)
      have HBk := Lib.hid (HB.out k hlt)
      clear hk'
      generalize l.getD k 0 = z at *
      by_cases h1 : z < -32768
      · have HF : Hid (y = false) := Lib.hid (HBk.out (by rw [Cu.fits_in, decide_eq_false (by omega)]; rfl))
        clear HS HBk
        go_wp2_with fail
        go_ret
        exact ⟨ret_bool HF.out.symm, rfl⟩
      · by_cases h2 : 32767 < z
        · have HF : Hid (y = false) := Lib.hid (HBk.out (by rw [Cu.fits_in, decide_eq_false (show ¬ z ≤ 32767 by omega), Bool.and_false]))
          clear HS HBk
          go_wp2_with fail
          go_ret
          exact ⟨ret_bool HF.out.symm, rfl⟩
        · have HI2 := Lib.hid (HS.out (by rw [Cu.fits_in, decide_eq_true (show -32768 ≤ z by omega), decide_eq_true (show z ≤ 32767 by omega)]; rfl))
          clear HS HBk
          go_wp2_with fail
          go_roundw
          case rel => exact ⟨k + 1, by omega, by go_num, HI2, trivial⟩
          case measure => simp [intOf]; omega
    · obtain rfl : k = n := by omega
      have HF : Hid (y = true) := Lib.hid (HA.out HI.out)
      go_wp2_with fail
      go_ret
      exact ⟨ret_bool HF.out.symm, rfl⟩

set_option maxHeartbeats 800000 in
theorem curise_any (v : Value) (l : List Int) (w : World) (h : Row w v l) : Calls Try.prog 45 #[v] w fun e w' => e = .returned (.bool (Cu.inc l)) ∧ Lo w w' := by
  obtain ⟨pu, cu, rfl, hlen⟩ := h.form
  have HR := Lib.hid h
  have HB := Lib.hid (fun k hk hf => @Cu.inc_bad l k hk hf)
  have HA := Lib.hid (@Cu.inc_at l).2
  generalize Cu.inc l = y at *
  generalize hn : l.length = n at *
  have HN := Lib.hid hn
  clear hn h
  go_enter Try.func45, Try.ntmps45
  go_wp2_with fail
  go_loopw [3] (fun i W => ∃ (k : Nat), (k ≤ n ∨ k = 1) ∧ 1 ≤ k ∧ i = .int .i64 k ∧ Hid (∀ i, i + 1 < k → l.getD i 0 < l.getD (i + 1) 0) ∧ Hid (Lo w W)) (fun i _ => n - (intOf i).toNat)
  case atStart => exact ⟨1, .inr rfl, Nat.le_refl _, rfl, Lib.hid (fun i h => by omega), Lib.hid (Lo.refl _)⟩
  case round =>
    obtain ⟨k, hk, hk1, rfl, HI, HL⟩ := hrel
    by_cases hlt : k < n
    · obtain ⟨m, rfl⟩ : ∃ m, k = m + 1 := ⟨k - 1, by omega⟩
      have hk' : m + 1 < l.length := by rw [HN.out]; exact hlt
      obtain ⟨b, off, rfl, c1⟩ := (HR.out.lo HL.out).at_ (k := m) (by omega)
      obtain ⟨b', off', he, c2⟩ := (HR.out.lo HL.out).at_ (k := m + 1) hlt
      simp only [Option.some.injEq, Addr.mk.injEq, and_true] at he
      obtain ⟨rfl, rfl⟩ := he
      have HS : Hid (l.getD m 0 < l.getD (m + 1) 0 → ∀ i, i + 1 < m + 1 + 1 → l.getD i 0 < l.getD (i + 1) 0) := Lib.hid (fun h i hi => by
        rcases Nat.lt_or_ge (i + 1) (m + 1) with h1 | h1
        · exact HI.out i h1
        · obtain rfl : i = m := by omega
          exact h)
      have HBk := Lib.hid (HB.out m hlt)
      have hm1 : IntKind.i64.wrap (((m + 1 : Nat) : Int) - 1) = (m : Int) := by rw [show ((m + 1 : Nat) : Int) - 1 = (m : Int) by omega]; exact IntWalk.i64_in _ (by omega)
      clear hk'
      generalize l.getD m 0 = z at *
      generalize l.getD (m + 1) 0 = z2 at *
      by_cases h1 : z2 ≤ z
      · have HF : Hid (y = false) := Lib.hid (HBk.out h1)
        clear HS HBk
        go_wp2_with fail
        go_quiet (fail)
        have HL2 := Lib.hid (HL.out.drewN nq)
        go_wp2_with fail
        go_ret
        exact ⟨ret_bool HF.out.symm, HL2.out⟩
      · have HI2 := Lib.hid (HS.out (by omega))
        clear HS HBk
        go_wp2_with fail
        go_quiet (fail)
        have HL2 := Lib.hid (HL.out.drewN nq)
        go_wp2_with fail
        go_roundw
        case rel => exact ⟨m + 1 + 1, .inl (by omega), by omega, by go_num, HI2, HL2⟩
        case measure => simp [intOf]; omega
    · have HF : Hid (y = true) := Lib.hid (HA.out (fun i hi => HI.out i (by omega)))
      go_wp2_with fail
      go_ret
      exact ⟨ret_bool HF.out.symm, HL.out⟩

set_option maxHeartbeats 800000 in
theorem cupassed_any (v : Value) (l : List Int) (h : Int) (w : World) (hr : Row w v l) (hn : l.length ≤ 1000000) :
    Calls Try.prog 47 #[v, .int .i64 h] w fun e w' => (∃ k : Nat, e = .returned (.int .i64 (k : Int)) ∧ k ≤ l.length ∧ (k = 0 ∨ l.getD (k - 1) 0 ≤ h) ∧ (k = l.length ∨ h < l.getD k 0)) ∧ w = w' := by
  obtain ⟨pu, cu, rfl, _⟩ := hr.form
  have HR := Lib.hid hr
  generalize hL : l.length = n at *
  have HN := Lib.hid hL
  clear hL hr
  go_enter Try.func47, Try.ntmps47
  go_wp2_with fail
  go_loopw [5, 6, 7] (fun s5 s6 _ W => ∃ lo hi : Nat, s5 = .int .i64 lo ∧ s6 = .int .i64 hi ∧ lo ≤ hi ∧ hi ≤ n ∧ Hid ((lo = 0 ∨ l.getD (lo - 1) 0 ≤ h) ∧ (hi = n ∨ h < l.getD hi 0)) ∧ w = W) (fun s5 s6 _ _ => (intOf s6).toNat - (intOf s5).toNat)
  case atStart => exact ⟨0, n, rfl, rfl, Nat.zero_le _, Nat.le_refl _, Lib.hid ⟨.inl rfl, .inl rfl⟩, rfl⟩
  case round =>
    obtain ⟨lo, hi, rfl, rfl, hlh, hin, HI, rfl⟩ := hrel
    by_cases hlt : lo < hi
    · obtain ⟨m, hm⟩ : ∃ m, (lo + hi) / 2 = m := ⟨_, rfl⟩
      have hm2 : ((lo : Int) + (hi : Int)) / 2 = (m : Int) := by omega
      have hm3 : lo ≤ m ∧ m < hi := by omega
      obtain ⟨b, off, rfl, c1⟩ := HR.out.at_ (k := m) (by omega)
      by_cases hp : l.getD m 0 ≤ h
      · have HI2 : Hid ((m + 1 = 0 ∨ l.getD (m + 1 - 1) 0 ≤ h) ∧ (hi = n ∨ h < l.getD hi 0)) := Lib.hid ⟨.inr hp, HI.out.2⟩
        clear HI
        obtain ⟨z, hz⟩ : ∃ z, l.getD m 0 = z := ⟨_, rfl⟩
        rw [hz] at c1 hp
        clear hz
        go_wp2_with fail
        go_roundw
        case rel => exact ⟨m + 1, hi, by go_num, rfl, by omega, hin, HI2, trivial⟩
        case measure => simp [intOf]; omega
      · have HI2 : Hid ((lo = 0 ∨ l.getD (lo - 1) 0 ≤ h) ∧ (m = n ∨ h < l.getD m 0)) := Lib.hid ⟨HI.out.1, .inr (by omega)⟩
        clear HI
        obtain ⟨z, hz⟩ : ∃ z, l.getD m 0 = z := ⟨_, rfl⟩
        rw [hz] at c1 hp
        clear hz
        go_wp2_with fail
        go_roundw
        case rel => exact ⟨lo, m, rfl, by go_num, by omega, by omega, HI2, trivial⟩
        case measure => simp [intOf]; omega
    · obtain rfl : hi = lo := by omega
      go_wp2_with fail
      go_ret
      exact ⟨⟨hi, rfl, hin, HI.out.1, HI.out.2⟩, rfl⟩

/-- A stair's two rows in the block of a struct. -/
theorem two_cells {T ty : Nat} {a b : Value} {w : World} (h : w.heap[T]? = some (.cells #[a, b] ty (0, 0))) : w.cell? ⟨T, 0, none⟩ = some a ∧ w.cell? ⟨T, 1, none⟩ = some b := ⟨block_cell h rfl, block_cell h rfl⟩

set_option maxHeartbeats 1600000 in
/-- Is. -/
theorem cuis_any (u v : Value) (x : Cu.Stair) (w : World) (h1 : Row w u x.1) (h2 : Row w v x.2) :
    Calls Try.prog 18 #[.agg #[u, v]] w fun e w' => e = .returned (.bool (Cu.isS x)) ∧ Lo w w' := by
  have HF1 := Lib.hid (fun W (h : Row W u x.1) => cufit_any u x.1 W h)
  have HF2 := Lib.hid (fun W (h : Row W v x.2) => cufit_any v x.2 W h)
  have HF3 := Lib.hid (fun W (h : Row W u x.1) => curise_any u x.1 W h)
  obtain ⟨pu, cu, rfl, hm1⟩ := h1.form
  obtain ⟨pv, cv, rfl, hm2⟩ := h2.form
  have HR1 := Lib.hid h1
  have HR2 := Lib.hid h2
  have HA := Lib.hid (@Cu.isS_none2 x)
  have HB := Lib.hid (@Cu.isS_long x)
  have HC := Lib.hid (@Cu.isS_other x)
  have HD := Lib.hid (@Cu.isS_all x)
  generalize Cu.isS x = y at *
  generalize Cu.allS x.1 = a1 at *
  generalize Cu.allS x.2 = a2 at *
  generalize Cu.inc x.1 = a3 at *
  generalize x.1.length = n at *
  generalize x.2.length = m at *
  generalize x.1 = l1 at *
  generalize x.2 = l2 at *
  clear h1 h2
  by_cases hA : n = 0 ∧ m = 0
  · obtain ⟨rfl, rfl⟩ := hA
    have HF : Hid (y = true) := Lib.hid (HA.out rfl rfl)
    clear HA HB HC HD HF1 HF2 HF3 HR1 HR2
    go_enter Try.func18, Try.ntmps18
    go_wp2_with fail
    go_ret
    exact ⟨ret_bool HF.out.symm, (Lo.refl w).alloc _⟩
  · by_cases hB : 64 < n
    · have HF : Hid (y = false) := Lib.hid (HB.out hB)
      have h0 : ¬ (n : Int) = 0 := by omega
      have h64 : (64 : Int) < (n : Int) := by omega
      clear HA HB HC HD HF1 HF2 HF3 HR1 HR2
      go_enter Try.func18, Try.ntmps18
      go_wp2_with fail
      go_ret
      exact ⟨ret_bool HF.out.symm, (Lo.refl w).alloc _⟩
    · have h64 : ¬ (64 : Int) < (n : Int) := by omega
      by_cases hC : m = n + 1
      · have HE := Lib.hid (HD.out (by omega) hC)
        subst hC
        clear HA HB HC HD hA
        have hall : ∀ (b1 b2 b3 : Bool), a1 = b1 → a2 = b2 → a3 = b3 → y = ((b1 && b2) && b3) := by rintro _ _ _ rfl rfl rfl; exact HE.out
        have HY := Lib.hid hall
        clear hall HE
        by_cases h0 : n = 0
        · subst h0
          cases a1 with
          | false =>
            have HF : Hid (y = false) := Lib.hid (HY.out _ _ _ rfl rfl rfl)
            go_enter Try.func18, Try.ntmps18
            go_wp2_with fail
            refine (HF1.out _ (HR1.out.lo ((Lo.refl w).alloc _))).mono ?_
            rintro e w1 ⟨rfl, rfl⟩
            go_wp2_with fail
            go_ret
            exact ⟨ret_bool HF.out.symm, (Lo.refl w).alloc _⟩
          | true =>
            cases a2 with
            | false =>
              have HF : Hid (y = false) := Lib.hid (HY.out _ _ _ rfl rfl rfl)
              go_enter Try.func18, Try.ntmps18
              go_wp2_with fail
              refine (HF1.out _ (HR1.out.lo ((Lo.refl w).alloc _))).mono ?_
              rintro e w1 ⟨rfl, rfl⟩
              go_wp2_with fail
              refine (HF2.out _ (HR2.out.lo ((Lo.refl w).alloc _))).mono ?_
              rintro e w1 ⟨rfl, rfl⟩
              go_wp2_with fail
              go_ret
              exact ⟨ret_bool HF.out.symm, (Lo.refl w).alloc _⟩
            | true =>
              have HF : Hid (y = a3) := Lib.hid ((HY.out _ _ _ rfl rfl rfl).trans (by simp))
              go_enter Try.func18, Try.ntmps18
              go_wp2_with fail
              refine (HF1.out _ (HR1.out.lo ((Lo.refl w).alloc _))).mono ?_
              rintro e w1 ⟨rfl, rfl⟩
              go_wp2_with fail
              refine (HF2.out _ (HR2.out.lo ((Lo.refl w).alloc _))).mono ?_
              rintro e w1 ⟨rfl, rfl⟩
              go_wp2_with fail
              refine (HF3.out _ (HR1.out.lo ((Lo.refl w).alloc _))).mono ?_
              rintro e w1 ⟨rfl, lo⟩
              have HL := Lib.hid (((Lo.refl w).alloc _).trans lo)
              clear lo
              go_wp2_with fail
              go_ret
              exact ⟨ret_bool HF.out.symm, HL.out⟩
        · have h0i : ¬ (n : Int) = 0 := by omega
          cases a1 with
          | false =>
            have HF : Hid (y = false) := Lib.hid (HY.out _ _ _ rfl rfl rfl)
            go_enter Try.func18, Try.ntmps18
            go_wp2_with fail
            refine (HF1.out _ (HR1.out.lo ((Lo.refl w).alloc _))).mono ?_
            rintro e w1 ⟨rfl, rfl⟩
            go_wp2_with fail
            go_ret
            exact ⟨ret_bool HF.out.symm, (Lo.refl w).alloc _⟩
          | true =>
            cases a2 with
            | false =>
              have HF : Hid (y = false) := Lib.hid (HY.out _ _ _ rfl rfl rfl)
              go_enter Try.func18, Try.ntmps18
              go_wp2_with fail
              refine (HF1.out _ (HR1.out.lo ((Lo.refl w).alloc _))).mono ?_
              rintro e w1 ⟨rfl, rfl⟩
              go_wp2_with fail
              refine (HF2.out _ (HR2.out.lo ((Lo.refl w).alloc _))).mono ?_
              rintro e w1 ⟨rfl, rfl⟩
              go_wp2_with fail
              go_ret
              exact ⟨ret_bool HF.out.symm, (Lo.refl w).alloc _⟩
            | true =>
              have HF : Hid (y = a3) := Lib.hid ((HY.out _ _ _ rfl rfl rfl).trans (by simp))
              go_enter Try.func18, Try.ntmps18
              go_wp2_with fail
              refine (HF1.out _ (HR1.out.lo ((Lo.refl w).alloc _))).mono ?_
              rintro e w1 ⟨rfl, rfl⟩
              go_wp2_with fail
              refine (HF2.out _ (HR2.out.lo ((Lo.refl w).alloc _))).mono ?_
              rintro e w1 ⟨rfl, rfl⟩
              go_wp2_with fail
              refine (HF3.out _ (HR1.out.lo ((Lo.refl w).alloc _))).mono ?_
              rintro e w1 ⟨rfl, lo⟩
              have HL := Lib.hid (((Lo.refl w).alloc _).trans lo)
              clear lo
              go_wp2_with fail
              go_ret
              exact ⟨ret_bool HF.out.symm, HL.out⟩
      · have HF : Hid (y = false) := Lib.hid (HC.out hA hC)
        have h1 : ¬ (m : Int) = (n : Int) + 1 := by omega
        clear HA HB HC HD HF1 HF2 HF3 HR1 HR2
        by_cases h0 : n = 0
        · subst h0
          have h2 : ¬ (m : Int) = 0 := by omega
          have h3 : ¬ (m : Int) = 1 := by omega
          go_enter Try.func18, Try.ntmps18
          go_wp2_with fail
          go_ret
          exact ⟨ret_bool HF.out.symm, (Lo.refl w).alloc _⟩
        · have h0i : ¬ (n : Int) = 0 := by omega
          go_enter Try.func18, Try.ntmps18
          go_wp2_with fail
          go_ret
          exact ⟨ret_bool HF.out.symm, (Lo.refl w).alloc _⟩

/-- passed, of numbers that rise: how many are at most h. -/
theorem cupassed_inc (v : Value) (l : List Int) (h : Int) (w : World) (hr : Row w v l) (hn : l.length ≤ 1000000) (hi : Cu.inc l = true) :
    Calls Try.prog 47 #[v, .int .i64 h] w fun e w' => e = .returned (.int .i64 ((Cu.cnt h l : Nat) : Int)) ∧ w = w' := by
  refine (cupassed_any v l h w hr hn).mono ?_
  rintro e w' ⟨⟨k, rfl, hk, h1, h2⟩, rfl⟩
  refine ⟨?_, rfl⟩
  rw [Cu.cnt_is l h k hk (fun j hj => ?_) (fun j hij hj => ?_)]
  · have h3 := h1.resolve_left (by omega)
    rcases Nat.lt_or_ge j (k - 1) with c | c
    · have := Cu.inc_less hi (k - 1) j c (by omega); omega
    · obtain rfl : j = k - 1 := by omega
      exact h3
  · have h3 := h2.resolve_left (by omega)
    rcases Nat.lt_or_ge k j with c | c
    · have := Cu.inc_less hi j k c hj; omega
    · obtain rfl : j = k := by omega
      exact h3
end Go.Proofs.Ytcnmfgdeanbhoaa
/-
  Plain functions (layer 12, cover), further: numbers of two bytes in a row, ranges as three numbers each, what the walks of Get and Put want at each round. No conditions beyond those stated.
-/
namespace Co
open Bn He

theorem drop_cons {l : List Int} {k : Nat} (h : k < l.length) : l.drop k = l.getD k 0 :: l.drop (k + 1) := by
  rw [List.drop_eq_getElem_cons h]
  simp [List.getD, List.getElem?_eq_getElem h]
/-- Glyphs from a place on, behind a number. -/
theorem asc_step {l : List Int} {k : Nat} (h : k < l.length) (b : Int) : asc b (l.drop k) = (decide (b < l.getD k 0) && decide (l.getD k 0 ≤ 65534) && asc (l.getD k 0) (l.drop (k + 1))) := by
  rw [drop_cons h, asc]

/-! Sizes of two bytes each. -/
def sz (n : Nat) : List Int := List.replicate n 2
theorem sz_len (n : Nat) : (sz n).length = n := by simp [sz]
theorem sz_succ (n : Nat) : sz (n + 1) = 2 :: sz n := List.replicate_succ
theorem sz_many : ∀ n, many (sz n) = 2 * n
  | 0 => rfl
  | n + 1 => by rw [sz_succ, many_cons, sz_many n]; simp; omega
theorem sz_sizes : ∀ n, allSizes (sz n) = true
  | 0 => rfl
  | n + 1 => by
    have h := sz_sizes n
    unfold allSizes at *
    rw [sz_succ, List.all_cons, h]; rfl
/-- So many numbers of two bytes. -/
def words (s : List UInt8) (n : Nat) : List Int := (List.range n).map fun i => word s (2 * i)
theorem words_len (s : List UInt8) (n : Nat) : (words s n).length = n := by simp [words]
theorem words_at (s : List UInt8) {n i : Nat} (h : i < n) : (words s n).getD i 0 = word s (2 * i) := by simp [words, List.getD, h]
theorem word_drop (s : List UInt8) (a p : Nat) : word (s.drop a) p = word s (a + p) := by unfold word fld; rw [List.drop_drop]
theorem sz_fields : ∀ (n : Nat) (s : List UInt8), fields s (sz n) = words s n
  | 0, _ => rfl
  | n + 1, s => by
    rw [sz_succ, fields, sz_fields n]
    unfold words
    rw [List.range_succ_eq_map, List.map_cons, List.map_map]
    congr 1
    refine List.map_congr_left fun i _ => ?_
    rw [show (2 : Int).natAbs = 2 from rfl, word_drop]
    simp only [Function.comp, Nat.succ_eq_add_one]
    rw [show 2 + 2 * i = 2 * (i + 1) by omega]
theorem get_sz (s : List UInt8) (pos n : Nat) : Bn.get s pos (sz n) = if s.length < pos + 2 * n then ([], 4) else (words (s.drop pos) n, 0) := by
  unfold Bn.get
  rw [sz_sizes, sz_many, if_neg (by simp)]
  by_cases c : s.length < pos + 2 * n
  · rw [if_pos (by omega), if_pos c]
  · rw [if_neg (by omega), if_neg c, Int.toNat_natCast, sz_fields]
theorem get_neg (s : List UInt8) {pos : Int} (h : pos < 0) (n : Nat) : Bn.get s pos (sz n) = ([], 1) := by unfold Bn.get; rw [if_pos (.inr h)]
theorem word_bd (s : List UInt8) (p : Nat) : 0 ≤ word s p ∧ word s p ≤ 65535 := by
  unfold word fld Bn.one
  rw [if_neg (by omega)]
  have h := be_lt ((s.drop p).take (2 : Int).natAbs)
  have hl : ((s.drop p).take (2 : Int).natAbs).length ≤ 2 := by rw [List.length_take]; exact Nat.min_le_left _ _
  have := Nat.lt_of_lt_of_le h (Nat.pow_le_pow_right (by decide : 0 < 256) hl)
  omega

/-! What read answers: the format, the fields of all glyphs or ranges, an error. -/
def count (t : List UInt8) : Nat := if word t 0 = 2 then 3 * (word t 2).toNat else (word t 2).toNat
def rdC (s : List UInt8) (pos : Int) : Int × List Int × Int :=
  if pos < 0 then (0, [], 1)
  else if (s.length : Int) < pos ∨ (s.length : Int) - pos < 4 then (0, [], 4)
  else if word (s.drop pos.toNat) 0 ≠ 1 ∧ word (s.drop pos.toNat) 0 ≠ 2 then (0, [], 5)
  else if (s.drop pos.toNat).length < 4 + 2 * count (s.drop pos.toNat) then (0, [], 4)
  else (word (s.drop pos.toNat) 0, words ((s.drop pos.toNat).drop 4) (count (s.drop pos.toNat)), 0)
/-- Three numbers each. -/
def tri (fs : List Int) (n : Nat) : List (Int × Int × Int) := (List.range n).map fun i => (fs.getD (3 * i) 0, fs.getD (3 * i + 1) 0, fs.getD (3 * i + 2) 0)
theorem tri_len (fs : List Int) (n : Nat) : (tri fs n).length = n := by simp [tri]
theorem tri_succ (fs : List Int) (k : Nat) : tri fs (k + 1) = tri fs k ++ [(fs.getD (3 * k) 0, fs.getD (3 * k + 1) 0, fs.getD (3 * k + 2) 0)] := by simp [tri, List.range_succ]
theorem tri_words (t : List UInt8) (n : Nat) : tri (words (t.drop 4) (3 * n)) n = rd t n := by
  refine List.map_congr_left fun i hi => ?_
  have hi' := List.mem_range.1 hi
  rw [words_at _ (by omega), words_at _ (by omega), words_at _ (by omega), word_drop, word_drop, word_drop]
  rw [show 4 + 2 * (3 * i) = 4 + 6 * i by omega, show 4 + 2 * (3 * i + 1) = 4 + 6 * i + 2 by omega, show 4 + 2 * (3 * i + 2) = 4 + 6 * i + 4 by omega]
theorem ones_words (t : List UInt8) (n : Nat) : words (t.drop 4) n = ones t n := by
  refine List.map_congr_left fun i _ => ?_
  rw [word_drop]
/-- The glyphs of ranges, and whether they are right. -/
def lst (q : List (Int × Int × Int)) : List Int × Bool := match join2 q [] with | none => ([], false) | some o => (o, true)
/-- Get, by read and the ranges. -/
theorem get_by (s : List UInt8) (pos : Int) : get s pos = match rdC s pos with
    | (f, l, e) => if e ≠ 0 then ([], e) else if f = 2 then (if (lst (tri l (l.length / 3))).2 = false then ([], 5) else told (lst (tri l (l.length / 3))).1) else told l := by
  unfold get rdC
  by_cases c1 : pos < 0
  · rw [if_pos c1, if_pos c1]; rfl
  · rw [if_neg c1, if_neg c1]
    by_cases c2 : (s.length : Int) < pos ∨ (s.length : Int) - pos < 4
    · rw [if_pos c2, if_pos c2]; rfl
    · rw [if_neg c2, if_neg c2]
      unfold got
      generalize s.drop pos.toNat = t
      by_cases c3 : word t 0 ≠ 1 ∧ word t 0 ≠ 2
      · rw [if_pos c3, if_pos c3]; rfl
      · rw [if_neg c3, if_neg c3]
        by_cases c5 : word t 0 = 2
        · have hw : wid t = 6 := by unfold wid; rw [if_pos c5]
          have hc : count t = 3 * (word t 2).toNat := by unfold count; rw [if_pos c5]
          rw [hw, hc]
          by_cases c4 : t.length < 4 + 6 * (word t 2).toNat
          · rw [if_pos c4, if_pos (by omega)]; rfl
          · rw [if_neg c4, if_neg (show ¬ t.length < 4 + 2 * (3 * (word t 2).toNat) by omega), if_neg (by omega)]
            dsimp only
            rw [if_neg (by decide), if_pos c5, words_len, Nat.mul_div_cancel_left _ (by omega), tri_words]
            unfold lst
            cases join2 (rd t (word t 2).toNat) [] with
            | none => rfl
            | some o => rfl
        · have hw : wid t = 2 := by unfold wid; rw [if_neg c5]
          have hc : count t = (word t 2).toNat := by unfold count; rw [if_neg c5]
          rw [hw, hc]
          by_cases c4 : t.length < 4 + 2 * (word t 2).toNat
          · rw [if_pos c4, if_pos c4]; rfl
          · rw [if_neg c4, if_neg c4, if_pos (by omega)]
            dsimp only
            rw [if_neg (by decide), if_neg c5, ones_words]

/-! Ranges one by one: what is joined so far. -/
theorem join2_append : ∀ (a b : List (Int × Int × Int)) (out : List Int), join2 (a ++ b) out = match join2 a out with | none => none | some o => join2 b o
  | [], b, out => rfl
  | (x, y, f) :: a, b, out => by
    rw [List.cons_append, join2, join2]
    by_cases c : y < x ∨ f ≠ (out.length : Int)
    · rw [if_pos c, if_pos c]
    · rw [if_neg c, if_neg c, join2_append a b]
theorem join2_one (x y f : Int) (out : List Int) : join2 [(x, y, f)] out = if y < x ∨ f ≠ (out.length : Int) then none else some (out ++ rng x y) := by
  rw [join2]
  by_cases c : y < x ∨ f ≠ (out.length : Int)
  · rw [if_pos c, if_pos c]
  · rw [if_neg c, if_neg c, join2]
/-- A wrong range ends it. -/
theorem lst_bad {q r : List (Int × Int × Int)} {o : List Int} {x y f : Int} (h : join2 q [] = some o) (hb : y < x ∨ f ≠ (o.length : Int)) : lst (q ++ [(x, y, f)] ++ r) = ([], false) := by
  unfold lst
  rw [join2_append, join2_append, h]
  dsimp only
  rw [join2_one, if_pos hb]
theorem lst_ok {q : List (Int × Int × Int)} {o : List Int} (h : join2 q [] = some o) : lst q = (o, true) := by unfold lst; rw [h]
theorem join_more {q : List (Int × Int × Int)} {o : List Int} {x y f : Int} (h : join2 q [] = some o) (hb : ¬ (y < x ∨ f ≠ (o.length : Int))) : join2 (q ++ [(x, y, f)]) [] = some (o ++ rng x y) := by
  rw [join2_append, h]
  dsimp only
  rw [join2_one, if_neg hb]

/-! Ranges whose three numbers are those of two bytes. -/
abbrev R3 := {x : Int × Int × Int // (0 ≤ x.1 ∧ x.1 ≤ 65535) ∧ (0 ≤ x.2.1 ∧ x.2.1 ≤ 65535) ∧ 0 ≤ x.2.2 ∧ x.2.2 ≤ 65535}
def Small (fs : List Int) : Prop := ∀ i, 0 ≤ fs.getD i 0 ∧ fs.getD i 0 ≤ 65535
theorem words_small (s : List UInt8) (n : Nat) : Small (words s n) := fun i => by
  by_cases h : i < n
  · rw [words_at s h]; exact word_bd s _
  · have : (words s n).getD i 0 = 0 := by simp [List.getD, List.getElem?_eq_none (show (words s n).length ≤ i by rw [words_len]; omega)]
    omega
def el (fs : List Int) (h : Small fs) (k : Nat) : R3 := ⟨(fs.getD (3 * k) 0, fs.getD (3 * k + 1) 0, fs.getD (3 * k + 2) 0), h _, h _, h _⟩
def els (fs : List Int) (h : Small fs) (n : Nat) : List R3 := (List.range n).map (el fs h)
theorem els_len (fs : List Int) (h : Small fs) (n : Nat) : (els fs h n).length = n := by simp [els]
theorem els_succ (fs : List Int) (h : Small fs) (k : Nat) : els fs h (k + 1) = els fs h k ++ [el fs h k] := by simp [els, List.range_succ]
def raw (q : List R3) : List (Int × Int × Int) := q.map Subtype.val
theorem raw_append (a b : List R3) : raw (a ++ b) = raw a ++ raw b := List.map_append
theorem els_tri (fs : List Int) (h : Small fs) (n : Nat) : raw (els fs h n) = tri fs n := by
  unfold raw els tri
  rw [List.map_map]; rfl
theorem tri_split (fs : List Int) {k n : Nat} (h : k ≤ n) : ∃ r, tri fs n = tri fs k ++ r := by
  obtain ⟨m, rfl⟩ := Nat.exists_eq_add_of_le h
  refine ⟨(tri fs (k + m)).drop k, ?_⟩
  have e : tri fs k = (tri fs (k + m)).take k := by
    unfold tri
    rw [← List.map_take, List.take_range, Nat.min_eq_left (by omega)]
  rw [e, List.take_append_drop]
/-- The glyphs of ranges that are right. -/
def out (q : List R3) : List Int := (join2 (raw q) []).getD []
def fine (q : List R3) : Prop := join2 (raw q) [] = some (out q)
theorem fine_nil : fine [] ∧ out [] = [] := ⟨rfl, rfl⟩
/-- So many numbers from one on. -/
def upto (a : Int) (j : Nat) : List Int := (List.range j).map fun i => a + (i : Nat)
theorem upto_len (a : Int) (j : Nat) : (upto a j).length = j := by simp [upto]
theorem upto_succ (a : Int) (j : Nat) : upto a (j + 1) = upto a j ++ [a + (j : Int)] := by simp [upto, List.range_succ]
theorem rng_upto (a b : Int) : rng a b = upto a (b - a + 1).toNat := rfl
theorem fine_more {q : List R3} {x : R3} (h : fine q) (hb : ¬ (x.1.2.1 < x.1.1 ∨ x.1.2.2 ≠ ((out q).length : Int))) : fine (q ++ [x]) ∧ out (q ++ [x]) = out q ++ upto x.1.1 (x.1.2.1 - x.1.1 + 1).toNat := by
  have e : join2 (raw (q ++ [x])) [] = some (out q ++ rng x.1.1 x.1.2.1) := by
    rw [raw_append]
    exact join_more h hb
  have e2 : out (q ++ [x]) = out q ++ upto x.1.1 (x.1.2.1 - x.1.1 + 1).toNat := by unfold out at *; rw [e]; rfl
  exact ⟨by unfold fine; rw [e, e2]; rfl, e2⟩
theorem fine_bad {q : List R3} {x : R3} (h : fine q) (hb : x.1.2.1 < x.1.1 ∨ x.1.2.2 ≠ ((out q).length : Int)) (r : List (Int × Int × Int)) : lst (raw (q ++ [x]) ++ r) = ([], false) := by
  rw [raw_append]
  exact lst_bad h hb
theorem fine_done {q : List R3} (h : fine q) : lst (raw q) = (out q, true) := lst_ok h
end Co
