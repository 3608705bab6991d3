/-
  Contracts of package bin's small functions: width, areSizes, total, bounds, fits. No conditions beyond those stated.
-/
import Derived.Test.YtjeahgdefdlabaaGkBytes
import Derived.Test.YtjeahgdefdlabaaBnSums
import Derived.Laws.BitsAllLaws
namespace Bn
theorem size_cases {n : Int} (h : isSize n = true) : n = 1 ∨ n = 2 ∨ n = 3 ∨ n = 4 ∨ n = -1 ∨ n = -2 ∨ n = -3 ∨ n = -4 := by
  rw [isSize_iff] at h; omega
/-- The least number of a size, and the one behind its greatest. -/
def lo (size : Int) : Int := if size < 0 then -((256 ^ size.natAbs / 2 : Nat) : Int) else 0
def hi (size : Int) : Int := if size < 0 then ((256 ^ size.natAbs / 2 : Nat) : Int) else ((256 ^ size.natAbs : Nat) : Int)
theorem fits_lohi (v size : Int) : fits v size = (decide (lo size ≤ v) && decide (v < hi size)) := by
  unfold fits lo hi
  by_cases h : size < 0
  · simp [h]
  · simp [h]
theorem allSizes_snoc (l : List Int) (n : Int) : allSizes (l ++ [n]) = (allSizes l && isSize n) := by simp [allSizes]
theorem allSizes_false {l : List Int} {k : Nat} (hk : k < l.length) (h : isSize (l.getD k 0) = false) : allSizes l = false := by
  have hmem : l.getD k 0 ∈ l := by simp [List.getD, List.getElem?_eq_getElem hk]
  cases e : allSizes l with
  | false => rfl
  | true => rw [List.all_eq_true.1 e _ hmem] at h; cases h
theorem allSizes_at {l : List Int} {k : Nat} (h : allSizes l = true) (hk : k < l.length) : isSize (l.getD k 0) = true := by
  have hmem : l.getD k 0 ∈ l := by simp [List.getD, List.getElem?_eq_getElem hk]
  exact List.all_eq_true.1 h _ hmem
theorem take_snoc {l : List Int} {k : Nat} (hk : k < l.length) : l.take (k + 1) = l.take k ++ [l.getD k 0] := by
  rw [List.take_succ_eq_append_getElem hk]; simp [List.getD, List.getElem?_eq_getElem hk]
theorem many_snoc (l : List Int) (n : Int) : many (l ++ [n]) = many l + n.natAbs := by simp [many]
theorem many_le (l : List Int) (h : allSizes l = true) : many l ≤ 4 * l.length := by
  induction l with
  | nil => simp [many]
  | cons n r ih =>
    simp only [allSizes, List.all_cons, Bool.and_eq_true] at h
    have := isSize_wide h.1
    have := ih h.2
    rw [many_cons, List.length_cons]; omega
theorem many_take_le (l : List Int) (h : allSizes l = true) (k : Nat) : many (l.take k) ≤ 4 * k := by
  have h1 : allSizes (l.take k) = true := by
    unfold allSizes at *
    rw [List.all_eq_true] at *
    exact fun x hx => h x (List.mem_of_mem_take hx)
  have := many_le _ h1
  rw [List.length_take] at this
  omega
end Bn
namespace Go.Proofs.Ytjeahgdefdlabaa
open Go.RowKit

/-- The error k, raised. -/
def raise (k : Int) : List PanicEntry := [{ v := .iface 23 (.int .i64 k), recovered := false }]

/-- A slice that reads as l, taken apart. -/
theorem Row.form {w : World} {v : Value} {l : List Int} (h : Row w v l) : ∃ p c, v = .slice p l.length c ∧ l.length ≤ 9223372036854775807 := by
  rcases h with ⟨p, c, rfl, _, rfl⟩ | ⟨b, off, cap, rfl, h2, h2b, h3, h4⟩
  · exact ⟨_, _, rfl, by simp⟩
  · exact ⟨_, _, rfl, h2⟩
theorem Row.at_ {w : World} {p : Option Addr} {n c : Nat} {l : List Int} (h : Row w (.slice p n c) l) {k : Nat} (hk : k < n) :
    ∃ b off, p = some ⟨b, off, none⟩ ∧ w.cell? ⟨b, off + k, none⟩ = some (.int .i64 (l.getD k 0)) := by
  rcases h with ⟨_, _, h1, _, rfl⟩ | ⟨b, off, cap, h1, h2, h2b, h3, h4⟩
  · injection h1 with _ h1 _; omega
  · injection h1 with hp hn _
    exact ⟨b, off, hp, h4 k (by omega)⟩

set_option maxHeartbeats 400000 in
theorem width_any (n : Int) (w : World) (h : Bn.isSize n = true) :
    Calls Try.prog 39 #[.int .i64 n] w fun e w' => e = .returned (.int .i64 n.natAbs) ∧ w = w' := by
  rw [Bn.isSize_iff] at h
  by_cases hn : n < 0
  · go_enter Try.func39, Try.ntmps39
    go_wp2
    go_ret
    exact ⟨ret_int (by omega), rfl⟩
  · go_enter Try.func39, Try.ntmps39
    go_wp2
    go_ret
    exact ⟨ret_int (by omega), rfl⟩

set_option maxHeartbeats 400000 in
theorem bounds_any (n : Int) (w : World) (h : Bn.isSize n = true) :
    Calls Try.prog 56 #[.int .i64 n] w fun e w' => e = .returned (.tuple #[.int .i64 (Bn.lo n), .int .i64 (Bn.hi n)]) ∧ w = w' := by
  rcases Bn.size_cases h with rfl | rfl | rfl | rfl | rfl | rfl | rfl | rfl
  all_goals
    go_enter Try.func56, Try.ntmps56
    go_wp2_with fail
    refine (width_any _ _ h).mono ?_
    rintro e w' ⟨rfl, rfl⟩
    go_wp2_with fail
    go_ret2
    exact ⟨rfl, rfl⟩

set_option maxHeartbeats 400000 in
theorem fits_any (v n : Int) (w : World) (h : Bn.isSize n = true) :
    Calls Try.prog 46 #[.int .i64 v, .int .i64 n] w fun e w' => e = .returned (.bool (Bn.fits v n)) ∧ w = w' := by
  rw [Bn.fits_lohi]
  have HB := Lib.hid (fun W => bounds_any n W h)
  clear h
  generalize Bn.lo n = x at *
  generalize Bn.hi n = y at *
  by_cases h1 : x ≤ v
  · by_cases h2 : v < y
    · go_enter Try.func46, Try.ntmps46
      go_wp2_with fail
      refine (HB.out _).mono ?_
      rintro e w' ⟨rfl, rfl⟩
      go_wp2_with fail
      go_ret
      exact ⟨ret_bool (by simp; omega), rfl⟩
    · go_enter Try.func46, Try.ntmps46
      go_wp2_with fail
      refine (HB.out _).mono ?_
      rintro e w' ⟨rfl, rfl⟩
      go_wp2_with fail
      go_ret
      exact ⟨ret_bool (by simp; omega), rfl⟩
  · go_enter Try.func46, Try.ntmps46
    go_wp2_with fail
    refine (HB.out _).mono ?_
    rintro e w' ⟨rfl, rfl⟩
    go_wp2_with fail
    go_ret
    exact ⟨ret_bool (by simp; omega), rfl⟩

set_option maxHeartbeats 400000 in
theorem areSizes_any (v : Value) (l : List Int) (w : World) (h : Row w v l) :
    Calls Try.prog 33 #[v] w fun e w' => e = .returned (.bool (Bn.allSizes l)) ∧ w = w' := by
  obtain ⟨p, c, rfl, hlen⟩ := h.form
  have HR := Lib.hid h
  generalize hn : l.length = n at *
  have HN := Lib.hid hn
  clear hn h
  go_enter Try.func33, Try.ntmps33
  go_wp2_with fail
  go_loop [4, 7] (fun _ i => ∃ k : Nat, k ≤ n ∧ i = .int .i64 k ∧ Hid (Bn.allSizes (l.take k) = true)) (fun _ i => n - (intOf i).toNat)
  case atStart => exact ⟨0, Nat.zero_le _, rfl, Lib.hid rfl⟩
  case round =>
    obtain ⟨k, hk, rfl, HI⟩ := hrel
    by_cases hlt : k < n
    · obtain ⟨b, off, rfl, hcell⟩ := HR.out.at_ hlt
      have HK : Hid (k < l.length) := Lib.hid (by rw [HN.out]; exact hlt)
      have HT := Lib.hid (Bn.take_snoc HK.out)
      generalize hz : l.getD k 0 = z at *
      have HZ := Lib.hid hz
      clear hz
      by_cases h1 : z = 0
      · have HF : Hid (Bn.allSizes l = false) := Lib.hid (Bn.allSizes_false HK.out (by rw [HZ.out, h1]; rfl))
        subst h1
        go_wp2_with fail
        go_ret
        exact ⟨ret_bool HF.out.symm, rfl⟩
      · have h1b : (z == 0) = false := by simpa using h1
        by_cases h2 : z < -4
        · have HF : Hid (Bn.allSizes l = false) := Lib.hid (Bn.allSizes_false HK.out (by rw [HZ.out, Bool.eq_false_iff]; intro hc; rw [Bn.isSize_iff] at hc; omega))
          clear h1
          go_wp2_with fail
          go_ret
          exact ⟨ret_bool HF.out.symm, rfl⟩
        · by_cases h3 : 4 < z
          · have HF : Hid (Bn.allSizes l = false) := Lib.hid (Bn.allSizes_false HK.out (by rw [HZ.out, Bool.eq_false_iff]; intro hc; rw [Bn.isSize_iff] at hc; omega))
            clear h1
            go_wp2_with fail
            go_ret
            exact ⟨ret_bool HF.out.symm, rfl⟩
          · have HS : Hid (Bn.isSize z = true) := Lib.hid (by rw [Bn.isSize_iff]; omega)
            clear h1
            go_wp2_with fail
            go_round
            case rel => exact ⟨k + 1, by omega, by go_num, Lib.hid (by rw [HT.out, Bn.allSizes_snoc, HI.out, HS.out]; rfl)⟩
            case measure => simp [intOf]; omega
    · go_wp2_with fail
      go_ret
      refine ⟨ret_bool ?_, rfl⟩
      have h1 : l.take k = l := List.take_of_length_le (by rw [HN.out]; omega)
      have := HI.out
      rw [h1] at this
      exact this.symm

set_option maxHeartbeats 400000 in
theorem total_any (v : Value) (l : List Int) (w : World) (h : Row w v l) (hs : Bn.allSizes l = true) (hsmall : l.length ≤ 1000000) :
    Calls Try.prog 37 #[v] w fun e w' => e = .returned (.int .i64 (Bn.many l : Nat)) ∧ w = w' := by
  obtain ⟨p, c, rfl, hlen⟩ := h.form
  have HR := Lib.hid h
  have HS := Lib.hid hs
  generalize hn : l.length = n at *
  have HN := Lib.hid hn
  clear hn h hs hlen
  go_enter Try.func37, Try.ntmps37
  go_wp2_with fail
  go_loop [3, 5, 8] (fun s _ i => ∃ k m : Nat, k ≤ n ∧ i = .int .i64 k ∧ s = .int .i64 m ∧ Hid (m = Bn.many (l.take k))) (fun _ _ i => n - (intOf i).toNat)
  case atStart => exact ⟨0, 0, Nat.zero_le _, rfl, rfl, Lib.hid rfl⟩
  case round =>
    obtain ⟨k, m, hk, rfl, rfl, HM⟩ := hrel
    have hm : m ≤ 4 * k := by rw [HM.out]; exact Bn.many_take_le l HS.out k
    by_cases hlt : k < n
    · obtain ⟨b, off, rfl, hcell⟩ := HR.out.at_ hlt
      have HK : Hid (k < l.length) := Lib.hid (by rw [HN.out]; exact hlt)
      have HT := Lib.hid (Bn.take_snoc HK.out)
      have HZ := Lib.hid (Bn.allSizes_at HS.out HK.out)
      have hw4 := (Bn.isSize_wide HZ.out).2
      generalize l.getD k 0 = z at *
      go_wp2_with fail
      refine (width_any z _ HZ.out).mono ?_
      rintro e w1 ⟨rfl, rfl⟩
      generalize hq : z.natAbs = q at *
      have HQ := Lib.hid hq
      clear hq
      go_wp2_with fail
      go_round
      case rel => exact ⟨k + 1, m + q, by omega, by go_num, by go_num, Lib.hid (by rw [HT.out, Bn.many_snoc, ← HM.out, HQ.out])⟩
      case measure => simp [intOf]; omega
    · go_wp2_with fail
      go_ret
      refine ⟨ret_int ?_, rfl⟩
      have h1 : l.take k = l := List.take_of_length_le (by rw [HN.out]; omega)
      rw [HM.out, h1]

end Go.Proofs.Ytjeahgdefdlabaa
