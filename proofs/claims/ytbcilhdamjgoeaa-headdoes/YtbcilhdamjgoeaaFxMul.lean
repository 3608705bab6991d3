/-
  The contract of fixed.MulDiv: it answers what the plain function says, for all integers. No conditions.
-/
import Derived.Test.YtbcilhdamjgoeaaFxBase
import Derived.Deep.QuietTactic
import Derived.IntWalk
import Derived.BigQuiet
namespace Go.Proofs.Ytbcilhdamjgoeaa
open Go.RowKit

set_option maxHeartbeats 400000 in
theorem size_any (n : Int) (w : World) (h1 : -2305843009213693952 ≤ n) (h2 : n ≤ 2305843009213693952) :
    Calls Try.prog 110 #[.int .i64 n] w fun e w' => e = .returned (.int .i64 (Fx.size n)) ∧ w = w' := by
  by_cases h : n < 0
  · go_enter Try.func110, Try.ntmps110
    go_wp2
    go_ret
    exact ⟨ret_int (by simp [Fx.size, h]), rfl⟩
  · go_enter Try.func110, Try.ntmps110
    go_wp2
    go_ret
    exact ⟨ret_int (by unfold Fx.size; rw [if_neg (by omega)]), rfl⟩

theorem near_small {n c : Int} (h : 2 * Fx.size (n.tmod c) < Fx.size c) : n.tdiv c = Fx.near n c := by rw [Fx.near, if_pos h]
theorem near_up {n c : Int} (h : ¬ 2 * Fx.size (n.tmod c) < Fx.size c) (h2 : decide (n < 0) = decide (c < 0)) : n.tdiv c + 1 = Fx.near n c := by rw [Fx.near, if_neg h, if_pos h2]
theorem near_down {n c : Int} (h : ¬ 2 * Fx.size (n.tmod c) < Fx.size c) (h2 : ¬ decide (n < 0) = decide (c < 0)) : n.tdiv c - 1 = Fx.near n c := by rw [Fx.near, if_neg h, if_neg h2]

set_option maxHeartbeats 400000 in
theorem nearest_any (n c : Int) (w : World) (h1 : -1152921504606846976 ≤ n) (h2 : n ≤ 1152921504606846976) (h3 : -1073741823 ≤ c) (h4 : c ≤ 1073741823) (h5 : ¬ c = 0) :
    Calls Try.prog 82 #[.int .i64 n, .int .i64 c] w fun e w' => e = .returned (.int .i64 (Fx.near n c)) ∧ Lo w w' := by
  have hq := Fx.tdiv_bd n c h1 h2
  have hr := Fx.tmod_bd n c h5
  have hw : wrap64 (n.tdiv c) = n.tdiv c := by unfold wrap64; omega
  have hs := near_small (n := n) (c := c)
  have hu := near_up (n := n) (c := c)
  have hd := near_down (n := n) (c := c)
  generalize Fx.near n c = y at *
  have HW := Lib.hid hw
  have HR := Lib.hid hr
  have HQ := Lib.hid hq
  have HS := Lib.hid hs
  have HU := Lib.hid hu
  have HD := Lib.hid hd
  clear hw hr hq hs hu hd
  go_enter Try.func82, Try.ntmps82
  go_wp2
  go_quiet (fail)
  rw [HW.out]
  have hq := HQ.out
  have hr := HR.out
  clear HW HR HQ
  generalize n.tdiv c = q at *
  generalize n.tmod c = r at *
  obtain ⟨hq1, hq2⟩ := hq
  have hr1 : -1073741823 ≤ r := by omega
  have hr2 : r ≤ 1073741823 := by omega
  have hsr := Fx.size_nonneg r
  have hsc := Fx.size_nonneg c
  have hsr2 : Fx.size r ≤ 1073741823 := by rw [Fx.size_natAbs]; omega
  have hsc2 : Fx.size c ≤ 1073741823 := by rw [Fx.size_natAbs]; omega
  clear hr
  go_wp2_with fail
  refine (size_any r _ (by omega) (by omega)).mono ?_
  rintro e w' ⟨rfl, rfl⟩
  go_wp2_with fail
  refine (size_any c _ (by omega) (by omega)).mono ?_
  rintro e w' ⟨rfl, rfl⟩
  by_cases ht : 2 * Fx.size r < Fx.size c
  · go_wp2_with fail
    go_ret
    exact ⟨ret_int (HS.out ht), (Lo.refl w).drewN _⟩
  · by_cases hb : decide (n < 0) = decide (c < 0)
    · have hb' : (decide (n < 0) == decide (c < 0)) = true := by simpa using hb
      have HB := Lib.hid hb
      have HT := Lib.hid ht
      clear hb
      go_wp2_with fail
      go_ret
      exact ⟨ret_int (HU.out HT.out HB.out), (Lo.refl w).drewN _⟩
    · have hb' : (decide (n < 0) == decide (c < 0)) = false := by simpa using hb
      have HB := Lib.hid hb
      have HT := Lib.hid ht
      clear hb
      go_wp2_with fail
      go_ret
      exact ⟨ret_int (HD.out HT.out HB.out), (Lo.refl w).drewN _⟩

/-- A product of two lengths. -/
theorem Fx.mul_bd {a b : Int} (ha : Fx.len a = true) (hb : Fx.len b = true) : -1152921504606846976 ≤ a * b ∧ a * b ≤ 1152921504606846976 := by
  obtain ⟨a1, a2⟩ := (Fx.len_iff a).1 ha
  obtain ⟨b1, b2⟩ := (Fx.len_iff b).1 hb
  have h : (a * b).natAbs ≤ 1073741823 * 1073741823 := by
    rw [Int.natAbs_mul]
    exact Nat.mul_le_mul (by omega) (by omega)
  omega

set_option maxHeartbeats 400000 in
theorem muldiv1_ok (p q r : Nat) (a b c : Int) (w : World) (ha : Fx.len a = true) (hb : Fx.len b = true) (hc : Fx.len c = true) (h5 : ¬ c = 0)
    (ca : w.cell? ⟨p, 0, none⟩ = some (.int .i64 a)) (cb : w.cell? ⟨q, 0, none⟩ = some (.int .i64 b)) (cc : w.cell? ⟨r, 0, none⟩ = some (.int .i64 c)) (hy : Fx.len (Fx.near (a * b) c) = true) :
    Calls Try.prog 80 #[.pointer (some ⟨p, 0, none⟩), .pointer (some ⟨q, 0, none⟩), .pointer (some ⟨r, 0, none⟩)] w fun e w' =>
      e = .returned (.int .i64 (Fx.near (a * b) c)) ∧ Lo w w' := by
  obtain ⟨m1, m2⟩ := Fx.mul_bd ha hb
  obtain ⟨c1, c2⟩ := (Fx.len_iff c).1 hc
  have HN := Lib.hid (fun W => nearest_any (a * b) c W m1 m2 c1 c2 h5)
  obtain ⟨y1, y2⟩ := (Fx.len_iff _).1 hy
  clear ha hb hc hy
  generalize Fx.near (a * b) c = y at *
  go_enter Try.func80, Try.ntmps80
  go_wp2_with fail
  refine (HN.out _).mono ?_
  rintro e w1 ⟨rfl, hlo⟩
  go_wp2_with fail
  refine (within_ok y _ y1 y2).mono ?_
  rintro e w2 ⟨rfl, rfl⟩
  go_wp2_with fail
  go_ret
  exact ⟨rfl, hlo⟩

set_option maxHeartbeats 400000 in
theorem muldiv1_over (p q r : Nat) (a b c : Int) (w : World) (ha : Fx.len a = true) (hb : Fx.len b = true) (hc : Fx.len c = true) (h5 : ¬ c = 0)
    (ca : w.cell? ⟨p, 0, none⟩ = some (.int .i64 a)) (cb : w.cell? ⟨q, 0, none⟩ = some (.int .i64 b)) (cc : w.cell? ⟨r, 0, none⟩ = some (.int .i64 c)) (hy : Fx.len (Fx.near (a * b) c) = false) :
    Calls Try.prog 80 #[.pointer (some ⟨p, 0, none⟩), .pointer (some ⟨q, 0, none⟩), .pointer (some ⟨r, 0, none⟩)] w fun e w' => e = .panicked over ∧ Lo w w' := by
  obtain ⟨m1, m2⟩ := Fx.mul_bd ha hb
  obtain ⟨c1, c2⟩ := (Fx.len_iff c).1 hc
  have HN := Lib.hid (fun W => nearest_any (a * b) c W m1 m2 c1 c2 h5)
  have HY := Lib.hid (Fx.len_no hy)
  clear ha hb hc hy
  generalize Fx.near (a * b) c = y at *
  go_enter Try.func80, Try.ntmps80
  go_wp2_with fail
  refine (HN.out _).mono ?_
  rintro e w1 ⟨rfl, hlo⟩
  go_wp2_with fail
  refine (within_over y _ HY.out).mono ?_
  rintro e w2 ⟨rfl, rfl⟩
  exact ⟨rfl, rfl, hlo⟩

theorem enter_muldiv (caps : Array Value) (W : World) : (callFunc 80 caps).run Try.prog W = .ok (.enter 80 caps) W := by simp [go_sem]

theorem Lo.alloc4 (w : World) (a b c d : Obj) : Lo w ((((w.alloc a).alloc b).alloc c).alloc d) := ((((Lo.refl w).alloc a).alloc b).alloc c).alloc d

set_option maxHeartbeats 400000 in
theorem muldiv_arg (a b c : Int) (w : World) (h : ¬ (Fx.is [a, b, c] = true ∧ c ≠ 0)) :
    Calls Try.prog 59 #[.int .i64 a, .int .i64 b, .int .i64 c] w fun e w' => e = .returned (.tuple #[.int .i64 0, .int .i64 1]) ∧ Lo w w' := by
  by_cases hi : Fx.is [a, b, c] = true
  · have hc : (c == 0) = true := by
      simp only [hi, true_and] at h; simpa using h
    clear h
    have HI := Lib.hid hi
    clear hi
    go_enter Try.func59, Try.ntmps59
    go_wp2_with fail
    refine (is_any _ [a, b, c] _ (row3 _ _ (by simp) a b c)).mono ?_
    rintro e w' ⟨rfl, rfl⟩
    rw [HI.out]
    go_wp2_with fail
    go_ret2
    exact ⟨rfl, Lo.alloc4 _ _ _ _ _⟩
  · have hi' : Fx.is [a, b, c] = false := by simpa using hi
    clear h hi
    have HI := Lib.hid hi'
    clear hi'
    go_enter Try.func59, Try.ntmps59
    go_wp2_with fail
    refine (is_any _ [a, b, c] _ (row3 _ _ (by simp) a b c)).mono ?_
    rintro e w' ⟨rfl, rfl⟩
    rw [HI.out]
    go_wp2_with fail
    go_ret2
    exact ⟨rfl, Lo.alloc4 _ _ _ _ _⟩

/-- The world at MulDiv's call of caught. -/
def mdW (w : World) (a b c : Int) : World :=
  (((w.alloc (.cells #[.int .i64 a] 3)).alloc (.cells #[.int .i64 b] 3)).alloc (.cells #[.int .i64 c] 3)).alloc (.cells #[.int .i64 a, .int .i64 b, .int .i64 c] 3)
theorem mdW_cells (w : World) (a b c : Int) : (fboxed (mdW w a b c)).cell? ⟨w.heap.size, 0, none⟩ = some (.int .i64 a) ∧ (fboxed (mdW w a b c)).cell? ⟨w.heap.size + 1, 0, none⟩ = some (.int .i64 b) ∧
    (fboxed (mdW w a b c)).cell? ⟨w.heap.size + 1 + 1, 0, none⟩ = some (.int .i64 c) := by
  simp [fboxed, mdW, go_sem]

set_option maxHeartbeats 400000 in
theorem muldiv_ok (a b c : Int) (w : World) (hi : Fx.is [a, b, c] = true) (h5 : ¬ c = 0) (hy : Fx.len (Fx.near (a * b) c) = true) :
    Calls Try.prog 59 #[.int .i64 a, .int .i64 b, .int .i64 c] w fun e w' => e = .returned (.tuple #[.int .i64 (Fx.near (a * b) c), .int .i64 0]) ∧ Lo w w' := by
  have hmf : ∀ (fn : Fn) (first cap : Array Value) (w : World), (Instr.makeFunc fn first cap).run Try.prog w = .ok (.func fn first cap) w := fun _ _ _ _ => rfl
  have HI := Lib.hid hi
  obtain ⟨ha, hb, hc⟩ : Fx.len a = true ∧ Fx.len b = true ∧ Fx.len c = true := by simpa [Fx.is] using hi
  obtain ⟨c1, c2, c3⟩ := mdW_cells w a b c
  have HM := Lib.hid (caught_ret 80 #[.pointer (some ⟨w.heap.size, 0, none⟩), .pointer (some ⟨w.heap.size + 1, 0, none⟩), .pointer (some ⟨w.heap.size + 1 + 1, 0, none⟩)] _ (mdW w a b c) (enter_muldiv _)
    (muldiv1_ok _ _ _ a b c _ ha hb hc h5 c1 c2 c3 hy))
  generalize Fx.near (a * b) c = y at *
  unfold mdW at HM
  have h5' : (c == 0) = false := by simpa using h5
  clear hi ha hb hc c1 c2 c3 hy h5
  go_enter Try.func59, Try.ntmps59
  go_wp2_with fail
  refine (is_any _ [a, b, c] _ (row3 _ _ (by simp) a b c)).mono ?_
  rintro e w' ⟨rfl, rfl⟩
  rw [HI.out]
  go_wp2_with fail
  refine HM.out.mono ?_
  rintro e w1 ⟨rfl, hlo⟩
  go_wp2_with fail
  go_ret2
  exact ⟨rfl, (Lo.alloc4 _ _ _ _ _).trans hlo⟩

set_option maxHeartbeats 400000 in
theorem muldiv_over (a b c : Int) (w : World) (hi : Fx.is [a, b, c] = true) (h5 : ¬ c = 0) (hy : Fx.len (Fx.near (a * b) c) = false) :
    Calls Try.prog 59 #[.int .i64 a, .int .i64 b, .int .i64 c] w fun e w' => e = .returned (.tuple #[.int .i64 0, .int .i64 2]) ∧ Lo w w' := by
  have hmf : ∀ (fn : Fn) (first cap : Array Value) (w : World), (Instr.makeFunc fn first cap).run Try.prog w = .ok (.func fn first cap) w := fun _ _ _ _ => rfl
  have HI := Lib.hid hi
  obtain ⟨ha, hb, hc⟩ : Fx.len a = true ∧ Fx.len b = true ∧ Fx.len c = true := by simpa [Fx.is] using hi
  obtain ⟨c1, c2, c3⟩ := mdW_cells w a b c
  have HM := Lib.hid (caught_over 80 #[.pointer (some ⟨w.heap.size, 0, none⟩), .pointer (some ⟨w.heap.size + 1, 0, none⟩), .pointer (some ⟨w.heap.size + 1 + 1, 0, none⟩)] (mdW w a b c) (enter_muldiv _)
    (muldiv1_over _ _ _ a b c _ ha hb hc h5 c1 c2 c3 hy))
  unfold mdW at HM
  have h5' : (c == 0) = false := by simpa using h5
  clear hi ha hb hc c1 c2 c3 hy h5
  go_enter Try.func59, Try.ntmps59
  go_wp2_with fail
  refine (is_any _ [a, b, c] _ (row3 _ _ (by simp) a b c)).mono ?_
  rintro e w' ⟨rfl, rfl⟩
  rw [HI.out]
  go_wp2_with fail
  refine HM.out.mono ?_
  rintro e w1 ⟨rfl, hlo⟩
  go_wp2_with fail
  go_ret2
  exact ⟨rfl, (Lo.alloc4 _ _ _ _ _).trans hlo⟩

/-- What a function of package fixed answers: a number and an error's number. -/
abbrev tup (p : Int × Int) : Ending := .returned (.tuple #[.int .i64 p.1, .int .i64 p.2])

theorem muldiv_any (a b c : Int) (w : World) :
    Calls Try.prog 59 #[.int .i64 a, .int .i64 b, .int .i64 c] w fun e w' => e = tup (Fx.mulDiv a b c) ∧ Lo w w' := by
  by_cases h : Fx.is [a, b, c] = true ∧ c ≠ 0
  · by_cases hy : Fx.len (Fx.near (a * b) c) = true
    · have e : Fx.mulDiv a b c = (Fx.near (a * b) c, 0) := by rw [Fx.mulDiv, if_pos h, Fx.told, if_pos hy]
      rw [e]
      exact muldiv_ok a b c w h.1 h.2 hy
    · have e : Fx.mulDiv a b c = (0, 2) := by rw [Fx.mulDiv, if_pos h, Fx.told, if_neg hy]
      rw [e]
      exact muldiv_over a b c w h.1 h.2 (by simpa using hy)
  · have e : Fx.mulDiv a b c = (0, 1) := by rw [Fx.mulDiv, if_neg h]
    rw [e]
    exact muldiv_arg a b c w h
end Go.Proofs.Ytbcilhdamjgoeaa
