/-
  Contracts of package fixed's exported functions: each answers what the plain functions of FxMath say, for all integers, and nothing that was there turns. No conditions.
-/
import Derived.Test.YtnhegoimmlnmcaaFxBase
import Derived.Deep.QuietTactic
import Derived.IntWalk
import Derived.BigQuiet
namespace Go.Proofs.Ytnhegoimmlnmcaa
open Go.RowKit

set_option maxHeartbeats 400000 in
theorem size_any (n : Int) (w : World) (h1 : -2305843009213693952 ≤ n) (h2 : n ≤ 2305843009213693952) :
    Calls Try.prog 34 #[.int .i64 n] w fun e w' => e = .returned (.int .i64 (Fx.size n)) ∧ w = w' := by
  by_cases h : n < 0
  · go_enter Try.func34, Try.ntmps34
    go_wp2
    go_ret
    exact ⟨ret_int (by simp [Fx.size, h]), rfl⟩
  · go_enter Try.func34, Try.ntmps34
    go_wp2
    go_ret
    exact ⟨ret_int (by unfold Fx.size; rw [if_neg (by omega)]), rfl⟩

theorem Lo.drewN {a b : World} (h : Lo a b) (k : Nat) : Lo a (b.drewN k) := by
  unfold Lo; exact Below.trans h ⟨rfl, rfl, rfl, Nat.le_refl _, fun _ _ => rfl⟩

theorem near_small {n c : Int} (h : 2 * Fx.size (n.tmod c) < Fx.size c) : n.tdiv c = Fx.near n c := by rw [Fx.near, if_pos h]
theorem near_up {n c : Int} (h : ¬ 2 * Fx.size (n.tmod c) < Fx.size c) (h2 : decide (n < 0) = decide (c < 0)) : n.tdiv c + 1 = Fx.near n c := by rw [Fx.near, if_neg h, if_pos h2]
theorem near_down {n c : Int} (h : ¬ 2 * Fx.size (n.tmod c) < Fx.size c) (h2 : ¬ decide (n < 0) = decide (c < 0)) : n.tdiv c - 1 = Fx.near n c := by rw [Fx.near, if_neg h, if_neg h2]

set_option maxHeartbeats 400000 in
theorem nearest_any (n c : Int) (w : World) (h1 : -1152921504606846976 ≤ n) (h2 : n ≤ 1152921504606846976) (h3 : -1073741823 ≤ c) (h4 : c ≤ 1073741823) (h5 : ¬ c = 0) :
    Calls Try.prog 30 #[.int .i64 n, .int .i64 c] w fun e w' => e = .returned (.int .i64 (Fx.near n c)) ∧ Lo w w' := by
  have hq := Fx.tdiv_bd n c h1 h2
  have hr := Fx.tmod_bd n c h5
  have hw : wrap64 (n.tdiv c) = n.tdiv c := by unfold wrap64; omega
  have hs := near_small (n := n) (c := c)
  have hu := near_up (n := n) (c := c)
  have hd := near_down (n := n) (c := c)
  generalize Fx.near n c = y at *
  have HW := Lib.hid hw
  have HR := Lib.hid hr
  have HQ := Lib.hid hq
  have HS := Lib.hid hs
  have HU := Lib.hid hu
  have HD := Lib.hid hd
  clear hw hr hq hs hu hd
  go_enter Try.func30, Try.ntmps30
  go_wp2
  go_quiet (fail)
  rw [HW.out]
  have hq := HQ.out
  have hr := HR.out
  clear HW HR HQ
  generalize n.tdiv c = q at *
  generalize n.tmod c = r at *
  obtain ⟨hq1, hq2⟩ := hq
  have hr1 : -1073741823 ≤ r := by omega
  have hr2 : r ≤ 1073741823 := by omega
  have hsr := Fx.size_nonneg r
  have hsc := Fx.size_nonneg c
  have hsr2 : Fx.size r ≤ 1073741823 := by rw [Fx.size_natAbs]; omega
  have hsc2 : Fx.size c ≤ 1073741823 := by rw [Fx.size_natAbs]; omega
  clear hr
  go_wp2_with fail
  refine (size_any r _ (by omega) (by omega)).mono ?_
  rintro e w' ⟨rfl, rfl⟩
  go_wp2_with fail
  refine (size_any c _ (by omega) (by omega)).mono ?_
  rintro e w' ⟨rfl, rfl⟩
  by_cases ht : 2 * Fx.size r < Fx.size c
  · go_wp2_with fail
    go_ret
    exact ⟨ret_int (HS.out ht), (Lo.refl w).drewN _⟩
  · by_cases hb : decide (n < 0) = decide (c < 0)
    · have hb' : (decide (n < 0) == decide (c < 0)) = true := by simpa using hb
      have HB := Lib.hid hb
      have HT := Lib.hid ht
      clear hb
      go_wp2_with fail
      go_ret
      exact ⟨ret_int (HU.out HT.out HB.out), (Lo.refl w).drewN _⟩
    · have hb' : (decide (n < 0) == decide (c < 0)) = false := by simpa using hb
      have HB := Lib.hid hb
      have HT := Lib.hid ht
      clear hb
      go_wp2_with fail
      go_ret
      exact ⟨ret_int (HD.out HT.out HB.out), (Lo.refl w).drewN _⟩

/-- A product of two lengths. -/
theorem Fx.mul_bd {a b : Int} (ha : Fx.len a = true) (hb : Fx.len b = true) : -1152921504606846976 ≤ a * b ∧ a * b ≤ 1152921504606846976 := by
  obtain ⟨a1, a2⟩ := (Fx.len_iff a).1 ha
  obtain ⟨b1, b2⟩ := (Fx.len_iff b).1 hb
  have h : (a * b).natAbs ≤ 1073741823 * 1073741823 := by
    rw [Int.natAbs_mul]
    exact Nat.mul_le_mul (by omega) (by omega)
  omega

set_option maxHeartbeats 400000 in
theorem muldiv1_ok (p q r : Nat) (a b c : Int) (w : World) (ha : Fx.len a = true) (hb : Fx.len b = true) (hc : Fx.len c = true) (h5 : ¬ c = 0)
    (ca : w.cell? ⟨p, 0, none⟩ = some (.int .i64 a)) (cb : w.cell? ⟨q, 0, none⟩ = some (.int .i64 b)) (cc : w.cell? ⟨r, 0, none⟩ = some (.int .i64 c)) (hy : Fx.len (Fx.near (a * b) c) = true) :
    Calls Try.prog 29 #[.pointer (some ⟨p, 0, none⟩), .pointer (some ⟨q, 0, none⟩), .pointer (some ⟨r, 0, none⟩)] w fun e w' =>
      e = .returned (.int .i64 (Fx.near (a * b) c)) ∧ Lo w w' := by
  obtain ⟨m1, m2⟩ := Fx.mul_bd ha hb
  obtain ⟨c1, c2⟩ := (Fx.len_iff c).1 hc
  have HN := Lib.hid (fun W => nearest_any (a * b) c W m1 m2 c1 c2 h5)
  obtain ⟨y1, y2⟩ := (Fx.len_iff _).1 hy
  clear ha hb hc hy
  generalize Fx.near (a * b) c = y at *
  go_enter Try.func29, Try.ntmps29
  go_wp2_with fail
  refine (HN.out _).mono ?_
  rintro e w1 ⟨rfl, hlo⟩
  go_wp2_with fail
  refine (within_ok y _ y1 y2).mono ?_
  rintro e w2 ⟨rfl, rfl⟩
  go_wp2_with fail
  go_ret
  exact ⟨rfl, hlo⟩

set_option maxHeartbeats 400000 in
theorem muldiv1_over (p q r : Nat) (a b c : Int) (w : World) (ha : Fx.len a = true) (hb : Fx.len b = true) (hc : Fx.len c = true) (h5 : ¬ c = 0)
    (ca : w.cell? ⟨p, 0, none⟩ = some (.int .i64 a)) (cb : w.cell? ⟨q, 0, none⟩ = some (.int .i64 b)) (cc : w.cell? ⟨r, 0, none⟩ = some (.int .i64 c)) (hy : Fx.len (Fx.near (a * b) c) = false) :
    Calls Try.prog 29 #[.pointer (some ⟨p, 0, none⟩), .pointer (some ⟨q, 0, none⟩), .pointer (some ⟨r, 0, none⟩)] w fun e w' => e = .panicked over ∧ Lo w w' := by
  obtain ⟨m1, m2⟩ := Fx.mul_bd ha hb
  obtain ⟨c1, c2⟩ := (Fx.len_iff c).1 hc
  have HN := Lib.hid (fun W => nearest_any (a * b) c W m1 m2 c1 c2 h5)
  have HY := Lib.hid (Fx.len_no hy)
  clear ha hb hc hy
  generalize Fx.near (a * b) c = y at *
  go_enter Try.func29, Try.ntmps29
  go_wp2_with fail
  refine (HN.out _).mono ?_
  rintro e w1 ⟨rfl, hlo⟩
  go_wp2_with fail
  refine (within_over y _ HY.out).mono ?_
  rintro e w2 ⟨rfl, rfl⟩
  exact ⟨rfl, rfl, hlo⟩

theorem row1 (w : World) (B : Nat) (hB : B = w.heap.size) (a : Int) : Row (w.alloc (.cells #[.int .i64 a] 3)) (.slice (some ⟨B, 0, none⟩) 1 1) [a] :=
  hB ▸ .inr ⟨w.heap.size, 0, 1, rfl, by simp, by simp, by simp, fun i hi => by
    obtain rfl : i = 0 := by simp at hi; omega
    simp [go_sem]⟩
theorem row2 (w : World) (B : Nat) (hB : B = w.heap.size) (a b : Int) : Row (w.alloc (.cells #[.int .i64 a, .int .i64 b] 3)) (.slice (some ⟨B, 0, none⟩) 2 2) [a, b] :=
  hB ▸ .inr ⟨w.heap.size, 0, 2, rfl, by simp, by simp, by simp, fun i hi => by
    obtain rfl | rfl : i = 0 ∨ i = 1 := by simp at hi; omega
    all_goals simp [go_sem]⟩
theorem row3 (w : World) (B : Nat) (hB : B = w.heap.size) (a b c : Int) : Row (w.alloc (.cells #[.int .i64 a, .int .i64 b, .int .i64 c] 3)) (.slice (some ⟨B, 0, none⟩) 3 3) [a, b, c] :=
  hB ▸ .inr ⟨w.heap.size, 0, 3, rfl, by simp, by simp, by simp, fun i hi => by
    obtain rfl | rfl | rfl : i = 0 ∨ i = 1 ∨ i = 2 := by simp at hi; omega
    all_goals simp [go_sem]⟩
theorem row4 (w : World) (B : Nat) (hB : B = w.heap.size) (a b c d : Int) : Row (w.alloc (.cells #[.int .i64 a, .int .i64 b, .int .i64 c, .int .i64 d] 3)) (.slice (some ⟨B, 0, none⟩) 4 4) [a, b, c, d] :=
  hB ▸ .inr ⟨w.heap.size, 0, 4, rfl, by simp, by simp, by simp, fun i hi => by
    obtain rfl | rfl | rfl | rfl : i = 0 ∨ i = 1 ∨ i = 2 ∨ i = 3 := by simp at hi; omega
    all_goals simp [go_sem]⟩

theorem enter_muldiv (caps : Array Value) (W : World) : (callFunc 29 caps).run Try.prog W = .ok (.enter 29 caps) W := by simp [go_sem]
theorem enter_sum (caps : Array Value) (W : World) : (callFunc 24 caps).run Try.prog W = .ok (.enter 24 caps) W := by simp [go_sem]
theorem enter_times (caps : Array Value) (W : World) : (callFunc 28 caps).run Try.prog W = .ok (.enter 28 caps) W := by simp [go_sem]

theorem Lo.alloc4 (w : World) (a b c d : Obj) : Lo w ((((w.alloc a).alloc b).alloc c).alloc d) := ((((Lo.refl w).alloc a).alloc b).alloc c).alloc d

set_option maxHeartbeats 400000 in
theorem muldiv_arg (a b c : Int) (w : World) (h : ¬ (Fx.is [a, b, c] = true ∧ c ≠ 0)) :
    Calls Try.prog 16 #[.int .i64 a, .int .i64 b, .int .i64 c] w fun e w' => e = .returned (.tuple #[.int .i64 0, .int .i64 1]) ∧ Lo w w' := by
  by_cases hi : Fx.is [a, b, c] = true
  · have hc : (c == 0) = true := by
      simp only [hi, true_and] at h; simpa using h
    clear h
    have HI := Lib.hid hi
    clear hi
    go_enter Try.func16, Try.ntmps16
    go_wp2_with fail
    refine (is_any _ [a, b, c] _ (row3 _ _ (by simp) a b c)).mono ?_
    rintro e w' ⟨rfl, rfl⟩
    rw [HI.out]
    go_wp2_with fail
    go_ret2
    exact ⟨rfl, Lo.alloc4 _ _ _ _ _⟩
  · have hi' : Fx.is [a, b, c] = false := by simpa using hi
    clear h hi
    have HI := Lib.hid hi'
    clear hi'
    go_enter Try.func16, Try.ntmps16
    go_wp2_with fail
    refine (is_any _ [a, b, c] _ (row3 _ _ (by simp) a b c)).mono ?_
    rintro e w' ⟨rfl, rfl⟩
    rw [HI.out]
    go_wp2_with fail
    go_ret2
    exact ⟨rfl, Lo.alloc4 _ _ _ _ _⟩

/-- The world at MulDiv's call of caught. -/
def mdW (w : World) (a b c : Int) : World :=
  (((w.alloc (.cells #[.int .i64 a] 3)).alloc (.cells #[.int .i64 b] 3)).alloc (.cells #[.int .i64 c] 3)).alloc (.cells #[.int .i64 a, .int .i64 b, .int .i64 c] 3)
theorem mdW_cells (w : World) (a b c : Int) : (boxed (mdW w a b c)).cell? ⟨w.heap.size, 0, none⟩ = some (.int .i64 a) ∧ (boxed (mdW w a b c)).cell? ⟨w.heap.size + 1, 0, none⟩ = some (.int .i64 b) ∧
    (boxed (mdW w a b c)).cell? ⟨w.heap.size + 1 + 1, 0, none⟩ = some (.int .i64 c) := by
  simp [boxed, mdW, go_sem]

set_option maxHeartbeats 400000 in
theorem muldiv_ok (a b c : Int) (w : World) (hi : Fx.is [a, b, c] = true) (h5 : ¬ c = 0) (hy : Fx.len (Fx.near (a * b) c) = true) :
    Calls Try.prog 16 #[.int .i64 a, .int .i64 b, .int .i64 c] w fun e w' => e = .returned (.tuple #[.int .i64 (Fx.near (a * b) c), .int .i64 0]) ∧ Lo w w' := by
  have hmf : ∀ (fn : Fn) (first cap : Array Value) (w : World), (Instr.makeFunc fn first cap).run Try.prog w = .ok (.func fn first cap) w := fun _ _ _ _ => rfl
  have HI := Lib.hid hi
  obtain ⟨ha, hb, hc⟩ : Fx.len a = true ∧ Fx.len b = true ∧ Fx.len c = true := by simpa [Fx.is] using hi
  obtain ⟨c1, c2, c3⟩ := mdW_cells w a b c
  have HM := Lib.hid (caught_ret 29 #[.pointer (some ⟨w.heap.size, 0, none⟩), .pointer (some ⟨w.heap.size + 1, 0, none⟩), .pointer (some ⟨w.heap.size + 1 + 1, 0, none⟩)] _ (mdW w a b c) (enter_muldiv _)
    (muldiv1_ok _ _ _ a b c _ ha hb hc h5 c1 c2 c3 hy))
  generalize Fx.near (a * b) c = y at *
  unfold mdW at HM
  have h5' : (c == 0) = false := by simpa using h5
  clear hi ha hb hc c1 c2 c3 hy h5
  go_enter Try.func16, Try.ntmps16
  go_wp2_with fail
  refine (is_any _ [a, b, c] _ (row3 _ _ (by simp) a b c)).mono ?_
  rintro e w' ⟨rfl, rfl⟩
  rw [HI.out]
  go_wp2_with fail
  refine HM.out.mono ?_
  rintro e w1 ⟨rfl, hlo⟩
  go_wp2_with fail
  go_ret2
  exact ⟨rfl, (Lo.alloc4 _ _ _ _ _).trans hlo⟩

set_option maxHeartbeats 400000 in
theorem muldiv_over (a b c : Int) (w : World) (hi : Fx.is [a, b, c] = true) (h5 : ¬ c = 0) (hy : Fx.len (Fx.near (a * b) c) = false) :
    Calls Try.prog 16 #[.int .i64 a, .int .i64 b, .int .i64 c] w fun e w' => e = .returned (.tuple #[.int .i64 0, .int .i64 2]) ∧ Lo w w' := by
  have hmf : ∀ (fn : Fn) (first cap : Array Value) (w : World), (Instr.makeFunc fn first cap).run Try.prog w = .ok (.func fn first cap) w := fun _ _ _ _ => rfl
  have HI := Lib.hid hi
  obtain ⟨ha, hb, hc⟩ : Fx.len a = true ∧ Fx.len b = true ∧ Fx.len c = true := by simpa [Fx.is] using hi
  obtain ⟨c1, c2, c3⟩ := mdW_cells w a b c
  have HM := Lib.hid (caught_over 29 #[.pointer (some ⟨w.heap.size, 0, none⟩), .pointer (some ⟨w.heap.size + 1, 0, none⟩), .pointer (some ⟨w.heap.size + 1 + 1, 0, none⟩)] (mdW w a b c) (enter_muldiv _)
    (muldiv1_over _ _ _ a b c _ ha hb hc h5 c1 c2 c3 hy))
  unfold mdW at HM
  have h5' : (c == 0) = false := by simpa using h5
  clear hi ha hb hc c1 c2 c3 hy h5
  go_enter Try.func16, Try.ntmps16
  go_wp2_with fail
  refine (is_any _ [a, b, c] _ (row3 _ _ (by simp) a b c)).mono ?_
  rintro e w' ⟨rfl, rfl⟩
  rw [HI.out]
  go_wp2_with fail
  refine HM.out.mono ?_
  rintro e w1 ⟨rfl, hlo⟩
  go_wp2_with fail
  go_ret2
  exact ⟨rfl, (Lo.alloc4 _ _ _ _ _).trans hlo⟩

/-- What a function of package fixed answers: a number and an error's number. -/
abbrev tup (p : Int × Int) : Ending := .returned (.tuple #[.int .i64 p.1, .int .i64 p.2])

theorem muldiv_any (a b c : Int) (w : World) :
    Calls Try.prog 16 #[.int .i64 a, .int .i64 b, .int .i64 c] w fun e w' => e = tup (Fx.mulDiv a b c) ∧ Lo w w' := by
  by_cases h : Fx.is [a, b, c] = true ∧ c ≠ 0
  · by_cases hy : Fx.len (Fx.near (a * b) c) = true
    · have e : Fx.mulDiv a b c = (Fx.near (a * b) c, 0) := by rw [Fx.mulDiv, if_pos h, Fx.told, if_pos hy]
      rw [e]
      exact muldiv_ok a b c w h.1 h.2 hy
    · have e : Fx.mulDiv a b c = (0, 2) := by rw [Fx.mulDiv, if_pos h, Fx.told, if_neg hy]
      rw [e]
      exact muldiv_over a b c w h.1 h.2 (by simpa using hy)
  · have e : Fx.mulDiv a b c = (0, 1) := by rw [Fx.mulDiv, if_neg h]
    rw [e]
    exact muldiv_arg a b c w h

set_option maxHeartbeats 400000 in
theorem half_yes (a : Int) (w : World) (h : Fx.len a = true) :
    Calls Try.prog 18 #[.int .i64 a] w fun e w' => e = tup (a / 2, 0) ∧ Lo w w' := by
  obtain ⟨a1, a2⟩ := (Fx.len_iff a).1 h
  have hi : Fx.is [a] = true := by simp [Fx.is, h]
  have HI := Lib.hid hi
  clear hi h
  go_enter Try.func18, Try.ntmps18
  go_wp2_with fail
  refine (is_any _ [a] _ (row1 _ _ (by simp) a)).mono ?_
  rintro e w' ⟨rfl, rfl⟩
  rw [HI.out]
  go_wp2_with fail
  go_ret2
  exact ⟨rfl, (Lo.refl w).alloc _⟩

set_option maxHeartbeats 400000 in
theorem half_no (a : Int) (w : World) (h : Fx.len a = false) :
    Calls Try.prog 18 #[.int .i64 a] w fun e w' => e = tup (0, 1) ∧ Lo w w' := by
  have hi : Fx.is [a] = false := by simp [Fx.is, h]
  have HI := Lib.hid hi
  clear hi h
  go_enter Try.func18, Try.ntmps18
  go_wp2_with fail
  refine (is_any _ [a] _ (row1 _ _ (by simp) a)).mono ?_
  rintro e w' ⟨rfl, rfl⟩
  rw [HI.out]
  go_wp2_with fail
  go_ret2
  exact ⟨rfl, (Lo.refl w).alloc _⟩

set_option maxHeartbeats 400000 in
theorem sum1_any (b off cap p : Nat) (l : List Int) (w : World) (hm : l.length ≤ 9223372036854775807) (his : Fx.is l = true)
    (hp : w.cell? ⟨p, 0, none⟩ = some (.slice (some ⟨b, off, none⟩) l.length cap))
    (hc : ∀ i, i < l.length → w.cell? ⟨b, off + i, none⟩ = some (.int .i64 (l.getD i 0))) :
    Calls Try.prog 24 #[.pointer (some ⟨p, 0, none⟩)] w fun e w' => e = (match Fx.sumFrom 0 l with | some s => .returned (.int .i64 s) | none => .panicked over) ∧ w = w' := by
  generalize hy : (match Fx.sumFrom 0 l with | some s => Ending.returned (.int .i64 s) | none => .panicked over) = y
  have HY := Lib.hid hy
  generalize hn : l.length = n at *
  have HN := Lib.hid hn
  have HC := Lib.hid hc
  have HL := Lib.hid (fun k (hk : k < n) => (show Fx.len (l.getD k 0) = true by
    have h' : k < l.length := by rw [hn]; exact hk
    have := List.all_eq_true.1 his _ (List.getElem_mem h')
    simpa [List.getD, List.getElem?_eq_getElem h'] using this))
  have HS := Lib.hid (fun k (hk : k < n) => (show l.drop k = l.getD k 0 :: l.drop (k + 1) by
    have h' : k < l.length := by rw [hn]; exact hk
    rw [List.drop_eq_getElem_cons h']; simp [List.getD, List.getElem?_eq_getElem h']))
  clear hn hc hy his
  go_enter Try.func24, Try.ntmps24
  go_wp2_with fail
  go_loop [2, 7] (fun t i => ∃ (s : Int) (k : Nat), k ≤ n ∧ i = .int .i64 k ∧ t = .int .i64 s ∧ Fx.len s = true ∧ Hid (Fx.sumFrom 0 l = Fx.sumFrom s (l.drop k))) (fun _ i => n - (intOf i).toNat)
  case atStart => exact ⟨0, 0, Nat.zero_le _, rfl, rfl, by decide, rfl⟩
  case round =>
    obtain ⟨s, k, hk, rfl, rfl, hs, HF⟩ := hrel
    obtain ⟨s1, s2⟩ := (Fx.len_iff s).1 hs
    clear hs
    by_cases hlt : k < n
    · have hcell := HC.out k hlt
      obtain ⟨z1, z2⟩ := (Fx.len_iff _).1 (HL.out k hlt)
      have HD := Lib.hid (HS.out k hlt)
      generalize l.getD k 0 = z at *
      by_cases hin : Fx.len (s + z) = true
      · have HF' : Hid (Fx.sumFrom 0 l = Fx.sumFrom (s + z) (l.drop (k + 1))) := by
          have := HF.out
          rw [HD.out, Fx.sumFrom, if_pos hin] at this
          exact this
        have HIN := Lib.hid hin
        obtain ⟨i1, i2⟩ := (Fx.len_iff _).1 hin
        clear hin HF HD
        go_wp2_with fail
        refine (within_ok (s + z) _ i1 i2).mono ?_
        rintro e w' ⟨rfl, rfl⟩
        go_wp2_with fail
        go_round
        case rel => exact ⟨s + z, k + 1, by omega, by go_num, rfl, HIN.out, HF'⟩
        case measure => simp [intOf]; omega
      · have hin' : Fx.len (s + z) = false := by simpa using hin
        have HIN := Lib.hid (Fx.len_no hin')
        have HYY : Hid (y = .panicked over) := by
          have h1 := HF.out
          rw [HD.out, Fx.sumFrom, if_neg hin] at h1
          have h2 := HY.out
          rw [h1] at h2
          exact h2.symm
        clear hin hin' HF HD
        go_wp2_with fail
        refine (within_over (s + z) _ HIN.out).mono ?_
        rintro e w' ⟨rfl, rfl⟩
        exact ⟨rfl, HYY.out.symm, rfl⟩
    · have HYY : Hid (y = .returned (.int .i64 s)) := by
        have h1 := HF.out
        rw [List.drop_of_length_le (by rw [HN.out]; omega), Fx.sumFrom] at h1
        have h2 := HY.out
        rw [h1] at h2
        exact h2.symm
      go_wp2_with fail
      go_ret
      exact ⟨HYY.out.symm, rfl⟩

theorem half_any (a : Int) (w : World) : Calls Try.prog 18 #[.int .i64 a] w fun e w' => e = tup (Fx.half a) ∧ Lo w w' := by
  by_cases h : Fx.len a = true
  · rw [Fx.half, if_pos h]; exact half_yes a w h
  · rw [Fx.half, if_neg h]; exact half_no a w (by simpa using h)

set_option maxHeartbeats 400000 in
theorem sum1_nil (x : Option Addr) (c p : Nat) (w : World) (hp : w.cell? ⟨p, 0, none⟩ = some (.slice x 0 c)) :
    Calls Try.prog 24 #[.pointer (some ⟨p, 0, none⟩)] w fun e w' => e = .returned (.int .i64 0) ∧ w = w' := by
  go_enter Try.func24, Try.ntmps24
  go_wp2_with fail
  go_loop [2, 7] (fun t i => i = .int .i64 0 ∧ t = .int .i64 0) (fun _ _ => 0)
  case atStart => exact ⟨rfl, rfl⟩
  case round =>
    obtain ⟨rfl, rfl⟩ := hrel
    go_wp2_with fail
    go_ret
    exact ⟨rfl, rfl⟩

/-- The ending of a sum's work. -/
def sumEnd : Option Int → Ending
  | some s => .returned (.int .i64 s)
  | none => .panicked over

theorem sum1_row (v : Value) (p : Nat) (l : List Int) (w : World) (h : Row w v l) (his : Fx.is l = true) (hp : w.cell? ⟨p, 0, none⟩ = some v) :
    Calls Try.prog 24 #[.pointer (some ⟨p, 0, none⟩)] w fun e w' => e = sumEnd (Fx.sumFrom 0 l) ∧ w = w' := by
  rcases h with ⟨x, c, rfl, _, rfl⟩ | ⟨b, off, cap, rfl, h2, h2b, h3, h4⟩
  · exact sum1_nil x c p w hp
  · refine (sum1_any b off cap p l w h2 his hp h4).mono ?_
    rintro e w' ⟨rfl, rfl⟩
    refine ⟨?_, rfl⟩
    cases Fx.sumFrom 0 l <;> rfl

theorem sum_caught (v : Value) (l : List Int) (w : World) (h : Row w v l) (his : Fx.is l = true) :
    Calls Try.prog 23 #[.func (.func 24) #[] #[.pointer (some ⟨w.heap.size, 0, none⟩)]] (w.alloc (.cells #[v] 22)) fun e w' =>
      e = tup (Fx.sumOf (Fx.sumFrom 0 l)) ∧ Lo (w.alloc (.cells #[v] 22)) w' := by
  have hb : Lo w (boxed (w.alloc (.cells #[v] 22))) := (((Lo.refl w).alloc _).alloc _).alloc _
  have hp : (boxed (w.alloc (.cells #[v] 22))).cell? ⟨w.heap.size, 0, none⟩ = some v := by simp [boxed, go_sem]
  have hs := sum1_row v w.heap.size l _ (h.lo hb) his hp
  cases e : Fx.sumFrom 0 l with
  | some s =>
    rw [e] at hs
    exact caught_ret _ _ s _ (enter_sum _) (hs.mono fun _ _ ⟨he, hw⟩ => ⟨he, hw ▸ Lo.refl _⟩)
  | none =>
    rw [e] at hs
    exact caught_over _ _ _ (enter_sum _) (hs.mono fun _ _ ⟨he, hw⟩ => ⟨he, hw ▸ Lo.refl _⟩)

set_option maxHeartbeats 400000 in
theorem sum_yes (v : Value) (l : List Int) (w : World) (h : Row w v l) (his : Fx.is l = true) :
    Calls Try.prog 10 #[v] w fun e w' => e = tup (Fx.sumOf (Fx.sumFrom 0 l)) ∧ Lo w w' := by
  have hmf : ∀ (fn : Fn) (first cap : Array Value) (w : World), (Instr.makeFunc fn first cap).run Try.prog w = .ok (.func fn first cap) w := fun _ _ _ _ => rfl
  have HC := Lib.hid (sum_caught v l w h his)
  have HI := Lib.hid (is_any v l _ (h.lo ((Lo.refl w).alloc (.cells #[v] 22))))
  generalize Fx.sumOf (Fx.sumFrom 0 l) = y at *
  rw [his] at HI
  clear his
  have H := Lib.hid h
  obtain ⟨x, n, c, hv⟩ : ∃ x n c, v = .slice x n c := by rcases h with ⟨p, c, h, _⟩ | ⟨b, off, cap, h, _⟩ <;> exact ⟨_, _, _, h⟩
  clear h
  subst hv
  go_enter Try.func10, Try.ntmps10
  go_wp2_with fail
  refine HI.out.mono ?_
  rintro e w' ⟨rfl, rfl⟩
  go_wp2_with fail
  refine HC.out.mono ?_
  rintro e w1 ⟨rfl, hlo⟩
  go_wp2_with fail
  go_ret2
  exact ⟨rfl, ((Lo.refl w).alloc _).trans hlo⟩

set_option maxHeartbeats 400000 in
theorem sum_no (v : Value) (l : List Int) (w : World) (h : Row w v l) (his : Fx.is l = false) :
    Calls Try.prog 10 #[v] w fun e w' => e = tup (0, 1) ∧ Lo w w' := by
  have HI := Lib.hid (is_any v l _ (h.lo ((Lo.refl w).alloc (.cells #[v] 22))))
  rw [his] at HI
  clear his
  obtain ⟨x, n, c, hv⟩ : ∃ x n c, v = .slice x n c := by rcases h with ⟨p, c, h, _⟩ | ⟨b, off, cap, h, _⟩ <;> exact ⟨_, _, _, h⟩
  clear h
  subst hv
  go_enter Try.func10, Try.ntmps10
  go_wp2_with fail
  refine HI.out.mono ?_
  rintro e w' ⟨rfl, rfl⟩
  go_wp2_with fail
  go_ret2
  exact ⟨rfl, (Lo.refl w).alloc _⟩

theorem sum_any (v : Value) (l : List Int) (w : World) (h : Row w v l) :
    Calls Try.prog 10 #[v] w fun e w' => e = tup (Fx.sum l) ∧ Lo w w' := by
  by_cases his : Fx.is l = true
  · rw [Fx.sum, if_pos his]; exact sum_yes v l w h his
  · rw [Fx.sum, if_neg his]; exact sum_no v l w h (by simpa using his)

set_option maxHeartbeats 400000 in
theorem add_any (a b : Int) (w : World) :
    Calls Try.prog 12 #[.int .i64 a, .int .i64 b] w fun e w' => e = tup (Fx.sum [a, b]) ∧ Lo w w' := by
  have HS := Lib.hid (sum_any _ [a, b] _ (row2 w _ rfl a b))
  generalize Fx.sum [a, b] = y at *
  go_enter Try.func12, Try.ntmps12
  go_wp2_with fail
  refine HS.out.mono ?_
  rintro e w1 ⟨rfl, hlo⟩
  go_wp2_with fail
  go_ret2
  exact ⟨rfl, ((Lo.refl w).alloc _).trans hlo⟩

end Go.Proofs.Ytnhegoimmlnmcaa
