/-
  The contract of group.divide: a span is yielded as it is, or a span for each of its runes. No conditions beyond those stated.
-/
import Derived.Test.YtnlifmedkkboaaaGrKeep
namespace Go.Proofs.Ytnlifmedkkboaaa
open Go.RowKit Go.Shelf
attribute [local go_sem] Oper.semAt_some wide_fn wide_depth

/-- What a round does that is handed a span. -/
def Yields (n₀ n₁ B N l : Nat) (J Jx : List Ch.Span → World → Prop) : Prop := ∀ (m : Nat) pre y W1, J pre W1 → pre.length < N → YieldAt Fence.wide m Try.prog l #[aggS y] W1 fun e W' =>
  (e = .returned (.bool true) ∧ J (pre ++ [y]) W' ∧ KpS n₀ n₁ B W1 W') ∨ (e = .returned (.bool false) ∧ Jx (pre ++ [y]) W')
/-- What a callee that yields these spans does. -/
def Divided (n₀ n₁ B : Nat) (J Jx : List Ch.Span → World → Prop) (pre part : List Ch.Span) (W : World) (e : Ending) (W' : World) : Prop :=
  (e = .returned (.bool true) ∧ J (pre ++ part) W' ∧ KpS n₀ n₁ B W W') ∨ (e = .returned (.bool false) ∧ ∃ q, q <+: part ∧ Jx (pre ++ q) W')

set_option maxHeartbeats 1000000 in
theorem divide_none (m l n₀ n₁ B : Nat) (J Jx : List Ch.Span → World → Prop) (hA : ∀ pre W o, J pre W → J pre (W.alloc o)) (x : Ch.Span) (ho : Ch.okSpan x = true) (step : Int) (hs : x.st = step) (hu : Gp.used x = false)
    (pre : List Ch.Span) (W : World) (hn : n₀ ≤ W.heap.size) (h0 : J pre W) :
    CallsIn Fence.wide m Try.prog 41 #[aggS x, .int .i64 step, .func (.yield l) #[] #[]] W (Divided n₀ n₁ B J Jx pre [] W) := by
  have HU := Lib.hid hu
  obtain ⟨a1, a2, a3, a4, a5, a6, a7, a8⟩ := (Ch.okSpan_iff x).1 ho
  have HV := Lib.hid (fun w => gused_any x w a1 a2 a3 a4 a5 a6 a7)
  subst hs
  rw [hu] at HV
  clear hu ho a8
  obtain ⟨fr, tt, gl, st⟩ := x
  unfold aggS at *
  dsimp only at *
  refine callsIn_of_wp Try.func41 rfl trivial ?_ rfl
  simp only [Try.ntmps41, List.size_toArray, List.length_cons, List.length_nil, Nat.reduceAdd, Nat.reduceSub, Array.replicate_succ, Array.replicate_zero, List.push_toArray, List.append_toArray, List.nil_append, List.cons_append]
  gi_wp2_with (gi_at_call 56; refine (callsIn_wide.2 (HV.out _)).mono ?_; rintro e w' ⟨rfl, v, rfl⟩)
  refine bodyPost_ret (results_tmp rfl _ _ _) rfl ?_
  exact .inl ⟨rfl, by rw [List.append_nil]; exact hA _ _ _ (hA _ _ _ h0), (KpS.alloc hn _).trans (KpS.alloc (by simp; omega) _)⟩

set_option maxHeartbeats 1000000 in
theorem divide_one (m l n₀ n₁ B N : Nat) (J Jx : List Ch.Span → World → Prop) (hY : Yields n₀ n₁ B N l J Jx) (hA : ∀ pre W o, J pre W → J pre (W.alloc o)) (x : Ch.Span) (ho : Ch.okSpan x = true) (step : Int) (hs : x.st = step) (hu : Gp.used x = true)
    (pre : List Ch.Span) (hN : pre.length < N) (W : World) (hn : n₀ ≤ W.heap.size) (h0 : J pre W) :
    CallsIn Fence.wide m Try.prog 41 #[aggS x, .int .i64 step, .func (.yield l) #[] #[]] W (Divided n₀ n₁ B J Jx pre [x] W) := by
  obtain ⟨a1, a2, a3, a4, a5, a6, a7, a8⟩ := (Ch.okSpan_iff x).1 ho
  have HV := Lib.hid (fun w => gused_any x w a1 a2 a3 a4 a5 a6 a7)
  have HY := Lib.hid (fun m W1 (h : J pre W1) => hY m pre x W1 h hN)
  subst hs
  rw [hu] at HV
  clear hu ho a8
  obtain ⟨fr, tt, gl, st⟩ := x
  unfold aggS at *
  dsimp only at *
  have HD := Lib.hid (fun (W1 : World) (k : KpS n₀ n₁ B W W1) (e' : Ending) (W' : World)
    (h : (e' = .returned (.bool true) ∧ J (pre ++ [⟨fr, tt, gl, st⟩]) W' ∧ KpS n₀ n₁ B W1 W') ∨ (e' = .returned (.bool false) ∧ Jx (pre ++ [⟨fr, tt, gl, st⟩]) W')) =>
      (show ∃ b, e' = .returned (.bool b) ∧ Divided n₀ n₁ B J Jx pre [⟨fr, tt, gl, st⟩] W (.returned (.bool b)) W' from by
        rcases h with ⟨rfl, h1, h2⟩ | ⟨rfl, h1⟩
        · exact ⟨true, rfl, .inl ⟨rfl, h1, k.trans h2⟩⟩
        · exact ⟨false, rfl, .inr ⟨rfl, _, List.prefix_refl _, h1⟩⟩))
  refine callsIn_of_wp Try.func41 rfl trivial ?_ rfl
  simp only [Try.ntmps41, List.size_toArray, List.length_cons, List.length_nil, Nat.reduceAdd, Nat.reduceSub, Array.replicate_succ, Array.replicate_zero, List.push_toArray, List.append_toArray, List.nil_append, List.cons_append]
  gi_wp2_with (gi_at_call 56; refine (callsIn_wide.2 (HV.out _)).mono ?_; rintro e w' ⟨rfl, v, rfl⟩; obtain ⟨fn, tmps, assign, body, hy, hR⟩ := HY.out (m - 1) _ (hA _ _ (.cells v 36) (hA _ _ (.cells #[.int .i64 fr, .int .i64 tt, .int .i64 gl, .int .i64 st] 36) h0)))
  refine hR.mono ?_
  rintro e W3 h
  obtain ⟨b, rfl, hd⟩ := HD.out _ ((KpS.alloc hn _).trans (KpS.alloc (by simp; omega) _)) _ _ h
  have HE := Lib.hid hd
  clear hd h hR hy HD
  gi_wp2
  refine bodyPost_ret (results_tmp rfl _ _ _) rfl ?_
  exact HE.out

/-- A span's runes, one after another. -/
theorem cut_grow {step : Int} {x : Ch.Span} {k : Nat} (h : x.fr + k ≤ x.to) (h0 : ¬ x.gl + x.st * k = 0) : Gp.cutTo step x (k + 1) = Gp.cutTo step x k ++ [⟨x.fr + k, x.fr + k, x.gl + x.st * k, step⟩] := by
  rw [Gp.cut_step h, if_neg h0]
theorem cut_stay {step : Int} {x : Ch.Span} {k : Nat} (h : x.fr + k ≤ x.to) (h0 : x.gl + x.st * k = 0) : Gp.cutTo step x (k + 1) = Gp.cutTo step x k := by
  rw [Gp.cut_step h, if_pos h0, List.append_nil]
theorem cut_pre (step : Int) (x : Ch.Span) {k n : Nat} (h : k ≤ n) : Gp.cutTo step x k <+: Gp.cutTo step x n := by
  obtain ⟨m, rfl⟩ := Nat.exists_eq_add_of_le h
  unfold Gp.cutTo
  rw [Ch.spansOf_append, List.map_append]
  exact List.prefix_append _ _

set_option maxRecDepth 100000 in
set_option maxHeartbeats 3200000 in
theorem divide_many0 (m l n₀ n₁ B N : Nat) (J Jx : List Ch.Span → World → Prop) (hY : Yields n₀ n₁ B N l J Jx) (hA : ∀ pre W o, J pre W → J pre (W.alloc o)) (x : Ch.Span) (ho : Ch.okSpan x = true) (step : Int) (hst : x.st = 0) (hs : x.st ≠ step) (hs1 : step = 0 ∨ step = 1)
    (pre : List Ch.Span) (hN : pre.length + (Gp.cutTo step x (x.to - x.fr + 1).toNat).length ≤ N) (W : World) (hn : n₀ ≤ W.heap.size) (hn1 : n₁ ≤ W.heap.size) (hg : Good B W) (h0 : J pre W) :
    CallsIn Fence.wide m Try.prog 41 #[aggS x, .int .i64 step, .func (.yield l) #[] #[]] W (Divided n₀ n₁ B J Jx pre (Gp.cutTo step x (x.to - x.fr + 1).toNat) W) := by
  obtain ⟨a1, a2, a3, a4, a5, a6, a7, a8⟩ := (Ch.okSpan_iff x).1 ho
  have HO := Lib.hid ho
  have HS := Lib.hid hs
  obtain ⟨M, hM⟩ : ∃ M, (x.to - x.fr + 1).toNat = M := ⟨_, rfl⟩
  have hMi : x.to - x.fr + 1 = (M : Int) := by omega
  rw [hM] at hN ⊢
  obtain ⟨C, hC⟩ : ∃ C : Nat → List Ch.Span, C = Gp.cutTo step x := ⟨_, rfl⟩
  have HC0 : Hid (C 0 = []) := Lib.hid (by rw [hC]; rfl)
  have HCn : Hid (pre.length + (C M).length ≤ N) := Lib.hid (by rw [hC]; exact hN)
  have HCp : Hid (∀ k, k ≤ M → C k <+: C M) := Lib.hid (fun k h => by rw [hC]; exact cut_pre step x h)
  have HCg : Hid (∀ (k : Nat) (g : Int), k < M → g = x.gl + x.st * k → ¬ g = 0 → C (k + 1) = C k ++ [⟨x.fr + k, x.fr + k, g, step⟩] ∧ (pre ++ C k).length < N) := Lib.hid (fun k g h hg h1 => by
    have e : C (k + 1) = C k ++ [⟨x.fr + k, x.fr + k, g, step⟩] := by rw [hC, hg]; exact cut_grow (by omega) (by rw [← hg]; exact h1)
    refine ⟨e, ?_⟩
    have h2 := (HCp.out (k + 1) h).length_le
    rw [e, List.length_append] at h2
    simp only [List.length_cons, List.length_nil] at h2
    rw [List.length_append]
    have := HCn.out
    omega)
  have HCs : Hid (∀ (k : Nat) (g : Int), k < M → g = x.gl + x.st * k → g = 0 → C (k + 1) = C k) := Lib.hid (fun k g h hg h1 => by rw [hC]; exact cut_stay (by omega) (by rw [← hg]; exact h1))
  have HB : Hid (∀ k : Nat, k < M → 0 ≤ x.gl + x.st * k ∧ x.gl + x.st * k ≤ 65535) := Lib.hid (fun k h => by
    rcases (show x.st = 0 ∨ x.st = 1 by omega) with e | e
    · rw [e]; simp; omega
    · rw [e] at a8 ⊢; simp at a8 ⊢; omega)
  rw [← hC]
  clear hC ho hN hM
  obtain ⟨fr, tt, gl, st⟩ := x
  unfold aggS
  dsimp only at *
  subst hst
  have hq : ((0 : Int) == step) = false := by simpa using hs
  refine callsIn_of_wp Try.func41 rfl trivial ?_ rfl
  simp only [Try.ntmps41, List.size_toArray, List.length_cons, List.length_nil, Nat.reduceAdd, Nat.reduceSub, Array.replicate_succ, Array.replicate_zero, List.push_toArray, List.append_toArray, List.nil_append, List.cons_append]
  gi_wp2
  have hW1 : KpS n₀ n₁ B W (W.alloc (.cells #[.int .i64 fr, .int .i64 tt, .int .i64 gl, .int .i64 0] 36)) := KpS.alloc hn _
  have hg1 := hg.alloc (.cells #[.int .i64 fr, .int .i64 tt, .int .i64 gl, .int .i64 0] 36)
  have ho1 : ¬ Owned B (W.alloc (.cells #[.int .i64 fr, .int .i64 tt, .int .i64 gl, .int .i64 0] 36)) W.heap.size := hg.new _
  have hb1 : (W.alloc (.cells #[.int .i64 fr, .int .i64 tt, .int .i64 gl, .int .i64 0] 36)).heap[W.heap.size]? = some (.cells #[.int .i64 fr, .int .i64 tt, .int .i64 gl, .int .i64 0] 36) := new_block W _
  have hsz : n₀ ≤ (W.alloc (.cells #[.int .i64 fr, .int .i64 tt, .int .i64 gl, .int .i64 0] 36)).heap.size := by rw [World.size_alloc]; omega
  have hJ1 := hA _ _ (.cells #[.int .i64 fr, .int .i64 tt, .int .i64 gl, .int .i64 0] 36) h0
  obtain ⟨bx, hbx⟩ : ∃ bx, W.heap.size = bx := ⟨_, rfl⟩
  rw [hbx] at hn1 ho1 hb1 ⊢
  generalize (W.alloc (.cells #[.int .i64 fr, .int .i64 tt, .int .i64 gl, .int .i64 0] 36)) = W1 at *
  have HG := Lib.hid hg1
  have HO1 := Lib.hid ho1
  have HB1 := Lib.hid hb1
  have HJ1 := Lib.hid hJ1
  clear hg1 ho1 hb1 hJ1 hg h0
  gi_loopw [28] (fun i wr => ∃ k : Nat, k ≤ M ∧ i = .int .i64 (k : Int) ∧ Hid (J (pre ++ C k) wr) ∧ Hid (KpS n₀ n₁ B W1 wr))
    (fun i _ => (M - (intOf i).toNat))
  case atStart => exact ⟨0, Nat.zero_le _, rfl, Lib.hid (by rw [HC0.out, List.append_nil]; exact HJ1.out), Lib.hid (KpS.refl _ _ _ _)⟩
  case round =>
    obtain ⟨k, hk, rfl, HJ, HK⟩ := hrel
    have hbr := (HK.out.keep HG.out HB1.out rfl hn1 HO1.out).1
    have c0 := block_cell (i := 0) hbr rfl
    have c1 := block_cell (i := 1) hbr rfl
    have c2 := block_cell (i := 2) hbr rfl
    have c3 := block_cell (i := 3) hbr rfl
    by_cases hlt : k < M
    · have hg0 := HB.out k hlt
      have HL1 : Hid (M - (k + 1) < M - k) := Lib.hid (by omega)
      obtain ⟨b1, b2⟩ : fr + (k : Int) ≤ tt ∧ (k : Int) < M := ⟨by omega, by omega⟩
      have hsw : n₀ ≤ wr.heap.size := Nat.le_trans hsz HK.out.below.size
      have hgw := HK.out.good HG.out
      have hGk : gl = gl + 0 * (k : Int) := by simp
      rw [← hGk] at hg0
      obtain ⟨g0, g1⟩ := hg0
      have HV := Lib.hid (fun w => gused_any ⟨fr + (k : Int), fr + (k : Int), gl, step⟩ w (by dsimp only; omega) (by dsimp only; omega) (by dsimp only; omega) (by dsimp only; omega) (by dsimp only; omega) (by dsimp only; omega) (by dsimp only; omega))
      have HU : Gp.used ⟨fr + (k : Int), fr + (k : Int), gl, step⟩ = decide (0 < gl) := by
        unfold Gp.used
        rw [Bool.eq_iff_iff]
        simp
      have HJ1 := Lib.hid (hA _ _ (.cells #[.int .i64 (fr + (k : Int)), .int .i64 (fr + (k : Int)), .int .i64 (gl), .int .i64 step] 36) HJ.out)
      have HK1 : Hid (KpS n₀ n₁ B W1 (wr.alloc (.cells #[.int .i64 (fr + (k : Int)), .int .i64 (fr + (k : Int)), .int .i64 (gl), .int .i64 step] 36))) := Lib.hid (HK.out.trans (KpS.alloc hsw _))
      have HSZ : Hid (n₀ ≤ (wr.alloc (.cells #[.int .i64 (fr + (k : Int)), .int .i64 (fr + (k : Int)), .int .i64 (gl), .int .i64 step] 36)).heap.size) := Lib.hid (by rw [World.size_alloc]; omega)
      by_cases hz : gl = 0
      · have HC1 := Lib.hid (HCs.out k _ hlt hGk hz)
        rw [HU, show decide (0 < gl) = false by simp; omega] at HV
        dsimp only [aggS] at HV
        have HZ := Lib.hid hz
        clear HU hGk hz
        gi_wp2_with (gi_at_call 56; refine (callsIn_wide.2 (HV.out _)).mono ?_; rintro e w' ⟨rfl, v, rfl⟩)
        go_roundw
        case rel => exact ⟨k + 1, by omega, rfl, Lib.hid (by rw [HC1.out]; exact hA _ _ _ HJ1.out), Lib.hid (HK1.out.trans (KpS.alloc HSZ.out _))⟩
        case measure => simp [intOf]; omega
      · obtain ⟨hc1, hln⟩ := HCg.out k _ hlt hGk hz
        have HC1 := Lib.hid hc1
        rw [HU, show decide (0 < gl) = true by simp; omega] at HV
        have HY := Lib.hid (fun W (h : J (pre ++ C k) W) => hY (m - 1) (pre ++ C k) ⟨fr + (k : Int), fr + (k : Int), gl, step⟩ W h hln)
        dsimp only [aggS] at HV HY
        have HZ := Lib.hid hz
        clear HU hGk hz hc1 hln
        gi_wp2_with (gi_at_call 56; refine (callsIn_wide.2 (HV.out _)).mono ?_; rintro e w' ⟨rfl, v, rfl⟩; obtain ⟨fn, tmps, assign, body, hy, hR⟩ := HY.out _ (hA _ _ (.cells v 36) HJ1.out))
        refine hR.mono ?_
        rintro e W3 (⟨rfl, hJ3, hk3⟩ | ⟨rfl, hJx3⟩)
        · have HJ3 := Lib.hid hJ3
          have HK3 := Lib.hid hk3
          clear hJ3 hk3 hy hR
          gi_wp2
          go_roundw
          case rel => exact ⟨k + 1, by omega, rfl, Lib.hid (by rw [HC1.out, ← List.append_assoc]; exact HJ3.out), Lib.hid ((HK1.out.trans (KpS.alloc HSZ.out _)).trans HK3.out)⟩
          case measure => simp [intOf]; omega
        · have HJ3 := Lib.hid hJx3
          clear hJx3 hy hR
          gi_wp2
          refine bodyPost_ret (results_tmp rfl _ _ _) rfl ?_
          exact .inr ⟨rfl, C (k + 1), HCp.out (k + 1) (by omega), by rw [HC1.out, ← List.append_assoc]; exact HJ3.out⟩
    · obtain rfl : k = M := by omega
      gi_wp2
      refine bodyPost_ret (results_tmp rfl _ _ _) rfl ?_
      exact .inl ⟨rfl, HJ.out, hW1.trans HK.out⟩

set_option maxRecDepth 100000 in
set_option maxHeartbeats 3200000 in
theorem divide_many1 (m l n₀ n₁ B N : Nat) (J Jx : List Ch.Span → World → Prop) (hY : Yields n₀ n₁ B N l J Jx) (hA : ∀ pre W o, J pre W → J pre (W.alloc o)) (x : Ch.Span) (ho : Ch.okSpan x = true) (step : Int) (hst : x.st = 1) (hs : x.st ≠ step) (hs1 : step = 0 ∨ step = 1)
    (pre : List Ch.Span) (hN : pre.length + (Gp.cutTo step x (x.to - x.fr + 1).toNat).length ≤ N) (W : World) (hn : n₀ ≤ W.heap.size) (hn1 : n₁ ≤ W.heap.size) (hg : Good B W) (h0 : J pre W) :
    CallsIn Fence.wide m Try.prog 41 #[aggS x, .int .i64 step, .func (.yield l) #[] #[]] W (Divided n₀ n₁ B J Jx pre (Gp.cutTo step x (x.to - x.fr + 1).toNat) W) := by
  obtain ⟨a1, a2, a3, a4, a5, a6, a7, a8⟩ := (Ch.okSpan_iff x).1 ho
  have HO := Lib.hid ho
  have HS := Lib.hid hs
  obtain ⟨M, hM⟩ : ∃ M, (x.to - x.fr + 1).toNat = M := ⟨_, rfl⟩
  have hMi : x.to - x.fr + 1 = (M : Int) := by omega
  rw [hM] at hN ⊢
  obtain ⟨C, hC⟩ : ∃ C : Nat → List Ch.Span, C = Gp.cutTo step x := ⟨_, rfl⟩
  have HC0 : Hid (C 0 = []) := Lib.hid (by rw [hC]; rfl)
  have HCn : Hid (pre.length + (C M).length ≤ N) := Lib.hid (by rw [hC]; exact hN)
  have HCp : Hid (∀ k, k ≤ M → C k <+: C M) := Lib.hid (fun k h => by rw [hC]; exact cut_pre step x h)
  have HCg : Hid (∀ (k : Nat) (g : Int), k < M → g = x.gl + x.st * k → ¬ g = 0 → C (k + 1) = C k ++ [⟨x.fr + k, x.fr + k, g, step⟩] ∧ (pre ++ C k).length < N) := Lib.hid (fun k g h hg h1 => by
    have e : C (k + 1) = C k ++ [⟨x.fr + k, x.fr + k, g, step⟩] := by rw [hC, hg]; exact cut_grow (by omega) (by rw [← hg]; exact h1)
    refine ⟨e, ?_⟩
    have h2 := (HCp.out (k + 1) h).length_le
    rw [e, List.length_append] at h2
    simp only [List.length_cons, List.length_nil] at h2
    rw [List.length_append]
    have := HCn.out
    omega)
  have HCs : Hid (∀ (k : Nat) (g : Int), k < M → g = x.gl + x.st * k → g = 0 → C (k + 1) = C k) := Lib.hid (fun k g h hg h1 => by rw [hC]; exact cut_stay (by omega) (by rw [← hg]; exact h1))
  have HB : Hid (∀ k : Nat, k < M → 0 ≤ x.gl + x.st * k ∧ x.gl + x.st * k ≤ 65535) := Lib.hid (fun k h => by
    rcases (show x.st = 0 ∨ x.st = 1 by omega) with e | e
    · rw [e]; simp; omega
    · rw [e] at a8 ⊢; simp at a8 ⊢; omega)
  rw [← hC]
  clear hC ho hN hM
  obtain ⟨fr, tt, gl, st⟩ := x
  unfold aggS
  dsimp only at *
  subst hst
  have hq : ((1 : Int) == step) = false := by simpa using hs
  refine callsIn_of_wp Try.func41 rfl trivial ?_ rfl
  simp only [Try.ntmps41, List.size_toArray, List.length_cons, List.length_nil, Nat.reduceAdd, Nat.reduceSub, Array.replicate_succ, Array.replicate_zero, List.push_toArray, List.append_toArray, List.nil_append, List.cons_append]
  gi_wp2
  have hW1 : KpS n₀ n₁ B W (W.alloc (.cells #[.int .i64 fr, .int .i64 tt, .int .i64 gl, .int .i64 1] 36)) := KpS.alloc hn _
  have hg1 := hg.alloc (.cells #[.int .i64 fr, .int .i64 tt, .int .i64 gl, .int .i64 1] 36)
  have ho1 : ¬ Owned B (W.alloc (.cells #[.int .i64 fr, .int .i64 tt, .int .i64 gl, .int .i64 1] 36)) W.heap.size := hg.new _
  have hb1 : (W.alloc (.cells #[.int .i64 fr, .int .i64 tt, .int .i64 gl, .int .i64 1] 36)).heap[W.heap.size]? = some (.cells #[.int .i64 fr, .int .i64 tt, .int .i64 gl, .int .i64 1] 36) := new_block W _
  have hsz : n₀ ≤ (W.alloc (.cells #[.int .i64 fr, .int .i64 tt, .int .i64 gl, .int .i64 1] 36)).heap.size := by rw [World.size_alloc]; omega
  have hJ1 := hA _ _ (.cells #[.int .i64 fr, .int .i64 tt, .int .i64 gl, .int .i64 1] 36) h0
  obtain ⟨bx, hbx⟩ : ∃ bx, W.heap.size = bx := ⟨_, rfl⟩
  rw [hbx] at hn1 ho1 hb1 ⊢
  generalize (W.alloc (.cells #[.int .i64 fr, .int .i64 tt, .int .i64 gl, .int .i64 1] 36)) = W1 at *
  have HG := Lib.hid hg1
  have HO1 := Lib.hid ho1
  have HB1 := Lib.hid hb1
  have HJ1 := Lib.hid hJ1
  clear hg1 ho1 hb1 hJ1 hg h0
  gi_loopw [28] (fun i wr => ∃ k : Nat, k ≤ M ∧ i = .int .i64 (k : Int) ∧ Hid (J (pre ++ C k) wr) ∧ Hid (KpS n₀ n₁ B W1 wr))
    (fun i _ => (M - (intOf i).toNat))
  case atStart => exact ⟨0, Nat.zero_le _, rfl, Lib.hid (by rw [HC0.out, List.append_nil]; exact HJ1.out), Lib.hid (KpS.refl _ _ _ _)⟩
  case round =>
    obtain ⟨k, hk, rfl, HJ, HK⟩ := hrel
    have hbr := (HK.out.keep HG.out HB1.out rfl hn1 HO1.out).1
    have c0 := block_cell (i := 0) hbr rfl
    have c1 := block_cell (i := 1) hbr rfl
    have c2 := block_cell (i := 2) hbr rfl
    have c3 := block_cell (i := 3) hbr rfl
    by_cases hlt : k < M
    · have hg0 := HB.out k hlt
      have HL1 : Hid (M - (k + 1) < M - k) := Lib.hid (by omega)
      obtain ⟨b1, b2⟩ : fr + (k : Int) ≤ tt ∧ (k : Int) < M := ⟨by omega, by omega⟩
      have hsw : n₀ ≤ wr.heap.size := Nat.le_trans hsz HK.out.below.size
      have hgw := HK.out.good HG.out
      have hGk : gl + (k : Int) = gl + 1 * (k : Int) := by simp
      rw [← hGk] at hg0
      obtain ⟨g0, g1⟩ := hg0
      have HV := Lib.hid (fun w => gused_any ⟨fr + (k : Int), fr + (k : Int), gl + (k : Int), step⟩ w (by dsimp only; omega) (by dsimp only; omega) (by dsimp only; omega) (by dsimp only; omega) (by dsimp only; omega) (by dsimp only; omega) (by dsimp only; omega))
      have HU : Gp.used ⟨fr + (k : Int), fr + (k : Int), gl + (k : Int), step⟩ = decide (0 < gl + (k : Int)) := by
        unfold Gp.used
        rw [Bool.eq_iff_iff]
        simp
      have HJ1 := Lib.hid (hA _ _ (.cells #[.int .i64 (fr + (k : Int)), .int .i64 (fr + (k : Int)), .int .i64 (gl + (k : Int)), .int .i64 step] 36) HJ.out)
      have HK1 : Hid (KpS n₀ n₁ B W1 (wr.alloc (.cells #[.int .i64 (fr + (k : Int)), .int .i64 (fr + (k : Int)), .int .i64 (gl + (k : Int)), .int .i64 step] 36))) := Lib.hid (HK.out.trans (KpS.alloc hsw _))
      have HSZ : Hid (n₀ ≤ (wr.alloc (.cells #[.int .i64 (fr + (k : Int)), .int .i64 (fr + (k : Int)), .int .i64 (gl + (k : Int)), .int .i64 step] 36)).heap.size) := Lib.hid (by rw [World.size_alloc]; omega)
      by_cases hz : gl + (k : Int) = 0
      · have HC1 := Lib.hid (HCs.out k _ hlt hGk hz)
        rw [HU, show decide (0 < gl + (k : Int)) = false by simp; omega] at HV
        dsimp only [aggS] at HV
        have HZ := Lib.hid hz
        clear HU hGk hz
        gi_wp2_with (gi_at_call 56; refine (callsIn_wide.2 (HV.out _)).mono ?_; rintro e w' ⟨rfl, v, rfl⟩)
        go_roundw
        case rel => exact ⟨k + 1, by omega, rfl, Lib.hid (by rw [HC1.out]; exact hA _ _ _ HJ1.out), Lib.hid (HK1.out.trans (KpS.alloc HSZ.out _))⟩
        case measure => simp [intOf]; omega
      · obtain ⟨hc1, hln⟩ := HCg.out k _ hlt hGk hz
        have HC1 := Lib.hid hc1
        rw [HU, show decide (0 < gl + (k : Int)) = true by simp; omega] at HV
        have HY := Lib.hid (fun W (h : J (pre ++ C k) W) => hY (m - 1) (pre ++ C k) ⟨fr + (k : Int), fr + (k : Int), gl + (k : Int), step⟩ W h hln)
        dsimp only [aggS] at HV HY
        have HZ := Lib.hid hz
        clear HU hGk hz hc1 hln
        gi_wp2_with (gi_at_call 56; refine (callsIn_wide.2 (HV.out _)).mono ?_; rintro e w' ⟨rfl, v, rfl⟩; obtain ⟨fn, tmps, assign, body, hy, hR⟩ := HY.out _ (hA _ _ (.cells v 36) HJ1.out))
        refine hR.mono ?_
        rintro e W3 (⟨rfl, hJ3, hk3⟩ | ⟨rfl, hJx3⟩)
        · have HJ3 := Lib.hid hJ3
          have HK3 := Lib.hid hk3
          clear hJ3 hk3 hy hR
          gi_wp2
          go_roundw
          case rel => exact ⟨k + 1, by omega, rfl, Lib.hid (by rw [HC1.out, ← List.append_assoc]; exact HJ3.out), Lib.hid ((HK1.out.trans (KpS.alloc HSZ.out _)).trans HK3.out)⟩
          case measure => simp [intOf]; omega
        · have HJ3 := Lib.hid hJx3
          clear hJx3 hy hR
          gi_wp2
          refine bodyPost_ret (results_tmp rfl _ _ _) rfl ?_
          exact .inr ⟨rfl, C (k + 1), HCp.out (k + 1) (by omega), by rw [HC1.out, ← List.append_assoc]; exact HJ3.out⟩
    · obtain rfl : k = M := by omega
      gi_wp2
      refine bodyPost_ret (results_tmp rfl _ _ _) rfl ?_
      exact .inl ⟨rfl, HJ.out, hW1.trans HK.out⟩

/-- group.divide. -/
theorem divide_any (m l n₀ n₁ B N : Nat) (J Jx : List Ch.Span → World → Prop) (hY : Yields n₀ n₁ B N l J Jx) (hA : ∀ pre W o, J pre W → J pre (W.alloc o)) (x : Ch.Span) (ho : Ch.okSpan x = true) (step : Int) (hs1 : step = 0 ∨ step = 1)
    (pre : List Ch.Span) (hN : pre.length + (Gp.part step x).length ≤ N) (W : World) (hn : n₀ ≤ W.heap.size) (hn1 : n₁ ≤ W.heap.size) (hg : Good B W) (h0 : J pre W) :
    CallsIn Fence.wide m Try.prog 41 #[aggS x, .int .i64 step, .func (.yield l) #[] #[]] W (Divided n₀ n₁ B J Jx pre (Gp.part step x) W) := by
  by_cases hs : x.st = step
  · by_cases hu : Gp.used x = true
    · rw [Gp.part_same ho hs, if_pos hu] at hN ⊢
      exact divide_one m l n₀ n₁ B N J Jx hY hA x ho step hs hu pre (by rw [List.length_cons, List.length_nil] at hN; omega) W hn h0
    · rw [Gp.part_same ho hs, if_neg hu]
      exact divide_none m l n₀ n₁ B J Jx hA x ho step hs (by simpa using hu) pre W hn h0
  · rw [Gp.part_other ho hs] at hN ⊢
    obtain ⟨a1, a2, a3, a4, a5, a6, a7, a8⟩ := (Ch.okSpan_iff x).1 ho
    rcases (show x.st = 0 ∨ x.st = 1 by omega) with e | e
    · exact divide_many0 m l n₀ n₁ B N J Jx hY hA x ho step e hs hs1 pre hN W hn hn1 hg h0
    · exact divide_many1 m l n₀ n₁ B N J Jx hY hA x ho step e hs hs1 pre hN W hn hn1 hg h0
end Go.Proofs.Ytnlifmedkkboaaa
