/-
  The contract of cover.tabled: an iterator over the ranges of a table, three fields each. No conditions beyond those stated.
-/
import Derived.Test.YtjeahgdefdlabaaCoIs
import Derived.Test.YtjeahgdefdlabaaGkKeep
import Derived.Test.YtjeahgdefdlabaaGkTail
namespace Go.Proofs.Ytjeahgdefdlabaa
open Go.RowKit Go.Shelf
attribute [local go_sem] Oper.semAt_some wide_fn wide_depth

set_option maxHeartbeats 1000000 in
theorem tabled_make (m : Nat) (a : Option Addr) (len cap : Nat) (w : World) :
    CallsIn Fence.wide m Try.prog 54 #[.slice a len cap] w fun e w' => e = .returned (.func (.func 60) #[] #[.pointer (some ⟨w.heap.size, 0, none⟩)]) ∧ w' = w.alloc (.cells #[.slice a len cap] 37) := by
  refine callsIn_of_wp Try.func54 rfl trivial ?_ rfl
  simp only [Try.ntmps54, List.size_toArray, List.length_cons, List.length_nil, Nat.reduceAdd, Nat.reduceSub, Array.replicate_succ, Array.replicate_zero, List.push_toArray, List.append_toArray, List.nil_append, List.cons_append]
  gi_wp2
  go_ret
  exact ⟨rfl, rfl⟩

/-- What the loop's variables get of a range: how many are before, the first and the last. -/
def encR (x : Co.R3) : Array Value := #[.int .i64 x.1.2.2, .agg #[.int .i64 x.1.1, .int .i64 x.1.2.1]]
/-- What only makes new blocks keeps all. -/
theorem KpS.of_lo {n₀ n₁ B : Nat} {W W' : World} (h : Lo W W') (hn : n₀ ≤ W.heap.size) : KpS n₀ n₁ B W W' := by
  have hc : Good B W → ∀ b, Owned B W' b → Owned B W b := fun g b hb => by
    unfold Owned at *
    rwa [Below.cell h (p := ⟨B, 0, none⟩) g.lt] at hb
  exact ⟨h.mono hn, fun g => ⟨Nat.lt_of_lt_of_le g.lt h.size, fun b hb => Nat.lt_of_lt_of_le (g.own b (hc g b hb)) h.size⟩, fun g b hb => .inl (hc g b hb),
    fun _ b o hb _ _ _ => (h.block b (Array.getElem?_eq_some_iff.1 hb).1).trans hb⟩

set_option maxRecDepth 100000 in
set_option maxHeartbeats 3200000 in
theorem tabled_in (m l n₀ n₁ B : Nat) (fs : List Int) (hs : Co.Small fs) (n N : Nat) (hn : n ≤ 65535) (hN : N = 3 * n) (J Jx : List Co.R3 → World → Prop)
    (hY : ∀ (m : Nat) pre x W, J pre W → pre.length < n → YieldAt Fence.wide m Try.prog l (encR x) W fun e W' => (e = .returned (.bool true) ∧ J (pre ++ [x]) W' ∧ KpS n₀ n₁ B W W') ∨ (e = .returned (.bool false) ∧ Jx (pre ++ [x]) W'))
    (hA : ∀ pre A B, J pre A → A.grownBy B none → J pre B) (p : Option Addr) (cap B1 : Nat) (W : World) (hx : ∀ W', KpS n₀ n₁ B W W' → Row W' (.slice p N cap) fs) (h1 : Boxed W B1 37 (.slice p N cap))
    (hb1 : n₁ ≤ B1) (ho1 : ¬ Owned B W B1) (hg : Good B W) (hn0 : n₀ ≤ W.heap.size) (h0 : J [] W) :
    CallsIn Fence.wide m Try.prog 60 #[.func (.yield l) #[] #[], .pointer (some ⟨B1, 0, none⟩)] W fun e W' => (∃ v, e = .returned v) ∧
      ((∃ ys, ys = Co.els fs hs n ∧ J ys W') ∨ (∃ pre, (∃ k, k ≤ n ∧ pre = Co.els fs hs k) ∧ Jx pre W')) := by
  have HX := Lib.hid hx
  have H1 := Lib.hid (fun W' (h : KpS n₀ n₁ B W W') => h.keep hg h1 rfl hb1 ho1)
  have HNN := Lib.hid hN
  clear h1 ho1 hg hx hN
  refine callsIn_of_wp Try.func60 rfl trivial ?_ rfl
  simp only [Try.ntmps60, List.size_toArray, List.length_cons, List.length_nil, Nat.reduceAdd, Nat.reduceSub, Array.replicate_succ, Array.replicate_zero, List.push_toArray, List.append_toArray, List.nil_append, List.cons_append]
  gi_wp2
  gi_loopw [3] (fun i wr => ∃ (k q : Nat), k ≤ n ∧ i = .int .i64 (q : Int) ∧ Hid (q = 3 * k) ∧ Hid (J (Co.els fs hs k) wr) ∧ Hid (KpS n₀ n₁ B W wr))
    (fun i _ => (N + 3 - (intOf i).toNat))
  case atStart => exact ⟨0, 0, Nat.zero_le _, rfl, Lib.hid rfl, Lib.hid h0, Lib.hid (KpS.refl _ _ _ _)⟩
  case round =>
    obtain ⟨k, q, hk, rfl, HQ, HJ, HK⟩ := hrel
    have cB : wr.cell? ⟨B1, 0, none⟩ = some (.slice p N cap) := block_cell (H1.out _ HK.out).1 rfl
    by_cases hlt : k < n
    · have hq1 : q + 2 < N := by have := HQ.out; have := HNN.out; omega
      have hq2 : q ≤ 196605 := by have := HQ.out; omega
      have hrow := HX.out _ HK.out
      obtain ⟨b, off, rfl, d0⟩ := hrow.at_ (k := q) (by omega)
      obtain ⟨b', off', e1, d1⟩ := hrow.at_ (k := q + 1) (by omega)
      simp only [Option.some.injEq, Addr.mk.injEq, and_true] at e1
      obtain ⟨rfl, rfl⟩ := e1
      obtain ⟨b', off', e2, d2⟩ := hrow.at_ (k := q + 2) (by omega)
      simp only [Option.some.injEq, Addr.mk.injEq, and_true] at e2
      obtain ⟨rfl, rfl⟩ := e2
      have HU : Hid (Co.els fs hs (k + 1) = Co.els fs hs k ++ [Co.el fs hs k]) := Lib.hid (Co.els_succ fs hs k)
      have HY := Lib.hid (fun W (h : J (Co.els fs hs k) W) => hY (m - 1) (Co.els fs hs k) (Co.el fs hs k) W h (by rw [Co.els_len]; exact hlt))
      have hen : encR (Co.el fs hs k) = #[.int .i64 (fs.getD (q + 2) 0), .agg #[.int .i64 (fs.getD q 0), .int .i64 (fs.getD (q + 1) 0)]] := by rw [HQ.out]; rfl
      rw [hen] at HY
      clear hen
      generalize Co.el fs hs k = x at *
      generalize fs.getD q 0 = x0 at *
      generalize fs.getD (q + 1) 0 = x1 at *
      generalize fs.getD (q + 2) 0 = x2 at *
      clear hrow
      have hm2 : IntKind.i64.wrap ((q : Int) + 2) = (q : Int) + 2 := IntWalk.i64_in _ (by omega)
      have hm1 : IntKind.i64.wrap ((q : Int) + 1) = (q : Int) + 1 := IntWalk.i64_in _ (by omega)
      have hi0 : (0 : Int) ≤ (q : Int) := by omega
      have hi1 : (0 : Int) ≤ (q : Int) + 1 := by omega
      have hi2 : (0 : Int) ≤ (q : Int) + 2 := by omega
      have hj0 : (q : Int) < (N : Int) := by omega
      have hj1 : (q : Int) + 1 < (N : Int) := by omega
      have hj2 : (q : Int) + 2 < (N : Int) := by omega
      have ht1 : ((q : Int) + 1).toNat = q + 1 := by omega
      have ht2 : ((q : Int) + 2).toNat = q + 2 := by omega
      gi_wp2
      refine wpIn_region_tail 16 rfl (by kernel_rfl) (by kernel_rfl) ?_
      simp only [List.take_succ_cons, List.take_zero, List.drop_succ_cons, List.drop_zero]
      repeat (gi_big_quiet_step (fail))
      refine wpQuietIn_nil ?_
      rintro w' ⟨nq, rfl⟩
      have hlo : Lo wr (wr.drewN nq) := (Lo.refl wr).drewN nq
      obtain ⟨fn, tmps, assign, body, hy, hR⟩ := HY.out (wr.drewN nq) (hA _ _ _ HJ.out ⟨hlo.os, hlo.tape, hlo.output, hlo.size, fun j hj _ => hlo.block j hj⟩)
      have HX2 : Hid (KpS n₀ n₁ B W (wr.drewN nq)) := Lib.hid (HK.out.trans (KpS.of_lo hlo (Nat.le_trans hn0 HK.out.below.size)))
      clear d0 d1 d2 cB hlo
      gi_wp2
      refine hR.mono ?_
      rintro e W3 (⟨rfl, hJ3, hk3⟩ | ⟨rfl, hJx3⟩)
      · have HJ3 := Lib.hid hJ3
        have HK3 := Lib.hid hk3
        clear hJ3 hk3 hy hR
        gi_wp2
        go_roundw
        case rel => exact ⟨k + 1, q + 3, by omega, by go_num, Lib.hid (by have := HQ.out; omega), Lib.hid (by rw [HU.out]; exact HJ3.out), Lib.hid (HX2.out.trans HK3.out)⟩
        case measure => simp [intOf]; omega
      · have HJ3 := Lib.hid hJx3
        clear hJx3 hy hR
        gi_wp2
        refine bodyPost_ret (results_none rfl _ _ _) rfl ?_
        exact ⟨⟨_, rfl⟩, .inr ⟨_, ⟨k + 1, by omega, HU.out.symm⟩, HJ3.out⟩⟩
    · obtain rfl : k = n := by omega
      have hqN : ¬ (q : Int) < (N : Int) := by have := HQ.out; have := HNN.out; omega
      gi_wp2
      go_end0
      exact ⟨⟨_, rfl⟩, .inl HJ.out⟩

/-- The iterator's contract, as a loop takes it. -/
theorem tabled_stops (n₀ n₁ B : Nat) (fs : List Int) (hs : Co.Small fs) (n N : Nat) (hn : n ≤ 65535) (hN : N = 3 * n) (p : Option Addr) (cap B1 : Nat) (w : World) (hn0 : n₀ ≤ w.heap.size) (hB : Boxed w B 37 (.slice none 0 0))
    (hx : ∀ W', Below n₀ w W' → Row W' (.slice p N cap) fs) (h1 : Boxed w B1 37 (.slice p N cap)) (hb1 : n₁ ≤ B1) (m : Nat) :
    SeqStopsK Fence.wide m Try.prog 60 #[.pointer (some ⟨B1, 0, none⟩)] encR (KpS n₀ n₁ B) (fun ys => ys = Co.els fs hs n) (fun pre => ∃ k, k ≤ n ∧ pre = Co.els fs hs k) n w := by
  intro l J Jx W hW hJ hJx hY h0
  have hno : ∀ b, ¬ Owned B W b := fun b hb => by
    obtain ⟨v, hv, hb⟩ := hb
    rw [hW.cell (p := ⟨B, 0, none⟩) hB.lt, hB.cell] at hv
    cases hv
    simp [Value.ownBlock] at hb
  have hk : ∀ {b : Nat} {o : Obj}, w.heap[b]? = some o → W.heap[b]? = some o := fun {b o} h => (hW.block b (Array.getElem?_eq_some_iff.1 h).1).trans h
  exact tabled_in m l n₀ n₁ B fs hs n N hn hN J Jx (fun m' pre x W1 h hl => YieldAt.anyDepth wide_depth m' (hY pre x W1 h hl)) (fun pre A B h hg => hJ pre A B none h hg (fun r e => by cases e)) p cap B1 W
    (fun W' hk' => hx W' ((hW.mono hn0).trans hk'.below)) (hk h1) hb1 (hno _) ⟨Nat.lt_of_lt_of_le hB.lt hW.size, fun b hb => absurd hb (hno b)⟩ (Nat.le_trans hn0 hW.size) h0
end Go.Proofs.Ytjeahgdefdlabaa
