/-
  Facts that the walks rest on: GkTail, CoTab, CoList. No conditions beyond those stated.
-/
import Derived.Test.YtcnmfgdeanbhoaaGround
import Derived.StillTail
import Derived.TacticsIn
import Derived.Sort.QuietIn
import Derived.Test.YtcnmfgdeanbhoaaPart08
/-
  A region that draws its order, inside a fence, whose head only reads and whose tail goes in the text's order: one walk serves every order. Nothing of the program. No conditions beyond those stated.
-/
namespace Go.Proofs.Ytcnmfgdeanbhoaa

section
variable {F : Fence} {n : Nat} {P : Program} {ops : Array Oper} {md : Region.Mode} {C : World → Prop}

/-- The head, whatever order is picked, up to place b. -/
def wpHeadIn (F : Fence) (n : Nat) (P : Program) (md : Region.Mode) (ops : Array Oper) (C : World → Prop) (b : Nat) (L : Array Bool → Act → Prop) : Nat → Array Bool → Act → Prop
  | 0, listed, a => L listed a
  | f + 1, listed, a => Region.ready md ops listed ≠ [] ∧ ∀ i ∈ Region.ready md ops listed, i < b ∧ qOpIn F n P ops C i (wpHeadIn F n P md ops C b L f (listed.setIfInBounds i true)) a

theorem wpAnyIn_of_headIn {b g : Nat} {L : Array Bool → Act → Prop} {Q' : Exit → Act → World → Prop} (hro : F.round = none) (hL : ∀ listed a w, C w → L listed a → wpAnyIn F n P md ops Q' g listed a w) :
    ∀ (f : Nat) (listed : Array Bool) (a : Act) (w : World), C w → wpHeadIn F n P md ops C b L f listed a → wpAnyIn F n P md ops Q' (f + g) listed a w
  | 0, listed, a, w, hw, h => by rw [Nat.zero_add]; exact hL _ _ _ hw h
  | f + 1, listed, a, w, hw, h => by
    rw [show f + 1 + g = (f + g) + 1 by omega]
    exact ⟨fun h0 => absurd h0 h.1, fun i hi => wpOpIn_of_qOpIn hro hw (fun a' w' hw' h' => wpAnyIn_of_headIn hro hL f _ a' w' hw' h') (h.2 i hi).2⟩

/-- One that may come up is in the head as long as one of the head has not come up. -/
theorem ready_head {b i : Nat} {listed : Array Bool} (hs : Region.sinkB md ops b = true) (hc : Region.chainB md ops b = true) (hn : b < ops.size) (inv : HeadInv md ops b listed) (hin : i < b) (hr : i ∈ Region.ready md ops listed) {j : Nat} (hj : j ∈ Region.ready md ops listed) : j < b :=
  Nat.lt_of_not_le fun h => tail_waits hs hc hn inv _ i rfl hin (mem_ready.1 hr).1 j h hj
/-- One that may come up waits for none that has not. -/
theorem ready_waits {i j : Nat} {oj : Oper} {listed : Array Bool} (hj : ops[j]? = some oj) (hr : j ∈ Region.ready md ops listed) (hun : listed.getD i true = false) : ∀ e ∈ oj.after, Region.binds md e = true → e.on ≠ i := by
  obtain ⟨_, o, ho, hall⟩ := mem_ready.1 hr
  obtain rfl : o = oj := Option.some.inj (ho.symm.trans hj)
  rintro e he hb rfl
  have h1 := hall e he hb
  rw [getD_both hun] at h1
  cases h1
/-- The one at hand is taken first, where all others may be put behind it. -/
theorem wpHeadIn_one {b i : Nat} {oi : Oper} {v : Value} {L : Array Bool → Act → Prop} {f : Nat} {listed : Array Bool} {a : Act} (hi : ops[i]? = some oi) (hr : i ∈ Region.ready md ops listed) (hlt : ∀ j ∈ Region.ready md ops listed, j < b)
    (hy : YieldsQuiet F n P ops C oi v a) (H : wpHeadIn F n P md ops C b L f (listed.setIfInBounds i true) (a.put oi.dst v))
    (others : ∀ j ∈ Region.ready md ops listed, j ≠ i → qOpIn F n P ops C j (wpHeadIn F n P md ops C b L f (listed.setIfInBounds j true)) a) : wpHeadIn F n P md ops C b L (f + 1) listed a := by
  refine ⟨List.ne_nil_of_mem hr, fun j hj => ⟨hlt j hj, ?_⟩⟩
  by_cases e : j = i
  · rw [e]; exact hy.qOpIn hi H
  · exact others j hj e

theorem wpHeadIn_first {b i : Nat} {oi : Oper} {v : Value} {L : Array Bool → Act → Prop} (hi : ops[i]? = some oi) (hsel : ∀ (j : Nat) (o : Oper) cs b, ops[j]? = some o → o.op ≠ .select cs b)
    (hs : Region.sinkB md ops b = true) (hc : Region.chainB md ops b = true) (hn : b < ops.size) (hin : i < b) (hdone : ∀ listed a, L listed a → ∀ j ∈ Region.ready md ops listed, b ≤ j) :
    ∀ (f : Nat) (listed : Array Bool) (a : Act), HeadInv md ops b listed →
      (∀ j oj, ops[j]? = some oj → j ≠ i → listed.getD j true = false → (∀ e ∈ oj.after, Region.binds md e = true → e.on ≠ i) → oi.apart ops oj = true) →
      i ∈ Region.ready md ops listed → YieldsQuiet F n P ops C oi v a →
      wpHeadIn F n P md ops C b L f (listed.setIfInBounds i true) (a.put oi.dst v) → wpHeadIn F n P md ops C b L (f + 1) listed a
  | 0, listed, a, inv, _, hr, hy, H => by
    have hlt : ∀ j ∈ Region.ready md ops listed, j < b := fun j hj => ready_head hs hc hn inv hin hr hj
    exact wpHeadIn_one hi hr hlt hy H fun j hj e => absurd (hdone _ _ H j (ready_mono hj e)) (Nat.not_le.2 (hlt j hj))
  | f + 1, listed, a, inv, hfree, hr, hy, H => by
    have hlt : ∀ j ∈ Region.ready md ops listed, j < b := fun j hj => ready_head hs hc hn inv hin hr hj
    refine wpHeadIn_one hi hr hlt hy H fun j hj e => ?_
    obtain ⟨hjun, oj, hoj, _⟩ := mem_ready.1 hj
    have hap := hfree j oj hoj e hjun (ready_waits hoj hj (mem_ready.1 hr).1)
    refine qOpIn_mono (fun a' h3 => wpHeadIn_first hi hsel hs hc hn hin hdone f (listed.setIfInBounds j true) a' (inv.set hj (hlt j hj)) ?_ (ready_mono hr (Ne.symm e)) h3.1 ?_)
      (qOpIn_put hoj hap (fun cs b => hsel i oi cs b hi) (fun cs b => hsel j oj cs b hoj) hy (H.2 j (ready_mono hj e)).2)
    · intro k ok hk hki hun hno
      refine hfree k ok hk hki ?_ hno
      by_cases hjk : j = k
      · rw [← hjk]; exact hjun
      · rwa [getD_set_ne true hjk] at hun
    · rw [Array.setIfInBounds_comm _ _ e]
      exact h3.2

theorem wpAnyIn_of_seqIn {Q' : Exit → Act → World → Prop} : ∀ (l : List Oper) (k : Nat) (listed : Array Bool) (a : Act) (w : World), (∀ j, l[j]? = ops[k + j]?) →
    Region.seqB md ops l.length k listed = true → wpListIn F n P ops Q' l a w → wpAnyIn F n P md ops Q' l.length listed a w
  | [], _, _, _, _, _, hB, h => ⟨by simpa [Region.seqB] using hB, h⟩
  | o :: l, k, listed, a, w, hl, hB, h => by
    have h0 : ops[k]? = some o := by simpa using (hl 0).symm
    simp only [List.length_cons, Region.seqB, Bool.and_eq_true, decide_eq_true_eq] at hB
    refine ⟨fun h1 => (by rw [hB.1] at h1; cases h1), fun i hi => ?_⟩
    rw [hB.1] at hi
    have hik : i = k := by simpa using hi
    subst hik
    have hw : wpOpIn F n P ops Q' i (wpListIn F n P ops Q' l) a w := by unfold wpOpIn; simp only [h0]; exact h
    exact wpOpIn_mono (fun a' w' h' => wpAnyIn_of_seqIn l (i + 1) _ a' w' (fun j => by have := hl (j + 1); simpa [Nat.add_assoc, Nat.add_comm 1 j] using this) hB.2 h') hw

theorem wpHeadIn_lex {b g : Nat} {Lq : Act → Prop} (hsel : Region.noSelect ops = true) (hs : Region.sinkB md ops b = true) (hc : Region.chainB md ops b = true) (hn : b < ops.size) :
    ∀ (l : List Oper) (k : Nat) (listed : Array Bool) (a : Act), (∀ j, j < l.length → l[j]? = ops[k + j]?) → k + l.length = b → HeadInv md ops b listed →
    Region.lexHead md ops g l.length k listed = true → wpQuietIn F n P ops C Lq l a →
    wpHeadIn F n P md ops C b (fun listed' a' => Region.seqB md ops g b listed' = true ∧ Lq a') l.length listed a
  | [], k, listed, a, _, hk, _, hB, h => by
    have : k = b := by simpa using hk
    subst this
    exact ⟨by simpa [Region.lexHead] using hB, h⟩
  | o :: l, k, listed, a, hl, hk, inv, hB, h => by
    have h0 : ops[k]? = some o := by simpa using (hl 0 (by simp)).symm
    simp only [List.length_cons, Region.lexHead, Bool.and_eq_true] at hB
    obtain ⟨⟨hr, hf⟩, hB'⟩ := hB
    have hkn : k < b := by simp only [List.length_cons] at hk; omega
    have hr' : k ∈ Region.ready md ops listed := by simpa using hr
    have hst : qOpIn F n P ops C k (wpQuietIn F n P ops C Lq l) a := by unfold qOpIn; simp only [h0]; exact h
    obtain ⟨v, hy, hK⟩ := yieldsQuiet_of_qOpIn h0 hst
    exact wpHeadIn_first h0 (Region.noSelect_spec hsel) hs hc hn hkn (fun listed' a' hL => seqB_ready hL.1) l.length listed a inv (Region.free_spec h0 hf) hr' hy
      (wpHeadIn_lex hsel hs hc hn l (k + 1) _ _ (fun j hj => by have := hl (j + 1) (by simp; omega); simpa [Nat.add_assoc, Nat.add_comm 1 j] using this) (by simp only [List.length_cons] at hk; omega) (inv.set hr' hkn) hB' hK)

/-- One walk in the text's order serves every order: the head only reads, the tail is a list. -/
theorem wpIn_region_tail {id : Nat} {Q : Exit → Act → World → Prop} {a : Act} {w : World} {l : List Oper} (b : Nat) (hro : F.round = none) (hm : P.follows .mixedOrders = true) (hB : Region.lexTailB .any l.toArray b = true)
    (h : wpQuietIn F n P l.toArray (fun w' => ∃ k, w' = w.drewN k) (fun a' => ∀ w', (∃ k, w' = w.drewN k) → wpListIn F n P l.toArray Q (l.drop b) a' w') (l.take b) a) : (Code.region id l.toArray true).wpIn F n P Q a w := by
  simp only [Region.lexTailB, Bool.and_eq_true, decide_eq_true_eq] at hB
  obtain ⟨⟨⟨⟨hsel, hn⟩, hs⟩, hc⟩, hlex⟩ := hB
  have hn' : b < l.length := by simpa using hn
  have htl : (l.take b).length = b := by simp; omega
  have hdl : (l.drop b).length = l.toArray.size - b := by simp
  have inv0 : HeadInv .any l.toArray b (Array.replicate l.toArray.size false) :=
    ⟨by simp, fun j oj _ hl => (by rw [getD_replicate_false] at hl; cases hl), fun t _ ht => getD_in (by simpa using ht) (getD_replicate_false _ _)⟩
  have H := wpHeadIn_lex (md := .any) (g := l.toArray.size - b) hsel hs hc hn (l.take b) 0 _ a (fun j hj => by
    have hj' : j < b := by rw [htl] at hj; exact hj
    simp [hj']) (by simpa using htl) inv0 (by rw [htl]; exact hlex) h
  refine wpIn_region_any hm ?_
  have := wpAnyIn_of_headIn (Q' := Q) (g := l.toArray.size - b) (w := { w with drawn := w.drawn + 1 }) hro (fun listed a' w' hw' hL => by
    have := wpAnyIn_of_seqIn (F := F) (n := n) (P := P) (md := .any) (Q' := Q) (l.drop b) b listed a' w' (fun j => by simp [List.getElem?_drop]) (by rw [hdl]; exact hL.1) (hL.2 w' hw')
    rwa [hdl] at this) _ _ _ ⟨1, rfl⟩ H
  rw [htl, show b + (l.toArray.size - b) = l.toArray.size by omega] at this
  exact this
end
end Go.Proofs.Ytcnmfgdeanbhoaa
/-
  The contract of cover.tabled: an iterator over the ranges of a table, three fields each. No conditions beyond those stated.
-/
namespace Go.Proofs.Ytcnmfgdeanbhoaa
open Go.RowKit Go.Shelf
attribute [local go_sem] Oper.semAt_some wide_fn wide_depth

set_option maxHeartbeats 1000000 in
theorem tabled_make (m : Nat) (a : Option Addr) (len cap : Nat) (w : World) :
    CallsIn Fence.wide m Try.prog 77 #[.slice a len cap] w fun e w' => e = .returned (.func (.func 84) #[] #[.pointer (some ⟨w.heap.size, 0, none⟩)]) ∧ w' = w.alloc (.cells #[.slice a len cap] 33) := by
  refine callsIn_of_wp Try.func77 rfl trivial ?_ rfl
  simp only [Try.ntmps77, List.size_toArray, List.length_cons, List.length_nil, Nat.reduceAdd, Nat.reduceSub, Array.replicate_succ, Array.replicate_zero, List.push_toArray, List.append_toArray, List.nil_append, List.cons_append]
  gi_wp2
  go_ret
  exact ⟨rfl, rfl⟩

/-- What the loop's variables get of a range: how many are before, the first and the last. -/
def encR (x : Co.R3) : Array Value := #[.int .i64 x.1.2.2, .agg #[.int .i64 x.1.1, .int .i64 x.1.2.1]]
/-- What only makes new blocks keeps all. -/
theorem KpS.of_lo {n₀ n₁ B : Nat} {W W' : World} (h : Lo W W') (hn : n₀ ≤ W.heap.size) : KpS n₀ n₁ B W W' := by
  have hc : Good B W → ∀ b, Owned B W' b → Owned B W b := fun g b hb => by
    unfold Owned at *
    rwa [Below.cell h (p := ⟨B, 0, none⟩) g.lt] at hb
  exact ⟨h.mono hn, fun g => ⟨Nat.lt_of_lt_of_le g.lt h.size, fun b hb => Nat.lt_of_lt_of_le (g.own b (hc g b hb)) h.size⟩, fun g b hb => .inl (hc g b hb),
    fun _ b o hb _ _ _ => (h.block b (Array.getElem?_eq_some_iff.1 hb).1).trans hb⟩

set_option maxRecDepth 100000 in
set_option maxHeartbeats 3200000 in
theorem tabled_in (m l n₀ n₁ B : Nat) (fs : List Int) (hs : Co.Small fs) (n N : Nat) (hn : n ≤ 65535) (hN : N = 3 * n) (J Jx : List Co.R3 → World → Prop)
    (hY : ∀ (m : Nat) pre x W, J pre W → pre.length < n → YieldAt Fence.wide m Try.prog l (encR x) W fun e W' => (e = .returned (.bool true) ∧ J (pre ++ [x]) W' ∧ KpS n₀ n₁ B W W') ∨ (e = .returned (.bool false) ∧ Jx (pre ++ [x]) W'))
    (hA : ∀ pre A B, J pre A → A.grownBy B none → J pre B) (p : Option Addr) (cap B1 : Nat) (W : World) (hx : ∀ W', KpS n₀ n₁ B W W' → Row W' (.slice p N cap) fs) (h1 : Boxed W B1 33 (.slice p N cap))
    (hb1 : n₁ ≤ B1) (ho1 : ¬ Owned B W B1) (hg : Good B W) (hn0 : n₀ ≤ W.heap.size) (h0 : J [] W) :
    CallsIn Fence.wide m Try.prog 84 #[.func (.yield l) #[] #[], .pointer (some ⟨B1, 0, none⟩)] W fun e W' => (∃ v, e = .returned v) ∧
      ((∃ ys, ys = Co.els fs hs n ∧ J ys W') ∨ (∃ pre, (∃ k, k ≤ n ∧ pre = Co.els fs hs k) ∧ Jx pre W')) := by
  have HX := Lib.hid hx
  have H1 := Lib.hid (fun W' (h : KpS n₀ n₁ B W W') => h.keep hg h1 rfl hb1 ho1)
  have HNN := Lib.hid hN
  clear h1 ho1 hg hx hN
  refine callsIn_of_wp Try.func84 rfl trivial ?_ rfl
  simp only [Try.ntmps84, List.size_toArray, List.length_cons, List.length_nil, Nat.reduceAdd, Nat.reduceSub, Array.replicate_succ, Array.replicate_zero, List.push_toArray, List.append_toArray, List.nil_append, List.cons_append]
  gi_wp2
  gi_loopw [3] (fun i wr => ∃ (k q : Nat), k ≤ n ∧ i = .int .i64 (q : Int) ∧ Hid (q = 3 * k) ∧ Hid (J (Co.els fs hs k) wr) ∧ Hid (KpS n₀ n₁ B W wr))
    (fun i _ => (N + 3 - (intOf i).toNat))
  case atStart => exact ⟨0, 0, Nat.zero_le _, rfl, Lib.hid rfl, Lib.hid h0, Lib.hid (KpS.refl _ _ _ _)⟩
  case round =>
    obtain ⟨k, q, hk, rfl, HQ, HJ, HK⟩ := hrel
    have cB : wr.cell? ⟨B1, 0, none⟩ = some (.slice p N cap) := block_cell (H1.out _ HK.out).1 rfl
    by_cases hlt : k < n
    · have hq1 : q + 2 < N := by have := HQ.out; have := HNN.out; omega
      have hq2 : q ≤ 196605 := by have := HQ.out; omega
      have hrow := HX.out _ HK.out
      obtain ⟨b, off, rfl, d0⟩ := hrow.at_ (k := q) (by omega)
      obtain ⟨b', off', e1, d1⟩ := hrow.at_ (k := q + 1) (by omega)
      simp only [Option.some.injEq, Addr.mk.injEq, and_true] at e1
      obtain ⟨rfl, rfl⟩ := e1
      obtain ⟨b', off', e2, d2⟩ := hrow.at_ (k := q + 2) (by omega)
      simp only [Option.some.injEq, Addr.mk.injEq, and_true] at e2
      obtain ⟨rfl, rfl⟩ := e2
      have HU : Hid (Co.els fs hs (k + 1) = Co.els fs hs k ++ [Co.el fs hs k]) := Lib.hid (Co.els_succ fs hs k)
      have HY := Lib.hid (fun W (h : J (Co.els fs hs k) W) => hY (m - 1) (Co.els fs hs k) (Co.el fs hs k) W h (by rw [Co.els_len]; exact hlt))
      have hen : encR (Co.el fs hs k) = #[.int .i64 (fs.getD (q + 2) 0), .agg #[.int .i64 (fs.getD q 0), .int .i64 (fs.getD (q + 1) 0)]] := by rw [HQ.out]; rfl
      rw [hen] at HY
      clear hen
      generalize Co.el fs hs k = x at *
      generalize fs.getD q 0 = x0 at *
      generalize fs.getD (q + 1) 0 = x1 at *
      generalize fs.getD (q + 2) 0 = x2 at *
      clear hrow
      have hm2 : IntKind.i64.wrap ((q : Int) + 2) = (q : Int) + 2 := IntWalk.i64_in _ (by omega)
      have hm1 : IntKind.i64.wrap ((q : Int) + 1) = (q : Int) + 1 := IntWalk.i64_in _ (by omega)
      have hi0 : (0 : Int) ≤ (q : Int) := by omega
      have hi1 : (0 : Int) ≤ (q : Int) + 1 := by omega
      have hi2 : (0 : Int) ≤ (q : Int) + 2 := by omega
      have hj0 : (q : Int) < (N : Int) := by omega
      have hj1 : (q : Int) + 1 < (N : Int) := by omega
      have hj2 : (q : Int) + 2 < (N : Int) := by omega
      have ht1 : ((q : Int) + 1).toNat = q + 1 := by omega
      have ht2 : ((q : Int) + 2).toNat = q + 2 := by omega
      gi_wp2
      refine wpIn_region_tail 16 rfl (by kernel_rfl) (by kernel_rfl) ?_
      simp only [List.take_succ_cons, List.take_zero, List.drop_succ_cons, List.drop_zero]
      repeat (gi_big_quiet_step (fail))
      refine wpQuietIn_nil ?_
      rintro w' ⟨nq, rfl⟩
      have hlo : Lo wr (wr.drewN nq) := (Lo.refl wr).drewN nq
      obtain ⟨fn, tmps, assign, body, hy, hR⟩ := HY.out (wr.drewN nq) (hA _ _ _ HJ.out ⟨hlo.os, hlo.tape, hlo.output, hlo.size, fun j hj _ => hlo.block j hj⟩)
      have HX2 : Hid (KpS n₀ n₁ B W (wr.drewN nq)) := Lib.hid (HK.out.trans (KpS.of_lo hlo (Nat.le_trans hn0 HK.out.below.size)))
      clear d0 d1 d2 cB hlo
      gi_wp2
      refine hR.mono ?_
      rintro e W3 (⟨rfl, hJ3, hk3⟩ | ⟨rfl, hJx3⟩)
      · have HJ3 := Lib.hid hJ3
        have HK3 := Lib.hid hk3
        clear hJ3 hk3 hy hR
        gi_wp2
        go_roundw
        case rel => exact ⟨k + 1, q + 3, by omega, by go_num, Lib.hid (by have := HQ.out; omega), Lib.hid (by rw [HU.out]; exact HJ3.out), Lib.hid (HX2.out.trans HK3.out)⟩
        case measure => simp [intOf]; omega
      · have HJ3 := Lib.hid hJx3
        clear hJx3 hy hR
        gi_wp2
        refine bodyPost_ret (results_none rfl _ _ _) rfl ?_
        exact ⟨⟨_, rfl⟩, .inr ⟨_, ⟨k + 1, by omega, HU.out.symm⟩, HJ3.out⟩⟩
    · obtain rfl : k = n := by omega
      have hqN : ¬ (q : Int) < (N : Int) := by have := HQ.out; have := HNN.out; omega
      gi_wp2
      go_end0
      exact ⟨⟨_, rfl⟩, .inl HJ.out⟩

/-- The iterator's contract, as a loop takes it. -/
theorem tabled_stops (n₀ n₁ B : Nat) (fs : List Int) (hs : Co.Small fs) (n N : Nat) (hn : n ≤ 65535) (hN : N = 3 * n) (p : Option Addr) (cap B1 : Nat) (w : World) (hn0 : n₀ ≤ w.heap.size) (hB : Boxed w B 33 (.slice none 0 0))
    (hx : ∀ W', Below n₀ w W' → Row W' (.slice p N cap) fs) (h1 : Boxed w B1 33 (.slice p N cap)) (hb1 : n₁ ≤ B1) (m : Nat) :
    SeqStopsK Fence.wide m Try.prog 84 #[.pointer (some ⟨B1, 0, none⟩)] encR (KpS n₀ n₁ B) (fun ys => ys = Co.els fs hs n) (fun pre => ∃ k, k ≤ n ∧ pre = Co.els fs hs k) n w := by
  intro l J Jx W hW hJ hJx hY h0
  have hno : ∀ b, ¬ Owned B W b := fun b hb => by
    obtain ⟨v, hv, hb⟩ := hb
    rw [hW.cell (p := ⟨B, 0, none⟩) hB.lt, hB.cell] at hv
    cases hv
    simp [Value.ownBlock] at hb
  have hk : ∀ {b : Nat} {o : Obj}, w.heap[b]? = some o → W.heap[b]? = some o := fun {b o} h => (hW.block b (Array.getElem?_eq_some_iff.1 h).1).trans h
  exact tabled_in m l n₀ n₁ B fs hs n N hn hN J Jx (fun m' pre x W1 h hl => YieldAt.anyDepth wide_depth m' (hY pre x W1 h hl)) (fun pre A B h hg => hJ pre A B none h hg (fun r e => by cases e)) p cap B1 W
    (fun W' hk' => hx W' ((hW.mono hn0).trans hk'.below)) (hk h1) hb1 (hno _) ⟨Nat.lt_of_lt_of_le hB.lt hW.size, fun b hb => absurd hb (hno b)⟩ (Nat.le_trans hn0 hW.size) h0
end Go.Proofs.Ytcnmfgdeanbhoaa
/-
  The contract of cover.listed: the glyphs of a table's ranges, one by one. No conditions beyond those stated.
-/
namespace Go.Proofs.Ytcnmfgdeanbhoaa
open Go.RowKit Go.Shelf
attribute [local go_sem] Oper.semAt_some wide_fn wide_depth

/-- Cells that are laid anew. -/
theorem cells_new (w : World) (cs : List Value) (ty : Nat) : ∀ j u, cs[j]? = some u → (w.alloc (.cells cs.toArray ty)).cell? ((⟨w.heap.size, 0, none⟩ : Addr).add j) = some u := by
  intro j u hj
  have h : (w.alloc (.cells cs.toArray ty)).cell? ⟨w.heap.size, j, none⟩ = some u := block_cell (i := j) (new_block w _) (by rw [List.getElem?_toArray]; exact hj)
  unfold Addr.add
  split
  · rename_i e; subst e; exact h
  · simpa using h
/-- A range's box. -/
def RunAt (W : World) (B : Nat) (x : Co.R3) : Prop := W.heap[B]? = some (.cells #[.int .i64 x.1.1, .int .i64 x.1.2.1] 103 (0, 0))
theorem run_own (B : Nat) (x : Co.R3) {X Y : World} {row : Option Nat} (h : RunAt X B x) (hg : X.grownBy Y row) (hr : ∀ r, row = some r → ∃ o : Obj, X.heap[r]? = some o ∧ o.isCells = false) : RunAt Y B x := by
  refine (hg.block B (Array.getElem?_eq_some_iff.1 h).1 (fun e => ?_)).trans h
  obtain ⟨o, ho, hf⟩ := hr B e.symm
  rw [show X.heap[B]? = _ from h] at ho
  cases ho
  simp [Obj.isCells] at hf
def ints (l : List Int) : List Value := l.map (Value.int .i64)
theorem ints_append (a b : List Int) : ints (a ++ b) = ints a ++ ints b := List.map_append
theorem own_ints {w : World} {base : Nat} {v : Value} {l : List Int} (h : w.ownsRow base 3 1 v l.length (ints l)) : ∃ p c, v = .slice p l.length c := Own.form (w := w) (base := base) h

theorem row_ne {w : World} {base e size : Nat} {v : Value} {k : Nat} {xs : List Value} (h : w.ownsRow base e size v k xs) {T ty2 : Nat} {cs : Array Value} (hT : w.heap[T]? = some (.cells cs ty2 (0, 0))) (hne : ty2 ≠ e) : v.ownBlock ≠ some T := by
  rcases h.2 with ⟨rfl, _⟩ | ⟨g, cap, cur, rfl, _, hgb, _⟩
  · simp [Value.ownBlock]
  · intro e'
    obtain rfl : g = T := by simpa [Value.ownBlock] using e'
    rw [hgb] at hT
    simp only [Option.some.injEq, Obj.cells.injEq] at hT
    exact hne hT.2.1.symm
theorem one_int (z : Int) : ∀ u ∈ [Value.int .i64 z], u.oneCell' = true := by
  intro u hu
  simp only [List.mem_singleton] at hu
  subst hu; rfl
theorem ints_push (l : List Int) (z : Int) : ints l ++ [Value.int .i64 z] = ints (l ++ [z]) := (ints_append l [z]).symm
/-- The box holds a slice of the call's own: nothing else is owned. -/
theorem owned_eq {B t : Nat} {W : World} {v : Value} (h : Boxed W B t v) {b : Nat} (hb : Owned B W b) : v.ownBlock = some b := by
  obtain ⟨u, hu, hb⟩ := hb
  rw [h.cell] at hu
  cases hu
  exact hb
theorem good_of {B t base e size k : Nat} {W : World} {v : Value} {xs : List Value} (h : Boxed W B t v) (hr : W.ownsRow base e size v k xs) : Good B W :=
  ⟨h.lt, fun b hb => (hr.lt b (owned_eq h hb)).2⟩

/-- Glyphs and whether they are right, told. -/
def GotList (a : List Int × Bool) (w : World) (e : Ending) (w' : World) : Prop := ∃ p c, e = .returned (.tuple #[.slice p a.1.length c, .bool a.2]) ∧ Row w' (.slice p a.1.length c) a.1 ∧ Lo w w'

set_option maxRecDepth 100000 in
set_option maxHeartbeats 3200000 in
/-- cover.listed. -/
theorem listed_any (fs : List Int) (hs : Co.Small fs) (n : Nat) (hn : n ≤ 65535) (v : Value) (w : World) (h : Row w v fs) (hl : fs.length = 3 * n) :
    Calls Try.prog 59 #[v] w fun e w' => GotList (Co.lst (Co.tri fs n)) w e w' := by
  have HI := Lib.hid h
  obtain ⟨p, c, rfl, _⟩ := h.form
  have HLn := Lib.hid hl
  have HDone : Hid (Co.fine (Co.els fs hs n) → Co.lst (Co.tri fs n) = (Co.out (Co.els fs hs n), true)) := Lib.hid (fun h => by rw [← Co.els_tri fs hs]; exact Co.fine_done h)
  have HBad : Hid (∀ k, k ≤ n → (∀ r, Co.lst (Co.raw (Co.els fs hs k) ++ r) = ([], false)) → Co.lst (Co.tri fs n) = ([], false)) := Lib.hid (fun k hk h => by
    obtain ⟨r, hr⟩ := Co.tri_split fs hk
    rw [hr, ← Co.els_tri fs hs]; exact h r)
  generalize fs.length = N at *
  generalize Co.lst (Co.tri fs n) = ans at *
  clear h hl
  refine (callsIn_wide (n := 9)).1 ?_
  refine callsIn_of_wp_marks Try.func59 rfl trivial ?_ rfl
  simp only [Try.ntmps59, List.size_toArray, List.length_cons, List.length_nil, Nat.reduceAdd, Nat.reduceSub, Array.replicate_succ, Array.replicate_zero, List.push_toArray, List.append_toArray, List.nil_append, List.cons_append]
  gi_wp2_with (gi_at_call 77; refine (tabled_make _ _ _ _ _).mono ?_; rintro e w' ⟨rfl, rfl⟩)
  have bA := ((Boxed.new w 33 (.slice none 0 0)).alloc (.cells #[.bool false] 4)).alloc (.cells #[.slice p N c] 33)
  have bO := (Boxed.new (w.alloc (.cells #[.slice none 0 0] 33)) 4 (.bool false)).alloc (.cells #[.slice p N c] 33)
  have bL := Boxed.new ((w.alloc (.cells #[.slice none 0 0] 33)).alloc (.cells #[.bool false] 4)) 33 (.slice p N c)
  simp only [World.size_alloc] at bO bL
  have hB0 : Lo w (((w.alloc (.cells #[.slice none 0 0] 33)).alloc (.cells #[.bool false] 4)).alloc (.cells #[.slice p N c] 33)) := (((Lo.refl w).alloc _).alloc _).alloc _
  have hsz : (((w.alloc (.cells #[.slice none 0 0] 33)).alloc (.cells #[.bool false] 4)).alloc (.cells #[.slice p N c] 33)).heap.size = w.heap.size + 3 := by simp
  obtain ⟨W0, hW0⟩ : ∃ W0, ((w.alloc (.cells #[.slice none 0 0] 33)).alloc (.cells #[.bool false] 4)).alloc (.cells #[.slice p N c] 33) = W0 := ⟨_, rfl⟩
  rw [hW0] at bA bO bL hB0 hsz ⊢
  clear hW0
  have hst := tabled_stops w.heap.size (w.heap.size + 2) w.heap.size fs hs n N hn HLn.out p c (w.heap.size + 1 + 1) W0 (by omega) bA (fun W' hW' => Row.lo HI.out (Below.trans hB0 hW')) bL (by omega) 8
  have hIo : OwnFrom W0.heap.size (fun (pre : List Co.R3) W => ((∃ v, Boxed W w.heap.size 33 v ∧ W.ownsRow w.heap.size 3 1 v (Co.out pre).length (ints (Co.out pre)) ∧ True) ∧ Boxed W (w.heap.size + 1) 4 (.bool false)) ∧ ((Co.fine pre ∧ (Co.out pre).length ≤ 131071) ∧ Below w.heap.size w W)) :=
    OwnFrom.and (OwnFrom.and (Go.Own.from (holdsRow_own w.heap.size w.heap.size 33 3 1 (fun (pre : List Co.R3) => (Co.out pre).length) (fun pre => ints (Co.out pre)) (fun _ _ => True)) _) (Go.Own.from (boxed_own _ _ _) _)) (OwnFrom.and (ownFrom_pure _ _) (ownFrom_below (Nat.le_refl _) (by omega)))
  have hIx : ∀ c : Code, OwnFrom W0.heap.size (fun (pre : List Co.R3) W => (c = .ret ∧ ∀ r, Co.lst (Co.raw pre ++ r) = ([], false)) ∧ (Boxed W w.heap.size 33 (.slice none 0 0) ∧ Boxed W (w.heap.size + 1) 4 (.bool false)) ∧ Below w.heap.size w W) := fun c =>
    OwnFrom.and (ownFrom_pure _ _) (OwnFrom.and (OwnFrom.and (Go.Own.from (boxed_own _ _ _) _) (Go.Own.from (boxed_own _ _ _) _)) (ownFrom_below (Nat.le_refl _) (by omega)))
  refine wpIn_rangeFunc_ownH rfl (by omega) (gf := 84) (lb := #[.pointer (some ⟨w.heap.size + 1 + 1, 0, none⟩)]) rfl trivial (enters_of Try.func84 (by kernel_rfl) rfl)
    hst kpS_t (kpS_b (by omega) (by omega)) (Below.refl _ _) (fun _ => rfl) _ (fun c pre W => (c = .ret ∧ ∀ r, Co.lst (Co.raw pre ++ r) = ([], false)) ∧ (Boxed W w.heap.size 33 (.slice none 0 0) ∧ Boxed W (w.heap.size + 1) 4 (.bool false)) ∧ Below w.heap.size w W) hIo hIx
    ⟨⟨⟨_, bA, World.ownsRow_nil _ _ _ _, trivial⟩, bO⟩, ⟨Co.fine_nil.1, by rw [Co.fine_nil.2]; simp⟩, hB0⟩
    (fun x a' W => ∃ Bx, (w.heap.size + 2 ≤ Bx ∧ RunAt W Bx x) ∧ a' = { tmps := #[.slice p N c, undef, .pointer (some ⟨w.heap.size, 0, none⟩), .pointer (some ⟨w.heap.size + 1, 0, none⟩), .int .i64 x.1.2.2, .pointer (some ⟨Bx, 0, none⟩), undef,
        .slice p N c, .func (.func 84) #[] #[.pointer (some ⟨w.heap.size + 1 + 1, 0, none⟩)], .int .i64 x.1.2.2, .agg #[.int .i64 x.1.1, .int .i64 x.1.2.1],
        undef, undef, undef, undef, undef, undef, undef, undef, undef, undef, undef, undef, undef, undef, undef, undef, undef, undef, undef, undef, undef, undef, undef, undef], defers := [] })
    (fun x a' _ X Y row hs hg hr => by obtain ⟨Bx, h2, h3⟩ := hs; exact ⟨Bx, ⟨h2.1, run_own Bx x h2.2 hg (fun r e => (hr r e).2)⟩, h3⟩)
    ?assign ?body ?done ?stop
  case assign =>
    rintro l' pre x W K hI hK
    have hws : w.heap.size ≤ W.heap.size := hI.2.2.size
    have hws2 : w.heap.size + 2 ≤ W.heap.size := by have := hI.1.2.lt; omega
    have hI' := hIo.alloc (.cells #[.int .i64 x.1.1, .int .i64 x.1.2.1] 103) hI
    have hK' := Lib.hid (fun a' => hK a' (W.alloc (.cells #[.int .i64 x.1.1, .int .i64 x.1.2.1] 103)) ((KeepsOthers.alloc _ _).from _) (KpS.alloc hws _) hI')
    clear hK
    unfold encR
    gi_wp2
    exact hK'.out _ ⟨W.heap.size, ⟨hws2, new_block W _⟩, rfl⟩
  case body =>
    rintro l' pre x a' W hl ⟨r, hr⟩ ⟨⟨⟨v, hv, hrow, -⟩, bO⟩, ⟨hfine, hln⟩, hBe⟩ ⟨Bx, ⟨hBx, bX⟩, rfl⟩ hlt
    obtain ⟨pv, cv, rfl⟩ := own_ints hrow
    have HBadX := Lib.hid (fun h => Co.fine_bad (x := x) hfine h)
    have HFineX := Lib.hid (fun h => Co.fine_more (x := x) hfine h)
    obtain ⟨⟨x0, x1, x2⟩, ⟨a1, a2⟩, ⟨b1, b2⟩, f1, f2⟩ := x
    unfold RunAt at bX
    dsimp only at *
    obtain ⟨A1, A2, B1, B2, F2⟩ : 0 ≤ x0 ∧ x0 ≤ 65535 ∧ 0 ≤ x1 ∧ x1 ≤ 65535 ∧ x2 ≤ 65535 := ⟨a1, a2, b1, b2, f2⟩
    have cX0 : W.cell? ⟨Bx, 0, none⟩ = some (.int .i64 x0) := block_cell bX rfl
    have cX1 : W.cell? ⟨Bx, 1, none⟩ = some (.int .i64 x1) := block_cell bX rfl
    have cA := hv.cell
    have fA := hv.frozen
    have cO := bO.cell
    have fO := bO.frozen
    have h1' : 1 ≤ 9 - 1 - 1 := by omega
    have HE1 := Lib.hid (((hv.set (.slice none 0 0)).other (B' := w.heap.size + 1) (by omega) (.bool false)))
    have HE2 := Lib.hid ((bO.other (B' := w.heap.size) (by omega) (.slice none 0 0)).set (.bool false))
    have HE3 : Hid (Below w.heap.size w ((W.setCell ⟨w.heap.size, 0, none⟩ (.slice none 0 0)).setCell ⟨w.heap.size + 1, 0, none⟩ (.bool false))) := Lib.hid ((hBe.setCell (p := ⟨w.heap.size, 0, none⟩) (Nat.le_refl _) _).setCell (p := ⟨w.heap.size + 1, 0, none⟩) (by simp) _)
    by_cases hx : x1 < x0
    · have HB := Lib.hid (HBadX.out (.inl hx))
      clear hrow HBadX HFineX
      gi_wp2
      exact ⟨((KeepsOthers.setCell _ _ _).trans (KeepsOthers.setCell _ _ _)).from _, ⟨rfl, HB.out⟩, ⟨HE1.out, HE2.out⟩, HE3.out⟩
    · by_cases hf : x2 = ((Co.out pre).length : Int)
      · clear HE1 HE2 HE3 HBadX
        have HF := Lib.hid (HFineX.out (by omega))
        clear HFineX
        have HG : Hid (Good w.heap.size W) := Lib.hid (good_of hv hrow)
        have HNo : Hid (¬ Owned w.heap.size W Bx) := Lib.hid (fun hb => row_ne hrow bX (by decide) (owned_eq hv hb))
        have HX := Lib.hid (fun W' (h : KpS w.heap.size (w.heap.size + 2) w.heap.size W W') => (h.keep HG.out bX rfl hBx HNo.out).1)
        have HV := Lib.hid hv
        have HR := Lib.hid hrow
        have HO := Lib.hid bO
        have HBe := Lib.hid hBe
        have HLB : Hid (w.heap.size ≤ w.heap.size + 1 ∧ w.heap.size + 2 ≤ W0.heap.size) := Lib.hid (by omega)
        generalize Co.out pre = o at *
        have hq : (x2 != (o.length : Int)) = false := by simpa using hf
        have HFF := Lib.hid hf
        obtain ⟨M, hM⟩ : ∃ M, (x1 - x0 + 1).toNat = M := ⟨_, rfl⟩
        rw [hM] at HF
        have HMi : Hid (x1 - x0 + 1 = (M : Int)) := Lib.hid (by omega)
        clear hv hrow bO bX hBe hf
        gi_wp2
        clear cA fA cO fO cX0 cX1 hq
        gi_loopw [6] (fun g wr => ∃ (j L : Nat) (z : Int) (pv : Option Addr) (cv : Nat), j ≤ M ∧ g = .int .i64 z ∧ Hid (z = x0 + (j : Int)) ∧ Hid (L = o.length + j) ∧ Hid (Boxed wr w.heap.size 33 (.slice pv L cv)) ∧ Hid (wr.ownsRow w.heap.size 3 1 (.slice pv L cv) L (ints (o ++ Co.upto x0 j))) ∧ Hid (Boxed wr (w.heap.size + 1) 4 (.bool false)) ∧
          Hid (KeepsFrom W0.heap.size W wr) ∧ Hid (KpS w.heap.size (w.heap.size + 2) w.heap.size W wr) ∧ Hid (Below w.heap.size w wr)) (fun g _ => (x1 + 1 - intOf g).toNat)
        case atStart => exact ⟨0, o.length, x0, pv, cv, Nat.zero_le _, rfl, Lib.hid (by simp), Lib.hid rfl, HV, Lib.hid (by rw [show Co.upto x0 0 = [] from rfl, List.append_nil]; exact HR.out), HO, Lib.hid (KeepsFrom.refl _ _), Lib.hid (KpS.refl _ _ _ _), HBe⟩
        case round =>
          obtain ⟨j, L, z, pj, cj, hj, rfl, HZ, HL, HVj, HRj, HOj, HKf, HKp, HBj⟩ := hrel
          have bXr := HX.out _ HKp.out
          have cX1 : wr.cell? ⟨Bx, 1, none⟩ = some (.int .i64 x1) := block_cell bXr rfl
          clear bXr
          by_cases hjlt : j < M
          · have hz1 : z ≤ x1 := by have := HZ.out; have := HMi.out; omega
            have hz0 : 0 ≤ z := by have := HZ.out; omega
            have hL : L ≤ 200000 := by have := HL.out; have := HMi.out; omega
            have cA := HVj.out.cell
            obtain ⟨i0, hi0, hq0, hq1, hq2⟩ := info_parts int_info
            have HOk : Hid (∀ (tmp : Obj) w2 u, (wr.alloc tmp).grownBy w2 (Value.slice pj L cj).ownBlock → Boxed (w2.setCell ⟨w.heap.size, 0, none⟩ u) (w.heap.size + 1) 4 (.bool false)) :=
              Lib.hid (fun tmp w2 u hg => ((HOj.out.alloc tmp).kept hg (HOj.out.not_row (by decide) HRj.out)).other (by omega) u)
            gi_wp2_with (gi_at_builtin; refine wpListIn_append_own_at _ rfl _ _ 33 rfl w.heap.size 3 i0 (.int .i64 0) 1 8 Try.underlying33 hi0 hq0 hq1 hq2 rfl (by decide) _ _ _ rfl (HRj.out.alloc _) ⟨wr.heap.size, 0, none⟩ 1 1 [.int .i64 z] rfl rfl (cells_new wr [.int .i64 z] 3) (one_int z) (by unfold maxLen; omega) (by omega) (by have := HBj.out.size; simp; omega) ?_; intro v' w2 hown' hgrow _ hat; obtain ⟨g', cap', rfl⟩ := ownsRow_succ hown'; obtain ⟨hv1, hv2, hr2, hk2, hb2⟩ := HVj.out.appended (by decide) HRj.out HBj.out.size (by omega) hown' hgrow; have hKp := Lib.hid (KpS.grown (n₁ := w.heap.size + 2) HVj.out (by decide) HRj.out HBj.out.size (by omega) (by omega) hown' hgrow hat); have HE5 := Lib.hid (HOk.out _ w2 (.slice (some ⟨g', 0, none⟩) (L + 1) cap') hgrow); have hc1 := hv1.cell; have hf1 := hv1.frozen)
            rw [ints_push] at hr2
            have HV2 := Lib.hid hv2
            have HR2 := Lib.hid hr2
            have HK2 := Lib.hid (HKf.out.trans (hk2.from W0.heap.size))
            have HB2 := Lib.hid (Below.trans HBj.out hb2)
            clear hv1 hv2 hr2 hk2 hb2 hown' hgrow hat hc1 hf1
            go_roundw
            case rel => exact ⟨j + 1, L + 1, z + 1, _, _, by omega, rfl, Lib.hid (by have := HZ.out; omega), Lib.hid (by have := HL.out; omega), HV2, Lib.hid (by rw [Co.upto_succ, ← HZ.out, ← List.append_assoc]; exact HR2.out), HE5, HK2, Lib.hid (HKp.out.trans hKp.out), HB2⟩
            case measure => simp [intOf]; omega
          · obtain rfl : j = M := by omega
            have hz1 : ¬ z ≤ x1 := by have := HZ.out; have := HMi.out; omega
            gi_wp2
            obtain ⟨k1, k2⟩ := HF.out
            have HLL : L = (o ++ Co.upto x0 j).length := by rw [List.length_append, Co.upto_len]; exact HL.out
            refine ⟨hsz ▸ HKf.out, HKp.out, ⟨⟨_, HVj.out, by rw [k2, ← HLL]; exact HRj.out⟩, HOj.out⟩, ⟨k1, ?_⟩, HBj.out⟩
            rw [k2, ← HLL]
            have e1 := HL.out
            have e2 := HMi.out
            have e3 : x2 = (o.length : Int) := HFF.out
            omega
      · have HB := Lib.hid (HBadX.out (.inr hf))
        have hq : (x2 != ((Co.out pre).length : Int)) = true := by simpa using hf
        clear hrow HBadX HFineX hf
        gi_wp2
        exact ⟨((KeepsOthers.setCell _ _ _).trans (KeepsOthers.setCell _ _ _)).from _, ⟨rfl, HB.out⟩, ⟨HE1.out, HE2.out⟩, HE3.out⟩
  case done =>
    rintro D ys W hD rfl ⟨⟨⟨v, hv, hrow, -⟩, bO⟩, ⟨hfine, hln⟩, hBe⟩ hK
    have HSP := Lib.hid (HDone.out hfine)
    obtain ⟨pv, cv, rfl⟩ := own_ints hrow
    generalize Co.out (Co.els fs hs n) = o at *
    have cA := hv.cell
    have cO := bO.cell
    have fA := hv.frozen
    have fO := bO.frozen
    have HB4 := Lib.hid ((hv.set (.slice pv o.length cv)).other (B' := w.heap.size + 1) (by omega) (.bool true))
    have HB5 := Lib.hid ((bO.other (B' := w.heap.size) (by omega) (.slice pv o.length cv)).set (.bool true))
    have HR1 : Hid (((W.setCell ⟨w.heap.size, 0, none⟩ (.slice pv o.length cv)).setCell ⟨w.heap.size + 1, 0, none⟩ (.bool true)).ownsRow w.heap.size 3 1 (.slice pv o.length cv) o.length (ints o)) :=
      Lib.hid ((hrow.kept (grownBy_setCell' W w.heap.size _) (.inr (hv.not_row (by decide) hrow).symm)).kept (grownBy_setCell' _ (w.heap.size + 1) _) (.inr ((bO.other (B' := w.heap.size) (by omega) (.slice pv o.length cv)).not_row (by decide) (hrow.kept (grownBy_setCell' W w.heap.size _) (.inr (hv.not_row (by decide) hrow).symm))).symm))
    have HBe : Hid (Below w.heap.size w ((W.setCell ⟨w.heap.size, 0, none⟩ (.slice pv o.length cv)).setCell ⟨w.heap.size + 1, 0, none⟩ (.bool true))) := Lib.hid ((hBe.setCell (p := ⟨w.heap.size, 0, none⟩) (Nat.le_refl _) _).setCell (p := ⟨w.heap.size + 1, 0, none⟩) (by simp) _)
    have hK' := (KeepsOthers.setCell (W.setCell ⟨w.heap.size, 0, none⟩ (.slice pv o.length cv)) ⟨w.heap.size + 1, 0, none⟩ (.bool true)).same D _ ((KeepsOthers.setCell W ⟨w.heap.size, 0, none⟩ (.slice pv o.length cv)).same D _ hK rfl) rfl
    clear hrow bO hv
    gi_wp2
    refine ⟨by simp, .inl ⟨_, _, rfl, run_takeDeferred hK', ?_⟩⟩
    have e4 := cell_kept HB4.out.cell (grownBy_putObj' _ D (.deferred none)) (fun r e => by cases e; exact ⟨_, hK', rfl⟩)
    have e5 := cell_kept HB5.out.cell (grownBy_putObj' _ D (.deferred none)) (fun r e => by cases e; exact ⟨_, hK', rfl⟩)
    refine ⟨.tuple #[.slice pv o.length cv, .bool true], ?_, ?_⟩
    · simp [results, Try.f59, go_sem, e4, e5]
    · rw [HSP.out]
      exact ⟨_, _, rfl, Own.row (base := w.heap.size) (ownsRow_putObj HR1.out (.deferred none) hK' rfl), HBe.out.trans (belowK_b (w := w) (Nat.le_refl _) _ D _ _ (by omega) hK' rfl rfl)⟩
  case stop =>
    rintro D c' pre W hD ⟨k, hk, rfl⟩ ⟨⟨rfl, hbad⟩, ⟨b4, b5⟩, hBe⟩ hK
    have HSP := Lib.hid (HBad.out k hk hbad)
    gi_wp2
    refine ⟨by simp, .inl ⟨_, _, rfl, run_takeDeferred hK, ?_⟩⟩
    have e4 := cell_kept b4.cell (grownBy_putObj' _ D (.deferred none)) (fun r e => by cases e; exact ⟨_, hK, rfl⟩)
    have e5 := cell_kept b5.cell (grownBy_putObj' _ D (.deferred none)) (fun r e => by cases e; exact ⟨_, hK, rfl⟩)
    refine ⟨.tuple #[.slice none 0 0, .bool false], ?_, ?_⟩
    · simp [results, Try.f59, go_sem, e4, e5]
    · rw [HSP.out]
      exact ⟨none, 0, rfl, .inl ⟨_, _, rfl, fun _ => rfl, rfl⟩, hBe.trans (belowK_b (w := w) (Nat.le_refl _) _ D _ _ (by omega) hK rfl rfl)⟩
end Go.Proofs.Ytcnmfgdeanbhoaa
