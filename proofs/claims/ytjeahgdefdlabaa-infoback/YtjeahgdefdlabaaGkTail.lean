/-
  A region that draws its order, inside a fence, whose head only reads and whose tail goes in the text's order: one walk serves every order. Nothing of the program. No conditions beyond those stated.
-/
import Derived.Test.YtjeahgdefdlabaaGkLo
import Derived.StillTail
import Derived.TacticsIn
import Derived.Sort.QuietIn
namespace Go.Proofs.Ytjeahgdefdlabaa

section
variable {F : Fence} {n : Nat} {P : Program} {ops : Array Oper} {md : Region.Mode} {C : World → Prop}

/-- The head, whatever order is picked, up to place b. -/
def wpHeadIn (F : Fence) (n : Nat) (P : Program) (md : Region.Mode) (ops : Array Oper) (C : World → Prop) (b : Nat) (L : Array Bool → Act → Prop) : Nat → Array Bool → Act → Prop
  | 0, listed, a => L listed a
  | f + 1, listed, a => Region.ready md ops listed ≠ [] ∧ ∀ i ∈ Region.ready md ops listed, i < b ∧ qOpIn F n P ops C i (wpHeadIn F n P md ops C b L f (listed.setIfInBounds i true)) a

theorem wpAnyIn_of_headIn {b g : Nat} {L : Array Bool → Act → Prop} {Q' : Exit → Act → World → Prop} (hro : F.round = none) (hL : ∀ listed a w, C w → L listed a → wpAnyIn F n P md ops Q' g listed a w) :
    ∀ (f : Nat) (listed : Array Bool) (a : Act) (w : World), C w → wpHeadIn F n P md ops C b L f listed a → wpAnyIn F n P md ops Q' (f + g) listed a w
  | 0, listed, a, w, hw, h => by rw [Nat.zero_add]; exact hL _ _ _ hw h
  | f + 1, listed, a, w, hw, h => by
    rw [show f + 1 + g = (f + g) + 1 by omega]
    exact ⟨fun h0 => absurd h0 h.1, fun i hi => wpOpIn_of_qOpIn hro hw (fun a' w' hw' h' => wpAnyIn_of_headIn hro hL f _ a' w' hw' h') (h.2 i hi).2⟩

/-- One that may come up is in the head as long as one of the head has not come up. -/
theorem ready_head {b i : Nat} {listed : Array Bool} (hs : Region.sinkB md ops b = true) (hc : Region.chainB md ops b = true) (hn : b < ops.size) (inv : HeadInv md ops b listed) (hin : i < b) (hr : i ∈ Region.ready md ops listed) {j : Nat} (hj : j ∈ Region.ready md ops listed) : j < b :=
  Nat.lt_of_not_le fun h => tail_waits hs hc hn inv _ i rfl hin (mem_ready.1 hr).1 j h hj
/-- One that may come up waits for none that has not. -/
theorem ready_waits {i j : Nat} {oj : Oper} {listed : Array Bool} (hj : ops[j]? = some oj) (hr : j ∈ Region.ready md ops listed) (hun : listed.getD i true = false) : ∀ e ∈ oj.after, Region.binds md e = true → e.on ≠ i := by
  obtain ⟨_, o, ho, hall⟩ := mem_ready.1 hr
  obtain rfl : o = oj := Option.some.inj (ho.symm.trans hj)
  rintro e he hb rfl
  have h1 := hall e he hb
  rw [getD_both hun] at h1
  cases h1
/-- The one at hand is taken first, where all others may be put behind it. -/
theorem wpHeadIn_one {b i : Nat} {oi : Oper} {v : Value} {L : Array Bool → Act → Prop} {f : Nat} {listed : Array Bool} {a : Act} (hi : ops[i]? = some oi) (hr : i ∈ Region.ready md ops listed) (hlt : ∀ j ∈ Region.ready md ops listed, j < b)
    (hy : YieldsQuiet F n P ops C oi v a) (H : wpHeadIn F n P md ops C b L f (listed.setIfInBounds i true) (a.put oi.dst v))
    (others : ∀ j ∈ Region.ready md ops listed, j ≠ i → qOpIn F n P ops C j (wpHeadIn F n P md ops C b L f (listed.setIfInBounds j true)) a) : wpHeadIn F n P md ops C b L (f + 1) listed a := by
  refine ⟨List.ne_nil_of_mem hr, fun j hj => ⟨hlt j hj, ?_⟩⟩
  by_cases e : j = i
  · rw [e]; exact hy.qOpIn hi H
  · exact others j hj e

theorem wpHeadIn_first {b i : Nat} {oi : Oper} {v : Value} {L : Array Bool → Act → Prop} (hi : ops[i]? = some oi) (hsel : ∀ (j : Nat) (o : Oper) cs b, ops[j]? = some o → o.op ≠ .select cs b)
    (hs : Region.sinkB md ops b = true) (hc : Region.chainB md ops b = true) (hn : b < ops.size) (hin : i < b) (hdone : ∀ listed a, L listed a → ∀ j ∈ Region.ready md ops listed, b ≤ j) :
    ∀ (f : Nat) (listed : Array Bool) (a : Act), HeadInv md ops b listed →
      (∀ j oj, ops[j]? = some oj → j ≠ i → listed.getD j true = false → (∀ e ∈ oj.after, Region.binds md e = true → e.on ≠ i) → oi.apart ops oj = true) →
      i ∈ Region.ready md ops listed → YieldsQuiet F n P ops C oi v a →
      wpHeadIn F n P md ops C b L f (listed.setIfInBounds i true) (a.put oi.dst v) → wpHeadIn F n P md ops C b L (f + 1) listed a
  | 0, listed, a, inv, _, hr, hy, H => by
    have hlt : ∀ j ∈ Region.ready md ops listed, j < b := fun j hj => ready_head hs hc hn inv hin hr hj
    exact wpHeadIn_one hi hr hlt hy H fun j hj e => absurd (hdone _ _ H j (ready_mono hj e)) (Nat.not_le.2 (hlt j hj))
  | f + 1, listed, a, inv, hfree, hr, hy, H => by
    have hlt : ∀ j ∈ Region.ready md ops listed, j < b := fun j hj => ready_head hs hc hn inv hin hr hj
    refine wpHeadIn_one hi hr hlt hy H fun j hj e => ?_
    obtain ⟨hjun, oj, hoj, _⟩ := mem_ready.1 hj
    have hap := hfree j oj hoj e hjun (ready_waits hoj hj (mem_ready.1 hr).1)
    refine qOpIn_mono (fun a' h3 => wpHeadIn_first hi hsel hs hc hn hin hdone f (listed.setIfInBounds j true) a' (inv.set hj (hlt j hj)) ?_ (ready_mono hr (Ne.symm e)) h3.1 ?_)
      (qOpIn_put hoj hap (fun cs b => hsel i oi cs b hi) (fun cs b => hsel j oj cs b hoj) hy (H.2 j (ready_mono hj e)).2)
    · intro k ok hk hki hun hno
      refine hfree k ok hk hki ?_ hno
      by_cases hjk : j = k
      · rw [← hjk]; exact hjun
      · rwa [getD_set_ne true hjk] at hun
    · rw [Array.setIfInBounds_comm _ _ e]
      exact h3.2

theorem wpAnyIn_of_seqIn {Q' : Exit → Act → World → Prop} : ∀ (l : List Oper) (k : Nat) (listed : Array Bool) (a : Act) (w : World), (∀ j, l[j]? = ops[k + j]?) →
    Region.seqB md ops l.length k listed = true → wpListIn F n P ops Q' l a w → wpAnyIn F n P md ops Q' l.length listed a w
  | [], _, _, _, _, _, hB, h => ⟨by simpa [Region.seqB] using hB, h⟩
  | o :: l, k, listed, a, w, hl, hB, h => by
    have h0 : ops[k]? = some o := by simpa using (hl 0).symm
    simp only [List.length_cons, Region.seqB, Bool.and_eq_true, decide_eq_true_eq] at hB
    refine ⟨fun h1 => (by rw [hB.1] at h1; cases h1), fun i hi => ?_⟩
    rw [hB.1] at hi
    have hik : i = k := by simpa using hi
    subst hik
    have hw : wpOpIn F n P ops Q' i (wpListIn F n P ops Q' l) a w := by unfold wpOpIn; simp only [h0]; exact h
    exact wpOpIn_mono (fun a' w' h' => wpAnyIn_of_seqIn l (i + 1) _ a' w' (fun j => by have := hl (j + 1); simpa [Nat.add_assoc, Nat.add_comm 1 j] using this) hB.2 h') hw

theorem wpHeadIn_lex {b g : Nat} {Lq : Act → Prop} (hsel : Region.noSelect ops = true) (hs : Region.sinkB md ops b = true) (hc : Region.chainB md ops b = true) (hn : b < ops.size) :
    ∀ (l : List Oper) (k : Nat) (listed : Array Bool) (a : Act), (∀ j, j < l.length → l[j]? = ops[k + j]?) → k + l.length = b → HeadInv md ops b listed →
    Region.lexHead md ops g l.length k listed = true → wpQuietIn F n P ops C Lq l a →
    wpHeadIn F n P md ops C b (fun listed' a' => Region.seqB md ops g b listed' = true ∧ Lq a') l.length listed a
  | [], k, listed, a, _, hk, _, hB, h => by
    have : k = b := by simpa using hk
    subst this
    exact ⟨by simpa [Region.lexHead] using hB, h⟩
  | o :: l, k, listed, a, hl, hk, inv, hB, h => by
    have h0 : ops[k]? = some o := by simpa using (hl 0 (by simp)).symm
    simp only [List.length_cons, Region.lexHead, Bool.and_eq_true] at hB
    obtain ⟨⟨hr, hf⟩, hB'⟩ := hB
    have hkn : k < b := by simp only [List.length_cons] at hk; omega
    have hr' : k ∈ Region.ready md ops listed := by simpa using hr
    have hst : qOpIn F n P ops C k (wpQuietIn F n P ops C Lq l) a := by unfold qOpIn; simp only [h0]; exact h
    obtain ⟨v, hy, hK⟩ := yieldsQuiet_of_qOpIn h0 hst
    exact wpHeadIn_first h0 (Region.noSelect_spec hsel) hs hc hn hkn (fun listed' a' hL => seqB_ready hL.1) l.length listed a inv (Region.free_spec h0 hf) hr' hy
      (wpHeadIn_lex hsel hs hc hn l (k + 1) _ _ (fun j hj => by have := hl (j + 1) (by simp; omega); simpa [Nat.add_assoc, Nat.add_comm 1 j] using this) (by simp only [List.length_cons] at hk; omega) (inv.set hr' hkn) hB' hK)

/-- One walk in the text's order serves every order: the head only reads, the tail is a list. -/
theorem wpIn_region_tail {id : Nat} {Q : Exit → Act → World → Prop} {a : Act} {w : World} {l : List Oper} (b : Nat) (hro : F.round = none) (hm : P.follows .mixedOrders = true) (hB : Region.lexTailB .any l.toArray b = true)
    (h : wpQuietIn F n P l.toArray (fun w' => ∃ k, w' = w.drewN k) (fun a' => ∀ w', (∃ k, w' = w.drewN k) → wpListIn F n P l.toArray Q (l.drop b) a' w') (l.take b) a) : (Code.region id l.toArray true).wpIn F n P Q a w := by
  simp only [Region.lexTailB, Bool.and_eq_true, decide_eq_true_eq] at hB
  obtain ⟨⟨⟨⟨hsel, hn⟩, hs⟩, hc⟩, hlex⟩ := hB
  have hn' : b < l.length := by simpa using hn
  have htl : (l.take b).length = b := by simp; omega
  have hdl : (l.drop b).length = l.toArray.size - b := by simp
  have inv0 : HeadInv .any l.toArray b (Array.replicate l.toArray.size false) :=
    ⟨by simp, fun j oj _ hl => (by rw [getD_replicate_false] at hl; cases hl), fun t _ ht => getD_in (by simpa using ht) (getD_replicate_false _ _)⟩
  have H := wpHeadIn_lex (md := .any) (g := l.toArray.size - b) hsel hs hc hn (l.take b) 0 _ a (fun j hj => by
    have hj' : j < b := by rw [htl] at hj; exact hj
    simp [hj']) (by simpa using htl) inv0 (by rw [htl]; exact hlex) h
  refine wpIn_region_any hm ?_
  have := wpAnyIn_of_headIn (Q' := Q) (g := l.toArray.size - b) (w := { w with drawn := w.drawn + 1 }) hro (fun listed a' w' hw' hL => by
    have := wpAnyIn_of_seqIn (F := F) (n := n) (P := P) (md := .any) (Q' := Q) (l.drop b) b listed a' w' (fun j => by simp [List.getElem?_drop]) (by rw [hdl]; exact hL.1) (hL.2 w' hw')
    rwa [hdl] at this) _ _ _ ⟨1, rfl⟩ H
  rw [htl, show b + (l.toArray.size - b) = l.toArray.size by omega] at this
  exact this
end
end Go.Proofs.Ytjeahgdefdlabaa
