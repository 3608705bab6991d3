/-
  Slices of ints in memory: one that the call itself owns reads as its numbers; append onto such a one, whatever the source; make. Nothing of the program but its types. No conditions beyond those stated.
-/
import Derived.Test.YtjeahgdefdlabaaGkLo
import Derived.OwnWalk
import Derived.Deep.AppendLies
import Derived.Deep.RegionLaw
import Derived.Laws.AppendOwnNone
import Derived.ProofKit
namespace Go.Proofs.Ytjeahgdefdlabaa
open Go.RowKit

/-- The slice v, of the call's own blocks (from base on), holds the numbers l. -/
def Own (w : World) (base : Nat) (v : Value) (l : List Int) : Prop := w.ownsRow base 3 1 v l.length (l.map (Value.int .i64))

theorem Own.none (w : World) (base : Nat) : Own w base (.slice none 0 0) [] := World.ownsRow_nil w base _ _

theorem Own.lo {w w' : World} {base : Nat} {v : Value} {l : List Int} (h : Own w base v l) (k : Lo w w') : Own w' base v l := by
  refine ⟨h.1, ?_⟩
  rcases h.2 with h2 | ⟨g, cap, cur, hv, hg, hh, r⟩
  · exact .inl h2
  · refine .inr ⟨g, cap, cur, hv, hg, ?_, r⟩
    have hlt : g < w.heap.size := by
      rcases Nat.lt_or_ge g w.heap.size with hlt | hge
      · exact hlt
      · rw [Array.getElem?_eq_none hge] at hh; cases hh
    rw [k.block g hlt]; exact hh

theorem Own.row {w : World} {base : Nat} {v : Value} {l : List Int} (h : Own w base v l) : Row w v l := by
  rcases h.2 with ⟨rfl, hn⟩ | ⟨g, cap, cur, rfl, hg, hh, hnc, hcm, hcs, ht⟩
  · exact .inl ⟨_, _, rfl, fun _ => rfl, List.eq_nil_of_length_eq_zero hn⟩
  · have hlt : g < w.heap.size := by
      rcases Nat.lt_or_ge g w.heap.size with hlt | hge
      · exact hlt
      · rw [Array.getElem?_eq_none hge] at hh; cases hh
    refine .inr ⟨g, 0, cap, rfl, by unfold maxLen at hcm; omega, hnc, hlt, fun i hi => ?_⟩
    have hc := h.cellAt (g := g) (cap := cap) i (by omega)
    rw [Nat.zero_add, hc]
    simp [hi, List.getD]

theorem int_info : (Try.prog.info? 3).map (fun i => (i.zero, i.size, i.bytes)) = some (some (.int .i64 0), 1, 8) := by kernel_rfl

/-- append onto a slice of the call's own, from whatever slice that reads as ys. -/
theorem wpList_app (w : World) {ops : Array Oper} {rest : List Oper} {o : Oper} {a : Act} {Q : Exit → Act → World → Prop} (hgd : o.guard = .none) (s x : Operand)
    (ho : o.op = .call { callee := .builtin .append, args := #[s, x], argTypes := #[37, 37] })
    (base : Nat) (v : Value) (xs : List Int) (hs : a.eval s = v) (hown : Own w base v xs) (u : Value) (ys : List Int) (hx : a.eval x = u) (hr : Row w u ys)
    (hlen : xs.length + ys.length ≤ 1000000) (hbase : base ≤ w.heap.size)
    (h : ∀ p c w', Own w' base (.slice p (xs.length + ys.length) c) (xs ++ ys) → (∀ w0, Lo w0 w → w0.heap.size = base → Lo w0 w') → wpList Try.prog ops Q rest (a.put o.dst (.slice p (xs.length + ys.length) c)) w') : wpList Try.prog ops Q (o :: rest) a w := by
  obtain ⟨i0, hi0, hz0, hz1, hz2⟩ : ∃ i, Try.prog.info? 3 = some i ∧ i.zero = some (.int .i64 0) ∧ i.size = 1 ∧ i.bytes = 8 := by
    have h := int_info
    cases e : Try.prog.info? 3 with
    | none => rw [e] at h; cases h
    | some i =>
      rw [e] at h
      simp only [Option.map_some, Option.some.injEq, Prod.mk.injEq] at h
      exact ⟨i, rfl, h.1, h.2.1, h.2.2⟩
  have hform : ∀ {w' : World} {v' : Value} {l : List Int}, Own w' base v' l → ∃ p c, v' = .slice p l.length c := by
    intro w' v' l ho
    rcases ho.2 with ⟨rfl, hn⟩ | ⟨g, cap, cur, rfl, _⟩
    · exact ⟨_, _, by rw [hn]⟩
    · exact ⟨_, _, rfl⟩
  rcases hr with ⟨p0, c0, rfl, h0, rfl⟩ | ⟨b, off, cap, rfl, h2, h2b, h3, h4⟩
  · cases p0 with
    | some x0 =>
      refine wpList_append_own w hgd s x 37 ho base 3 i0 _ 1 8 Try.underlying37 hi0 hz0 hz1 hz2 rfl (by omega) v xs.length _ hs hown x0 0 c0 [] hx (by simp) (by simp) (by simp) ?_ ?_ hbase ?_
      · unfold maxLen; omega
      · omega
      · intro v' w' hown' hg _
        have hown2 : Own w' base v' (xs ++ []) := by
          unfold Own
          rw [List.length_append, List.map_append]
          exact hown'
        obtain ⟨p, c, hv⟩ := hform hown2
        rw [List.length_append] at hv
        subst hv
        refine h p c w' hown2 ?_
        intro w0 hlo hb0
        exact Below.grown hlo hg hlo.size (fun k hk => by rw [hb0]; exact (hown.lt k hk).1)
    | none =>
    obtain rfl := h0 rfl
    refine wpList_append_own_none hgd s x 37 ho base 3 i0 1 Try.underlying37 hi0 v xs.length _ hs hown hx ?_
    obtain ⟨p, c, rfl⟩ := hform hown
    exact h p c w (by simpa using hown) (fun _ k _ => k)
  · refine wpList_append_own w hgd s x 37 ho base 3 i0 _ 1 8 Try.underlying37 hi0 hz0 hz1 hz2 rfl (by omega) v xs.length _ hs hown ⟨b, off, .none⟩ ys.length cap (ys.map (Value.int .i64)) hx (by simp) ?_ ?_ ?_ ?_ hbase ?_
    · intro j u hj
      have hjl : j < ys.length := by
        rcases Nat.lt_or_ge j ys.length with hlt | hge
        · exact hlt
        · rw [List.getElem?_eq_none (by simpa using hge)] at hj; cases hj
      have := h4 j hjl
      have e1 : (⟨b, off, .none⟩ : Addr).add j = ⟨b, off + j, .none⟩ := by
        unfold Addr.add; split <;> simp_all
      rw [e1, this]
      simp [hjl] at hj
      simp [List.getD, hjl, hj]
    · intro u hu
      simp only [List.mem_map] at hu
      obtain ⟨n, _, rfl⟩ := hu
      rfl
    · unfold maxLen; omega
    · omega
    · intro v' w' hown' hg _
      have hown2 : Own w' base v' (xs ++ ys) := by
        unfold Own
        rw [List.length_append, List.map_append]
        exact hown'
      obtain ⟨p, c, hv⟩ := hform hown2
      rw [List.length_append] at hv
      subst hv
      refine h p c w' hown2 ?_
      intro w0 hlo hb0
      exact Below.grown hlo hg hlo.size (fun k hk => by rw [hb0]; exact (hown.lt k hk).1)

theorem Own.set {w : World} {base : Nat} {v : Value} {l : List Int} (h : Own w base v l) {p : Addr} (hp : p.block < base) (u : Value) : Own (w.setCell p u) base v l := by
  refine ⟨h.1, ?_⟩
  rcases h.2 with h2 | ⟨g, cap, cur, hv, hg, hh, r⟩
  · exact .inl h2
  · refine .inr ⟨g, cap, cur, hv, hg, ?_, r⟩
    rw [Below.heap_setCell _ _ _ _ (by omega)]; exact hh
theorem Own.form {w : World} {base : Nat} {v : Value} {l : List Int} (h : Own w base v l) : ∃ p c, v = .slice p l.length c := by
  rcases h.2 with ⟨rfl, hn⟩ | ⟨g, cap, cur, rfl, _⟩
  · exact ⟨_, _, by rw [hn]⟩
  · exact ⟨_, _, rfl⟩
theorem Own.mono {w : World} {base base' : Nat} {v : Value} {l : List Int} (h : Own w base v l) (hb : base' ≤ base) : Own w base' v l := by
  refine ⟨h.1, ?_⟩
  rcases h.2 with h2 | ⟨g, cap, cur, hv, hg, r⟩
  · exact .inl h2
  · exact .inr ⟨g, cap, cur, hv, by omega, r⟩

/-- make([]int, 0, n). -/
theorem wpList_mk (w : World) {ops : Array Oper} {rest : List Oper} {o : Oper} {a : Act} {Q : Exit → Act → World → Prop} (hgd : o.guard = none) (l c : Operand)
    (hop : o.op = Op.makeSlice 37 l c) (base : Nat) (C : Int) (n : Nat) (hl : a.eval l = .int .i64 0) (hc : a.eval c = .int .i64 C) (hC : C = (n : Int)) (hn : n ≤ 1000000) (hbase : base ≤ w.heap.size)
    (h : ∀ p c w', Own w' base (.slice p 0 c) [] → Lo w w' → wpList Try.prog ops Q rest (a.put o.dst (.slice p 0 c)) w') : wpList Try.prog ops Q (o :: rest) a w := by
  obtain ⟨i0, hi0, hz0, hz1, hz2⟩ : ∃ i, Try.prog.info? 3 = some i ∧ i.zero = some (.int .i64 0) ∧ i.size = 1 ∧ i.bytes = 8 := by
    have h := int_info
    cases e : Try.prog.info? 3 with
    | none => rw [e] at h; cases h
    | some i =>
      rw [e] at h
      simp only [Option.map_some, Option.some.injEq, Prod.mk.injEq] at h
      exact ⟨i, rfl, h.1, h.2.1, h.2.2⟩
  refine wpList_make_own w hgd l c 37 hop base 3 i0 _ 1 Try.underlying37 hi0 hz0 hz1 .i64 .i64 C n hl hc hC (by rw [hz2]; omega) (by unfold maxLen; omega) hbase ?_
  intro w' hown hg
  refine h _ _ w' hown ?_
  exact Below.grown (Lo.refl w) hg (Nat.le_refl _) (fun k hk => by cases hk)

/-- append of one number at a step of a region that draws. -/
theorem step_app {w : World} {ops : Array Oper} {o : Oper} {a : Act} {K : Act → World → Prop} {Q : Exit → Act → World → Prop} {E : Prop} (hgd : o.guard = none) (s x : Operand)
    (ho : o.op = .call { callee := .builtin .append, args := #[s, x], argTypes := #[37, 37] })
    (base : Nat) (v : Value) (xs : List Int) (hs : a.eval s = v) (hown : Own w base v xs) (b : Nat) (z : Int) (hx : a.eval x = .slice (some ⟨b, 0, none⟩) 1 1) (hr : w.cell? ⟨b, 0, none⟩ = some (.int .i64 z))
    (hlen : xs.length + 1 ≤ 1000000) (hbase : base ≤ w.heap.size)
    (h : ∀ p c w', Own w' base (.slice p (xs.length + 1) c) (xs ++ [z]) → (∀ w0, Lo w0 w → w0.heap.size = base → Lo w0 w') → K (a.put o.dst (.slice p (xs.length + 1) c)) w') :
    if Region.wanted o (yielded ops a.tmps) = true then Oper.wp Try.prog o a w K Q else E := by
  obtain ⟨i0, hi0, hz0, hz1, hz2⟩ : ∃ i, Try.prog.info? 3 = some i ∧ i.zero = some (.int .i64 0) ∧ i.size = 1 ∧ i.bytes = 8 := by
    have h := int_info
    cases e : Try.prog.info? 3 with
    | none => rw [e] at h; cases h
    | some i =>
      rw [e] at h
      simp only [Option.map_some, Option.some.injEq, Prod.mk.injEq] at h
      exact ⟨i, rfl, h.1, h.2.1, h.2.2⟩
  refine step_append_lies w hgd s x 37 ho base 3 i0 _ 1 8 Try.underlying37 hi0 hz0 hz1 hz2 rfl (by omega) v xs.length _ hs hown ⟨b, 0, .none⟩ 1 1 [.int .i64 z] hx rfl ?_ ?_ (by omega) (by unfold maxLen; omega) (by omega) hbase _ rfl ?_
  · intro j u hj
    obtain rfl : j = 0 := by
      rcases Nat.lt_or_ge j 1 with h | h
      · omega
      · rw [List.getElem?_eq_none (by simpa using h)] at hj; cases hj
    simp at hj
    subst hj
    rw [show (⟨b, 0, none⟩ : Addr).add 0 = ⟨b, 0, none⟩ from by unfold Addr.add; split <;> simp_all]
    exact hr
  · intro u hu
    simp only [List.mem_singleton] at hu
    subst hu
    rfl
  · intro g cap w' hown' hg _ _
    have hown2 : Own w' base (.slice (some ⟨g, 0, none⟩) (xs.length + 1) cap) (xs ++ [z]) := by
      unfold Own
      rw [List.length_append, List.map_append]
      exact hown'
    refine h _ _ w' hown2 ?_
    intro w0 hlo hb0
    exact Below.grown hlo hg hlo.size (fun k hk => by rw [hb0]; exact (World.ownsRow.lt hown k hk).1)

end Go.Proofs.Ytjeahgdefdlabaa
