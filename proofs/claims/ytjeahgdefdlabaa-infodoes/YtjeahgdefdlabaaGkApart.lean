/-
  Two rows of ints that the call itself owns, in blocks of their own: append onto one of them. Nothing of the program but its types. No conditions beyond those stated.
-/
import Derived.Test.YtjeahgdefdlabaaGround
namespace Go.Proofs.Ytjeahgdefdlabaa
open Go.RowKit

/-- Two rows lie in blocks of their own. -/
def Apart (v o : Value) : Prop := ∀ g, v.ownBlock = some g → o.ownBlock ≠ some g
theorem Apart.symm {v o : Value} (h : Apart v o) : Apart o v := fun g h1 h2 => h g h2 h1
theorem own_keep {w w' : World} {base : Nat} {v ov : Value} {zs : List Int} (h : Own w base ov zs) (hg : w.grownBy w' v.ownBlock) (hap : Apart v ov) : Own w' base ov zs := by
  refine ⟨h.1, ?_⟩
  rcases h.2 with h3 | ⟨g, cap, cur, hv, hb, hh, r⟩
  · exact .inl h3
  · exact .inr ⟨g, cap, cur, hv, hb, grown_keep hg hh (fun e => hap g e (by rw [hv]; rfl)), r⟩
theorem own_lt {w : World} {base : Nat} {ov : Value} {zs : List Int} (h : Own w base ov zs) {g : Nat} (hg : ov.ownBlock = some g) : g < w.heap.size := by
  rcases h.2 with ⟨h1, _⟩ | ⟨g', cap, cur, hv, hb, hh, r⟩
  · rw [h1] at hg; cases hg
  · rw [hv] at hg
    injection hg with hg
    subst hg
    rcases Nat.lt_or_ge g' w.heap.size with hlt | hge
    · exact hlt
    · rw [Array.getElem?_eq_none hge] at hh; cases hh
/-- append onto one of two rows of the call's own. -/
theorem wpList_app2 (w : World) {ops : Array Oper} {rest : List Oper} {o : Oper} {a : Act} {Q : Exit → Act → World → Prop} (hgd : o.guard = none) (s x : Operand)
    (ho : o.op = .call { callee := .builtin .append, args := #[s, x], argTypes := #[37, 37] })
    (base : Nat) (v : Value) (xs : List Int) (hs : a.eval s = v) (hown : Own w base v xs) (ov : Value) (zs : List Int) (hoth : Own w base ov zs) (hap : Apart v ov) (u : Value) (ys : List Int) (hx : a.eval x = u) (hr : Row w u ys) (hm : 0 < ys.length)
    (hlen : xs.length + ys.length ≤ 1000000) (hbase : base ≤ w.heap.size)
    (h : ∀ p c w', Own w' base (.slice p (xs.length + ys.length) c) (xs ++ ys) → Own w' base ov zs → Apart (.slice p (xs.length + ys.length) c) ov → (∀ w0, Lo w0 w → w0.heap.size = base → Lo w0 w') → wpList Try.prog ops Q rest (a.put o.dst (.slice p (xs.length + ys.length) c)) w') : wpList Try.prog ops Q (o :: rest) a w := by
  obtain ⟨i0, hi0, hz0, hz1, hz2⟩ := info_parts int_info
  rcases hr with ⟨_, _, _, _, rfl⟩ | ⟨b, off, cap, rfl, h2, h2b, h3, h4⟩
  · simp at hm
  · refine wpList_append_lies w hgd s x 37 ho base 3 i0 _ 1 8 Try.underlying37 hi0 hz0 hz1 hz2 rfl (by omega) v xs.length _ hs hown ⟨b, off, .none⟩ ys.length cap (ys.map (Value.int .i64)) hx (by simp) ?_ (ints_oneCell _ _) hm (by unfold maxLen; omega) (by omega) hbase _ rfl ?_
    · intro j u hj
      have hjl : j < ys.length := by
        rcases Nat.lt_or_ge j ys.length with hlt | hge
        · exact hlt
        · rw [List.getElem?_eq_none (by simpa using hge)] at hj; cases hj
      have := h4 j hjl
      have e1 : (⟨b, off, .none⟩ : Addr).add j = ⟨b, off + j, .none⟩ := by
        unfold Addr.add; split <;> simp_all
      rw [e1, this]
      simp [hjl] at hj
      simp [List.getD, hjl, hj]
    · intro g cap2 w' hown' hg hwhere _
      have hown2 : Own w' base (.slice (some ⟨g, 0, none⟩) (xs.length + ys.length) cap2) (xs ++ ys) := by
        unfold Own
        rw [List.length_append, List.map_append]
        exact hown'
      refine h _ _ w' hown2 (own_keep hoth hg hap) ?_ ?_
      · intro g' hg' ho'
        injection hg' with hg'
        subst hg'
        rcases hwhere with hw | hw
        · exact hap _ hw ho'
        · have hl : g < w.heap.size := own_lt hoth ho'
          omega
      · intro w0 hlo hb0
        exact Below.grown hlo hg hlo.size (fun k hk => by rw [hb0]; exact (World.ownsRow.lt hown k hk).1)
theorem own_lit (w : World) (z : Int) : Own (w.alloc (.cells #[.int .i64 z] 3)) w.heap.size (.slice (some ⟨w.heap.size, 0, none⟩) 1 1) [z] :=
  ⟨rfl, .inr ⟨w.heap.size, 1, #[.int .i64 z], rfl, Nat.le_refl _, new_block w _, Nat.le_refl _, by unfold maxLen; omega, rfl, rfl⟩⟩
/-- append of two numbers onto one of two rows, at a step of a region that draws. -/
theorem step_app2 {w : World} {ops : Array Oper} {o : Oper} {a : Act} {K : Act → World → Prop} {Q : Exit → Act → World → Prop} {E : Prop} (hgd : o.guard = none) (s x : Operand)
    (ho : o.op = .call { callee := .builtin .append, args := #[s, x], argTypes := #[37, 37] })
    (base : Nat) (v : Value) (xs : List Int) (hs : a.eval s = v) (hown : Own w base v xs) (ov : Value) (zs : List Int) (hoth : Own w base ov zs) (hap : Apart v ov) (X : Nat) (y z : Int) (hx : a.eval x = .slice (some ⟨X, 0, none⟩) 2 2)
    (h0 : w.cell? ⟨X, 0, none⟩ = some (.int .i64 y)) (h1 : w.cell? ⟨X, 1, none⟩ = some (.int .i64 z)) (hlen : xs.length + 2 ≤ 1000000) (hbase : base ≤ w.heap.size)
    (h : ∀ p c w', Own w' base (.slice p (xs.length + 2) c) (xs ++ [y, z]) → Own w' base ov zs → Apart (.slice p (xs.length + 2) c) ov → (∀ w0, Lo w0 w → w0.heap.size = base → Lo w0 w') → (∀ T, T < w.heap.size → v.ownBlock ≠ some T → w'.heap[T]? = w.heap[T]?) → w.heap.size ≤ w'.heap.size → K (a.put o.dst (.slice p (xs.length + 2) c)) w') :
    if Region.wanted o (yielded ops a.tmps) = true then Oper.wp Try.prog o a w K Q else E := by
  obtain ⟨i0, hi0, hz0, hz1, hz2⟩ := info_parts int_info
  refine step_append_lies w hgd s x 37 ho base 3 i0 _ 1 8 Try.underlying37 hi0 hz0 hz1 hz2 rfl (by omega) v xs.length _ hs hown ⟨X, 0, .none⟩ 2 2 [.int .i64 y, .int .i64 z] hx rfl ?_ ?_ (by omega) (by unfold maxLen; omega) (by omega) hbase _ rfl ?_
  · intro j u hj
    have e1 : (⟨X, 0, none⟩ : Addr).add j = ⟨X, j, none⟩ := by unfold Addr.add; split <;> simp_all
    rw [e1]
    match j, hj with
    | 0, hj => simp at hj; subst hj; exact h0
    | 1, hj => simp at hj; subst hj; exact h1
    | j + 2, hj => simp at hj
  · intro u hu
    simp only [List.mem_cons, List.not_mem_nil, or_false] at hu
    rcases hu with rfl | rfl <;> rfl
  · intro g cap2 w' hown' hg hwhere _
    have hown2 : Own w' base (.slice (some ⟨g, 0, none⟩) (xs.length + 2) cap2) (xs ++ [y, z]) := by
      unfold Own
      rw [List.length_append, List.map_append]
      exact hown'
    refine h _ _ w' hown2 (own_keep hoth hg hap) ?_ ?_ ?_ ?_
    · intro g' hg' ho'
      injection hg' with hg'
      subst hg'
      rcases hwhere with hw | hw
      · exact hap _ hw ho'
      · have hl : g < w.heap.size := own_lt hoth ho'
        omega
    · intro w0 hlo hb0
      exact Below.grown hlo hg hlo.size (fun k hk => by rw [hb0]; exact (World.ownsRow.lt hown k hk).1)
    · intro T hT hne
      exact hg.block T hT (fun e => hne e.symm)
    · exact hg.size
theorem own_old {w : World} {base : Nat} {v : Value} {l : List Int} (h : Own w base v l) {T : Nat} (hT : w.heap.size ≤ T) : v.ownBlock ≠ some T := fun e => by
  have := own_lt h e
  omega
end Go.Proofs.Ytjeahgdefdlabaa
