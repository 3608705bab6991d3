/-
  Slices of structs in memory, further: append of elements, with the blocks of other types as they were; a store into another block. Nothing of the program. No conditions beyond those stated.
-/
import Derived.Test.YtjeahgdefdlabaaGkCells
import Derived.Test.YtjeahgdefdlabaaGkBlock
import Derived.Sort.Row
namespace Go.Proofs.Ytjeahgdefdlabaa
open Go.RowKit
variable {α : Type}

theorem set_block {F ty : Nat} {x u : Value} {w : World} (h : w.heap[F]? = some (.cells #[x] ty (0, 0))) : (w.setCell ⟨F, 0, none⟩ u).heap[F]? = some (.cells #[u] ty (0, 0)) := by
  rw [Sort.setCell_eq]
  simp [Sort.mapBlock, Array.getElem?_modify, h, Sort.onCells]
theorem own_set {enc : α → List Value} {ty k ty2 F : Nat} {cs : Array Value} {w : World} {base : Nat} {v : Value} {l : List α} (h : OwnK enc ty k w base v l) (hF : w.heap[F]? = some (.cells cs ty2 (0, 0))) (hne : ty2 ≠ ty) (o : Nat) (u : Value) : OwnK enc ty k (w.setCell ⟨F, o, none⟩ u) base v l := by
  refine ⟨h.1, ?_⟩
  rcases h.2 with h2 | ⟨g, cap, cur, hv, hg, hh, r⟩
  · exact .inl h2
  · refine .inr ⟨g, cap, cur, hv, hg, ?_, r⟩
    have hgF : g ≠ F := by
      rintro rfl
      rw [hF] at hh
      injection hh with hh
      injection hh with _ hh _
      exact hne hh
    rw [Below.heap_setCell _ _ _ _ (by exact hgF)]; exact hh
theorem own_ne {enc : α → List Value} {ty k : Nat} {w : World} {base : Nat} {v : Value} {l : List α} (h : OwnK enc ty k w base v l) {T ty2 : Nat} {cs : Array Value} (hT : w.heap[T]? = some (.cells cs ty2 (0, 0))) (hne : ty2 ≠ ty) : v.ownBlock ≠ some T := by
  intro hc
  rcases h.2 with ⟨h1, _⟩ | ⟨g, cap, cur, hv, _, hh, _⟩
  · rw [h1] at hc; cases hc
  · rw [hv] at hc
    injection hc with hc
    subst hc
    rw [hT] at hh
    injection hh with hh
    injection hh with _ hh _
    exact hne hh
theorem own_fresh {enc : α → List Value} {ty k : Nat} {w : World} {base : Nat} {v : Value} {l : List α} (h : OwnK enc ty k w base v l) {T : Nat} (hT : w.heap.size ≤ T) : v.ownBlock ≠ some T := by
  intro hc
  rcases h.2 with ⟨h1, _⟩ | ⟨g, cap, cur, hv, _, hh, _⟩
  · rw [h1] at hc; cases hc
  · rw [hv] at hc
    injection hc with hc
    subst hc
    rw [Array.getElem?_eq_none hT] at hh
    cases hh
/-- A row of one's own stands where another one grows. -/
theorem own_other {β : Type} {enc : α → List Value} {enc2 : β → List Value} {ty k ty2 k2 : Nat} {w w' : World} {base base2 : Nat} {v v2 : Value} {l : List α} {l2 : List β} (h : OwnK enc ty k w base v l) (h2 : OwnK enc2 ty2 k2 w base2 v2 l2) (hne : ty2 ≠ ty) (hk : ∀ (T : Nat) (o : Obj), w.heap[T]? = some o → v.ownBlock ≠ some T → w'.heap[T]? = some o) : OwnK enc2 ty2 k2 w' base2 v2 l2 := by
  refine ⟨h2.1, ?_⟩
  rcases h2.2 with h3 | ⟨g, cap, cur, hv, hg, hh, r⟩
  · exact .inl h3
  · exact .inr ⟨g, cap, cur, hv, hg, hk g _ hh (own_ne h hh hne), r⟩
theorem grown_keep {w w' : World} {b : Option Nat} (hg : w.grownBy w' b) {T : Nat} {o : Obj} (hT : w.heap[T]? = some o) (hne : b ≠ some T) : w'.heap[T]? = some o := by
  have hlt : T < w.heap.size := by
    rcases Nat.lt_or_ge T w.heap.size with hlt | hge
    · exact hlt
    · rw [Array.getElem?_eq_none hge] at hT; cases hT
  rw [hg.block T hlt (fun h => hne h.symm)]; exact hT

/-- append of elements that lie somewhere in memory onto a slice of the call's own; blocks of other types stand. -/
theorem wpList_appK2 {enc : α → List Value} (w : World) {ops : Array Oper} {rest : List Oper} {o : Oper} {a : Act} {Q : Exit → Act → World → Prop} (hgd : o.guard = none) (s x : Operand) (t : TypeId)
    (ho : o.op = .call { callee := .builtin .append, args := #[s, x], argTypes := #[t, t] })
    (e : TypeId) (k bytes : Nat) (z : Value) (hu : Try.prog.underlying t = some (.slice e)) (hinfo : (Try.prog.info? e).map (fun i => (i.zero, i.size, i.bytes)) = some (some z, k, bytes)) (hzl : z.cells.size = k) (hby : bytes ≤ 100000) (hk0 : 0 < k)
    (hk : ∀ x, (enc x).length = k) (h1c : ∀ x, ∀ u ∈ enc x, u.oneCell' = true)
    (base : Nat) (v : Value) (xs : List α) (hs : a.eval s = v) (hown : OwnK enc e k w base v xs) (u : Value) (ys : List α) (hx : a.eval x = u) (hr : RowK enc k w u ys)
    (hlen : xs.length + ys.length ≤ 1000000) (hbase : base ≤ w.heap.size)
    (h : ∀ p c w', OwnK enc e k w' base (.slice p (xs.length + ys.length) c) (xs ++ ys) → (∀ w0, Lo w0 w → w0.heap.size ≤ base → Lo w0 w') → (∀ (T : Nat) (o : Obj), w.heap[T]? = some o → v.ownBlock ≠ some T → w'.heap[T]? = some o) → wpList Try.prog ops Q rest (a.put o.dst (.slice p (xs.length + ys.length) c)) w') : wpList Try.prog ops Q (o :: rest) a w := by
  obtain ⟨i0, hi0, hz0, hz1, hz2⟩ := info_parts hinfo
  have hbb : (xs.length + ys.length) * bytes ≤ 1000000 * 100000 := Nat.mul_le_mul hlen hby
  have fin : ∀ (v' : Value) (w' : World), w'.ownsRow base e k v' (xs.length + ys.length) (xs.flatMap enc ++ ys.flatMap enc) → (∀ w0, Lo w0 w → w0.heap.size ≤ base → Lo w0 w') → (∀ (T : Nat) (o : Obj), w.heap[T]? = some o → v.ownBlock ≠ some T → w'.heap[T]? = some o) → wpList Try.prog ops Q rest (a.put o.dst v') w' := by
    intro v' w' hown' hlo hkp
    have hown2 : OwnK enc e k w' base v' (xs ++ ys) := by
      unfold OwnK
      rw [List.length_append, List.flatMap_append]
      exact hown'
    obtain ⟨p, c, hv⟩ := hown2.form
    rw [List.length_append] at hv
    subst hv
    exact h p c w' hown2 hlo hkp
  rcases hr with ⟨p0, c0, rfl, h0, rfl⟩ | ⟨b, off, cap, rfl, h2, h2b, h3, h4⟩
  · cases p0 with
    | some x0 =>
      refine wpList_append_own w hgd s x t ho base e i0 z k bytes hu hi0 hz0 hz1 hz2 hzl hk0 v xs.length _ hs hown x0 0 c0 [] hx (by simp) (by simp) (by simp) (by unfold maxLen; omega) (by simp at hbb ⊢; omega) hbase ?_
      intro v' w' hown' hg _
      exact fin v' w' (by simpa using hown') (fun w0 hlo hb0 => Below.grown hlo hg hlo.size (fun k hk => by have := (hown.lt k hk).1; omega)) (fun T o hT hne => grown_keep hg hT hne)
    | none =>
      obtain rfl := h0 rfl
      refine wpList_append_own_none hgd s x t ho base e i0 k hu hi0 v xs.length _ hs hown hx ?_
      exact fin v w (by simpa [OwnK] using hown) (fun _ k _ => k) (fun _ _ hT _ => hT)
  · refine wpList_append_own w hgd s x t ho base e i0 z k bytes hu hi0 hz0 hz1 hz2 hzl hk0 v xs.length _ hs hown ⟨b, off, .none⟩ ys.length cap (ys.flatMap enc) hx (flat_len enc k hk ys) ?_ ?_ (by unfold maxLen; omega) (by omega) hbase ?_
    · intro j u hj
      have hjl : j < (ys.flatMap enc).length := (List.getElem?_eq_some_iff.1 hj).1
      rw [flat_len enc k hk] at hjl
      have hdiv : j / k < ys.length := Nat.div_lt_of_lt_mul (by rw [Nat.mul_comm]; exact hjl)
      have hmod : j % k < k := Nat.mod_lt _ hk0
      have hdm : j / k * k + j % k = j := by rw [Nat.mul_comm]; exact Nat.div_add_mod j k
      have hy : ys[j / k]? = some ys[j / k] := List.getElem?_eq_getElem hdiv
      have hf := flat_at enc k hk ys (j / k) _ (j % k) hy hmod
      have hc := h4 (j / k) _ hy (j % k) hmod
      have e1 : (⟨b, off, .none⟩ : Addr).add j = ⟨b, off + j, .none⟩ := by
        unfold Addr.add; split <;> simp_all
      have e2 : off + j = off + j / k * k + j % k := by omega
      rw [e1, e2, hc, ← hf, hdm, hj]
    · intro u hu
      obtain ⟨y, _, hy⟩ := List.mem_flatMap.1 hu
      exact h1c y u hy
    · intro v' w' hown' hg _
      exact fin v' w' hown' (fun w0 hlo hb0 => Below.grown hlo hg hlo.size (fun k hk => by have := (hown.lt k hk).1; omega)) (fun T o hT hne => grown_keep hg hT hne)
end Go.Proofs.Ytjeahgdefdlabaa
