/-
  Slices of structs in memory: a slice whose elements lie in k cells each reads as a list (RowK); one that the call itself owns (OwnK); make, and append of one element. Nothing of the program. No conditions beyond those stated.
-/
import Derived.Test.YtjeahgdefdlabaaGkRows
namespace Go.Proofs.Ytjeahgdefdlabaa
open Go.RowKit
variable {α : Type}

/-- The slice v reads as the elements l, each of which lies in k cells. -/
def RowK (enc : α → List Value) (k : Nat) (w : World) (v : Value) (l : List α) : Prop :=
  (∃ p c, v = .slice p 0 c ∧ (p = none → c = 0) ∧ l = []) ∨
  ∃ b off cap, v = .slice (some ⟨b, off, none⟩) l.length cap ∧ l.length ≤ 9223372036854775807 ∧ l.length ≤ cap ∧ b < w.heap.size ∧
    ∀ i x, l[i]? = some x → ∀ j, j < k → w.cell? ⟨b, off + i * k + j, none⟩ = (enc x)[j]?

theorem RowK.lo {enc : α → List Value} {k : Nat} {w w' : World} {v : Value} {l : List α} (h : RowK enc k w v l) (hl : Lo w w') : RowK enc k w' v l := by
  rcases h with h | ⟨b, off, cap, h1, h2, h2b, h3, h4⟩
  · exact .inl h
  · exact .inr ⟨b, off, cap, h1, h2, h2b, Nat.lt_of_lt_of_le h3 hl.size, fun i x hx j hj => by rw [hl.cell h3]; exact h4 i x hx j hj⟩
theorem RowK.form {enc : α → List Value} {k : Nat} {w : World} {v : Value} {l : List α} (h : RowK enc k w v l) : ∃ p c, v = .slice p l.length c ∧ l.length ≤ 9223372036854775807 := by
  rcases h with ⟨p, c, rfl, _, rfl⟩ | ⟨b, off, cap, rfl, h2, h2b, h3, h4⟩
  · exact ⟨_, _, rfl, by simp⟩
  · exact ⟨_, _, rfl, h2⟩
theorem RowK.at_ {enc : α → List Value} {k : Nat} {w : World} {p : Option Addr} {n c : Nat} {l : List α} (h : RowK enc k w (.slice p n c) l) {i : Nat} {x : α} (hx : l[i]? = some x) :
    ∃ b off, p = some ⟨b, off, none⟩ ∧ ∀ j, j < k → w.cell? ⟨b, off + i * k + j, none⟩ = (enc x)[j]? := by
  rcases h with ⟨_, _, h1, _, rfl⟩ | ⟨b, off, cap, h1, h2, h2b, h3, h4⟩
  · simp at hx
  · injection h1 with hp hn _
    exact ⟨b, off, hp, h4 i x hx⟩
theorem RowK.nil (enc : α → List Value) (k : Nat) (w : World) : RowK enc k w (.slice none 0 0) [] := .inl ⟨_, _, rfl, fun _ => rfl, rfl⟩

theorem flat_len (enc : α → List Value) (k : Nat) (hk : ∀ x, (enc x).length = k) : ∀ l : List α, (l.flatMap enc).length = l.length * k
  | [] => by simp
  | x :: r => by rw [List.flatMap_cons, List.length_append, hk, flat_len enc k hk r, List.length_cons, Nat.add_mul]; omega
theorem flat_at (enc : α → List Value) (k : Nat) (hk : ∀ x, (enc x).length = k) : ∀ (l : List α) (i : Nat) (x : α) (j : Nat), l[i]? = some x → j < k → (l.flatMap enc)[i * k + j]? = (enc x)[j]?
  | [], i, x, j, h, _ => by simp at h
  | y :: r, 0, x, j, h, hj => by
    simp at h; subst h
    rw [List.flatMap_cons, Nat.zero_mul, Nat.zero_add, List.getElem?_append_left (by rw [hk]; exact hj)]
  | y :: r, i + 1, x, j, h, hj => by
    rw [List.flatMap_cons, List.getElem?_append_right (by rw [hk, Nat.add_mul]; omega), hk, show (i + 1) * k + j - k = i * k + j by rw [Nat.add_mul]; omega]
    exact flat_at enc k hk r i x j (by simpa using h) hj

/-- The slice v, of the call's own blocks (from base on), holds the elements l. -/
def OwnK (enc : α → List Value) (ty k : Nat) (w : World) (base : Nat) (v : Value) (l : List α) : Prop := w.ownsRow base ty k v l.length (l.flatMap enc)

theorem OwnK.none (enc : α → List Value) (ty k : Nat) (w : World) (base : Nat) : OwnK enc ty k w base (.slice none 0 0) [] := World.ownsRow_nil w base _ _
theorem own_lo {ty k : Nat} {w w' : World} {base : Nat} {v : Value} {n : Nat} {xs : List Value} (h : w.ownsRow base ty k v n xs) (l : Lo w w') : w'.ownsRow base ty k v n xs := by
  refine ⟨h.1, ?_⟩
  rcases h.2 with h2 | ⟨g, cap, cur, hv, hg, hh, r⟩
  · exact .inl h2
  · refine .inr ⟨g, cap, cur, hv, hg, ?_, r⟩
    have hlt : g < w.heap.size := by
      rcases Nat.lt_or_ge g w.heap.size with hlt | hge
      · exact hlt
      · rw [Array.getElem?_eq_none hge] at hh; cases hh
    rw [l.block g hlt]; exact hh
theorem OwnK.lo {enc : α → List Value} {ty k : Nat} {w w' : World} {base : Nat} {v : Value} {l : List α} (h : OwnK enc ty k w base v l) (hl : Lo w w') : OwnK enc ty k w' base v l := own_lo h hl
theorem OwnK.form {enc : α → List Value} {ty k : Nat} {w : World} {base : Nat} {v : Value} {l : List α} (h : OwnK enc ty k w base v l) : ∃ p c, v = .slice p l.length c := by
  rcases h.2 with ⟨rfl, hn⟩ | ⟨g, cap, cur, rfl, _⟩
  · exact ⟨_, _, by rw [hn]⟩
  · exact ⟨_, _, rfl⟩
theorem OwnK.mono {enc : α → List Value} {ty k : Nat} {w : World} {base base' : Nat} {v : Value} {l : List α} (h : OwnK enc ty k w base v l) (hb : base' ≤ base) : OwnK enc ty k w base' v l := by
  refine ⟨h.1, ?_⟩
  rcases h.2 with h2 | ⟨g, cap, cur, hv, hg, r⟩
  · exact .inl h2
  · exact .inr ⟨g, cap, cur, hv, by omega, r⟩
/-- A cell of another block is set: what is owned stays. -/
theorem OwnK.block_ne {enc : α → List Value} {ty k : Nat} {w : World} {base : Nat} {v : Value} {l : List α} (h : OwnK enc ty k w base v l) {p : Addr} (hp : p.block < base) (u : Value) : OwnK enc ty k (w.setCell p u) base v l := by
  refine ⟨h.1, ?_⟩
  rcases h.2 with h2 | ⟨g, cap, cur, hv, hg, hh, r⟩
  · exact .inl h2
  · refine .inr ⟨g, cap, cur, hv, hg, ?_, r⟩
    rw [Below.heap_setCell _ _ _ _ (by omega)]; exact hh
theorem OwnK.row {enc : α → List Value} {ty k : Nat} (hk : ∀ x, (enc x).length = k) {w : World} {base : Nat} {v : Value} {l : List α} (h : OwnK enc ty k w base v l) : RowK enc k w v l := by
  rcases h.2 with ⟨rfl, hn⟩ | ⟨g, cap, cur, rfl, hg, hh, hnc, hcm, hcs, ht⟩
  · exact .inl ⟨_, _, rfl, fun _ => rfl, List.eq_nil_of_length_eq_zero hn⟩
  · have hlt : g < w.heap.size := by
      rcases Nat.lt_or_ge g w.heap.size with hlt | hge
      · exact hlt
      · rw [Array.getElem?_eq_none hge] at hh; cases hh
    refine .inr ⟨g, 0, cap, rfl, by unfold maxLen at hcm; omega, hnc, hlt, fun i x hx j hj => ?_⟩
    have hi : i < l.length := (List.getElem?_eq_some_iff.1 hx).1
    have hb : i * k + j < l.length * k := by
      have : (i + 1) * k ≤ l.length * k := Nat.mul_le_mul_right _ hi
      rw [Nat.add_mul] at this; omega
    have hc := h.cellAt (g := g) (cap := cap) (i * k + j) (by omega)
    rw [Nat.zero_add, hc]
    exact flat_at enc k hk l i x j hx hj

/-- make([]T, 0, n). -/
theorem wpList_mkK {enc : α → List Value} (w : World) {ops : Array Oper} {rest : List Oper} {o : Oper} {a : Act} {Q : Exit → Act → World → Prop} (hgd : o.guard = none) (l c : Operand) (t : TypeId)
    (hop : o.op = Op.makeSlice t l c) (e : TypeId) (k bytes : Nat) (z : Value) (hu : Try.prog.underlying t = some (.slice e)) (hinfo : (Try.prog.info? e).map (fun i => (i.zero, i.size, i.bytes)) = some (some z, k, bytes)) (hby : bytes ≤ 100000)
    (base : Nat) (C : Int) (n : Nat) (hl : a.eval l = .int .i64 0) (hc : a.eval c = .int .i64 C) (hC : C = (n : Int)) (hn : n ≤ 1000000) (hbase : base ≤ w.heap.size)
    (h : ∀ p c w', OwnK enc e k w' base (.slice p 0 c) [] → Lo w w' → wpList Try.prog ops Q rest (a.put o.dst (.slice p 0 c)) w') : wpList Try.prog ops Q (o :: rest) a w := by
  obtain ⟨i0, hi0, hz0, hz1, hz2⟩ := info_parts hinfo
  refine wpList_make_own w hgd l c t hop base e i0 _ k hu hi0 hz0 hz1 .i64 .i64 C n hl hc hC ?_ (by unfold maxLen; omega) hbase ?_
  · rw [hz2]
    exact Nat.le_trans (Nat.mul_le_mul hby hn) (by omega)
  intro w' hown hg
  refine h _ _ w' hown ?_
  exact Below.grown (Lo.refl w) hg (Nat.le_refl _) (fun k hk => by cases hk)

/-- append of elements that lie somewhere in memory onto a slice of the call's own. -/
theorem wpList_appK {enc : α → List Value} (w : World) {ops : Array Oper} {rest : List Oper} {o : Oper} {a : Act} {Q : Exit → Act → World → Prop} (hgd : o.guard = none) (s x : Operand) (t : TypeId)
    (ho : o.op = .call { callee := .builtin .append, args := #[s, x], argTypes := #[t, t] })
    (e : TypeId) (k bytes : Nat) (z : Value) (hu : Try.prog.underlying t = some (.slice e)) (hinfo : (Try.prog.info? e).map (fun i => (i.zero, i.size, i.bytes)) = some (some z, k, bytes)) (hzl : z.cells.size = k) (hby : bytes ≤ 100000) (hk0 : 0 < k)
    (hk : ∀ x, (enc x).length = k) (h1c : ∀ x, ∀ u ∈ enc x, u.oneCell' = true)
    (base : Nat) (v : Value) (xs : List α) (hs : a.eval s = v) (hown : OwnK enc e k w base v xs) (u : Value) (ys : List α) (hx : a.eval x = u) (hr : RowK enc k w u ys)
    (hlen : xs.length + ys.length ≤ 1000000) (hbase : base ≤ w.heap.size)
    (h : ∀ p c w', OwnK enc e k w' base (.slice p (xs.length + ys.length) c) (xs ++ ys) → (∀ w0, Lo w0 w → w0.heap.size ≤ base → Lo w0 w') → wpList Try.prog ops Q rest (a.put o.dst (.slice p (xs.length + ys.length) c)) w') : wpList Try.prog ops Q (o :: rest) a w := by
  obtain ⟨i0, hi0, hz0, hz1, hz2⟩ := info_parts hinfo
  have hbb : (xs.length + ys.length) * bytes ≤ 1000000 * 100000 := Nat.mul_le_mul hlen hby
  have fin : ∀ (v' : Value) (w' : World), w'.ownsRow base e k v' (xs.length + ys.length) (xs.flatMap enc ++ ys.flatMap enc) → (∀ w0, Lo w0 w → w0.heap.size ≤ base → Lo w0 w') → wpList Try.prog ops Q rest (a.put o.dst v') w' := by
    intro v' w' hown' hlo
    have hown2 : OwnK enc e k w' base v' (xs ++ ys) := by
      unfold OwnK
      rw [List.length_append, List.flatMap_append]
      exact hown'
    obtain ⟨p, c, hv⟩ := hown2.form
    rw [List.length_append] at hv
    subst hv
    exact h p c w' hown2 hlo
  rcases hr with ⟨p0, c0, rfl, h0, rfl⟩ | ⟨b, off, cap, rfl, h2, h2b, h3, h4⟩
  · cases p0 with
    | some x0 =>
      refine wpList_append_own w hgd s x t ho base e i0 z k bytes hu hi0 hz0 hz1 hz2 hzl hk0 v xs.length _ hs hown x0 0 c0 [] hx (by simp) (by simp) (by simp) (by unfold maxLen; omega) (by simp at hbb ⊢; omega) hbase ?_
      intro v' w' hown' hg _
      exact fin v' w' (by simpa using hown') (fun w0 hlo hb0 => Below.grown hlo hg hlo.size (fun k hk => by have := (hown.lt k hk).1; omega))
    | none =>
      obtain rfl := h0 rfl
      refine wpList_append_own_none hgd s x t ho base e i0 k hu hi0 v xs.length _ hs hown hx ?_
      exact fin v w (by simpa [OwnK] using hown) (fun _ k _ => k)
  · refine wpList_append_own w hgd s x t ho base e i0 z k bytes hu hi0 hz0 hz1 hz2 hzl hk0 v xs.length _ hs hown ⟨b, off, .none⟩ ys.length cap (ys.flatMap enc) hx (flat_len enc k hk ys) ?_ ?_ (by unfold maxLen; omega) (by omega) hbase ?_
    · intro j u hj
      have hjl : j < (ys.flatMap enc).length := (List.getElem?_eq_some_iff.1 hj).1
      rw [flat_len enc k hk] at hjl
      have hdiv : j / k < ys.length := Nat.div_lt_of_lt_mul (by rw [Nat.mul_comm]; exact hjl)
      have hmod : j % k < k := Nat.mod_lt _ hk0
      have hdm : j / k * k + j % k = j := by rw [Nat.mul_comm]; exact Nat.div_add_mod j k
      have hy : ys[j / k]? = some ys[j / k] := List.getElem?_eq_getElem hdiv
      have hf := flat_at enc k hk ys (j / k) _ (j % k) hy hmod
      have hc := h4 (j / k) _ hy (j % k) hmod
      have e1 : (⟨b, off, .none⟩ : Addr).add j = ⟨b, off + j, .none⟩ := by
        unfold Addr.add; split <;> simp_all
      have e2 : off + j = off + j / k * k + j % k := by omega
      rw [e1, e2, hc, ← hf, hdm, hj]
    · intro u hu
      obtain ⟨y, _, hy⟩ := List.mem_flatMap.1 hu
      exact h1c y u hy
    · intro v' w' hown' hg _
      exact fin v' w' hown' (fun w0 hlo hb0 => Below.grown hlo hg hlo.size (fun k hk => by have := (hown.lt k hk).1; omega))
end Go.Proofs.Ytjeahgdefdlabaa
