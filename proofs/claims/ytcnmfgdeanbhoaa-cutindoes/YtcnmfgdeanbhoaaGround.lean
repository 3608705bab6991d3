/-
  Facts that the walks rest on: GkLo, GkRows, GkCells, GkBlock, GkCells2, GkBytes. No conditions beyond those stated.
-/
import Derived.Test.YtcnmfgdeanbhoaaRows
import Derived.WalkKit
import Derived.WalkSpells
import Derived.WalkLawsBesides
import Derived.Defers
import Derived.Recover
import Derived.IntWalk
import Derived.Sort.Grow
import Derived.Lib.Hide
import Derived.Deep.QuietTactic
import Derived.BigQuiet
import Derived.Deep.DeepCutAuto
import Derived.OwnWalk
import Derived.Deep.AppendLies
import Derived.Deep.RegionLaw
import Derived.Laws.AppendOwnNone
import Derived.ProofKit
import Derived.Sort.Row
import Derived.Lib.ConvBytes
import Derived.Laws.IdiomStrings
import Derived.Laws.Concat
/-
  Of what was there nothing has turned (Lo); a slice of ints in memory that reads as a list (Row); small endings. Nothing of the program but its types. No conditions.
-/
namespace Go.Proofs.Ytcnmfgdeanbhoaa
open Go.RowKit

/-- Of what was there nothing has turned. A plain def, closed to the walk. -/
def Lo (w w' : World) : Prop := Below w.heap.size w w'
theorem Lo.refl (w : World) : Lo w w := Below.refl _ _
theorem Lo.trans {a b c : World} (h : Lo a b) (k : Lo b c) : Lo a c := Below.trans h (Below.mono k h.size)
theorem Lo.alloc {a b : World} (h : Lo a b) (o : Obj) : Lo a (b.alloc o) := Below.alloc h h.size o
theorem Lo.drew {a b : World} (h : Lo a b) : Lo a b.drew := Below.drew h
theorem Lo.set {a b : World} (h : Lo a b) {p : Addr} (hp : a.heap.size ≤ p.block) (u : Value) : Lo a (b.setCell p u) := Below.setCell h hp u
theorem Lo.cell {w w' : World} (h : Lo w w') {b o : Nat} (hb : b < w.heap.size) : w'.cell? ⟨b, o, none⟩ = w.cell? ⟨b, o, none⟩ := Below.cell (p := ⟨b, o, none⟩) h hb
theorem Lo.frozen {w w' : World} (h : Lo w w') {b o : Nat} (hb : b < w.heap.size) : w'.frozen? ⟨b, o, none⟩ = w.frozen? ⟨b, o, none⟩ := Below.frozen (p := ⟨b, o, none⟩) h hb

/-- The slice v reads as the numbers l. -/
def Row (w : World) (v : Value) (l : List Int) : Prop :=
  (∃ p c, v = .slice p 0 c ∧ (p = none → c = 0) ∧ l = []) ∨
  ∃ b off cap, v = .slice (some ⟨b, off, none⟩) l.length cap ∧ l.length ≤ 9223372036854775807 ∧ l.length ≤ cap ∧ b < w.heap.size ∧ ∀ i, i < l.length → w.cell? ⟨b, off + i, none⟩ = some (.int .i64 (l.getD i 0))

theorem Row.lo {w w' : World} {v : Value} {l : List Int} (h : Row w v l) (hl : Lo w w') : Row w' v l := by
  rcases h with h | ⟨b, off, cap, h1, h2, h2b, h3, h4⟩
  · exact .inl h
  · exact .inr ⟨b, off, cap, h1, h2, h2b, Nat.lt_of_lt_of_le h3 hl.size, fun i hi => by rw [hl.cell h3]; exact h4 i hi⟩

theorem ret_bool {a b : Bool} (h : a = b) : Ending.returned (.bool a) = .returned (.bool b) := by rw [h]
theorem ret_int {k : IntKind} {a b : Int} (h : a = b) : Ending.returned (.int k a) = .returned (.int k b) := by rw [h]

theorem row1 (w : World) (B : Nat) (hB : B = w.heap.size) (a : Int) : Row (w.alloc (.cells #[.int .i64 a] 3)) (.slice (some ⟨B, 0, none⟩) 1 1) [a] :=
  hB ▸ .inr ⟨w.heap.size, 0, 1, rfl, by simp, by simp, by simp, fun i hi => by
    obtain rfl : i = 0 := by simp at hi; omega
    simp [go_sem]⟩
theorem row2 (w : World) (B : Nat) (hB : B = w.heap.size) (a b : Int) : Row (w.alloc (.cells #[.int .i64 a, .int .i64 b] 3)) (.slice (some ⟨B, 0, none⟩) 2 2) [a, b] :=
  hB ▸ .inr ⟨w.heap.size, 0, 2, rfl, by simp, by simp, by simp, fun i hi => by
    obtain rfl | rfl : i = 0 ∨ i = 1 := by simp at hi; omega
    all_goals simp [go_sem]⟩
theorem row3 (w : World) (B : Nat) (hB : B = w.heap.size) (a b c : Int) : Row (w.alloc (.cells #[.int .i64 a, .int .i64 b, .int .i64 c] 3)) (.slice (some ⟨B, 0, none⟩) 3 3) [a, b, c] :=
  hB ▸ .inr ⟨w.heap.size, 0, 3, rfl, by simp, by simp, by simp, fun i hi => by
    obtain rfl | rfl | rfl : i = 0 ∨ i = 1 ∨ i = 2 := by simp at hi; omega
    all_goals simp [go_sem]⟩
theorem row4 (w : World) (B : Nat) (hB : B = w.heap.size) (a b c d : Int) : Row (w.alloc (.cells #[.int .i64 a, .int .i64 b, .int .i64 c, .int .i64 d] 3)) (.slice (some ⟨B, 0, none⟩) 4 4) [a, b, c, d] :=
  hB ▸ .inr ⟨w.heap.size, 0, 4, rfl, by simp, by simp, by simp, fun i hi => by
    obtain rfl | rfl | rfl | rfl : i = 0 ∨ i = 1 ∨ i = 2 ∨ i = 3 := by simp at hi; omega
    all_goals simp [go_sem]⟩

theorem Lo.drewN {a b : World} (h : Lo a b) (k : Nat) : Lo a (b.drewN k) := by
  unfold Lo; exact Below.trans h ⟨rfl, rfl, rfl, Nat.le_refl _, fun _ _ => rfl⟩
theorem grow_lo (w : World) (k : Nat) (os : Array Obj) : Lo w (Sort.grow (w.drewN k) os) := by
  refine ((Lo.refl w).drewN k).trans ⟨rfl, rfl, rfl, ?_, fun j hj => ?_⟩
  · simp [Sort.grow]
  · simp only [Sort.grow]; exact Array.getElem?_append_left hj

theorem wrap_id {n : Int} (h1 : -9223372036854775808 ≤ n) (h2 : n ≤ 9223372036854775807) : wrap64 n = n := by unfold wrap64; omega

theorem ret_float {a b : Nat} (h : a = b) : Ending.returned (.float .f64 a) = .returned (.float .f64 b) := by rw [h]

theorem ret_pair {a b c d : Int} (h : a = c) (k : b = d) : Ending.returned (.tuple #[.int .i64 a, .int .i64 b]) = .returned (.tuple #[.int .i64 c, .int .i64 d]) := by rw [h, k]

end Go.Proofs.Ytcnmfgdeanbhoaa
/-
  Slices of ints in memory: one that the call itself owns reads as its numbers; append onto such a one, whatever the source; make. Nothing of the program but its types. No conditions beyond those stated.
-/
namespace Go.Proofs.Ytcnmfgdeanbhoaa
open Go.RowKit

/-- The slice v, of the call's own blocks (from base on), holds the numbers l. -/
def Own (w : World) (base : Nat) (v : Value) (l : List Int) : Prop := w.ownsRow base 3 1 v l.length (l.map (Value.int .i64))

theorem Own.none (w : World) (base : Nat) : Own w base (.slice none 0 0) [] := World.ownsRow_nil w base _ _

theorem Own.lo {w w' : World} {base : Nat} {v : Value} {l : List Int} (h : Own w base v l) (k : Lo w w') : Own w' base v l := by
  refine ⟨h.1, ?_⟩
  rcases h.2 with h2 | ⟨g, cap, cur, hv, hg, hh, r⟩
  · exact .inl h2
  · refine .inr ⟨g, cap, cur, hv, hg, ?_, r⟩
    have hlt : g < w.heap.size := by
      rcases Nat.lt_or_ge g w.heap.size with hlt | hge
      · exact hlt
      · rw [Array.getElem?_eq_none hge] at hh; cases hh
    rw [k.block g hlt]; exact hh

theorem Own.row {w : World} {base : Nat} {v : Value} {l : List Int} (h : Own w base v l) : Row w v l := by
  rcases h.2 with ⟨rfl, hn⟩ | ⟨g, cap, cur, rfl, hg, hh, hnc, hcm, hcs, ht⟩
  · exact .inl ⟨_, _, rfl, fun _ => rfl, List.eq_nil_of_length_eq_zero hn⟩
  · have hlt : g < w.heap.size := by
      rcases Nat.lt_or_ge g w.heap.size with hlt | hge
      · exact hlt
      · rw [Array.getElem?_eq_none hge] at hh; cases hh
    refine .inr ⟨g, 0, cap, rfl, by unfold maxLen at hcm; omega, hnc, hlt, fun i hi => ?_⟩
    have hc := h.cellAt (g := g) (cap := cap) i (by omega)
    rw [Nat.zero_add, hc]
    simp [hi, List.getD]

theorem int_info : (Try.prog.info? 3).map (fun i => (i.zero, i.size, i.bytes)) = some (some (.int .i64 0), 1, 8) := by kernel_rfl

/-- append onto a slice of the call's own, from whatever slice that reads as ys. -/
theorem wpList_app (w : World) {ops : Array Oper} {rest : List Oper} {o : Oper} {a : Act} {Q : Exit → Act → World → Prop} (hgd : o.guard = .none) (s x : Operand)
    (ho : o.op = .call { callee := .builtin .append, args := #[s, x], argTypes := #[33, 33] })
    (base : Nat) (v : Value) (xs : List Int) (hs : a.eval s = v) (hown : Own w base v xs) (u : Value) (ys : List Int) (hx : a.eval x = u) (hr : Row w u ys)
    (hlen : xs.length + ys.length ≤ 1000000) (hbase : base ≤ w.heap.size)
    (h : ∀ p c w', Own w' base (.slice p (xs.length + ys.length) c) (xs ++ ys) → (∀ w0, Lo w0 w → w0.heap.size = base → Lo w0 w') → wpList Try.prog ops Q rest (a.put o.dst (.slice p (xs.length + ys.length) c)) w') : wpList Try.prog ops Q (o :: rest) a w := by
  obtain ⟨i0, hi0, hz0, hz1, hz2⟩ : ∃ i, Try.prog.info? 3 = some i ∧ i.zero = some (.int .i64 0) ∧ i.size = 1 ∧ i.bytes = 8 := by
    have h := int_info
    cases e : Try.prog.info? 3 with
    | none => rw [e] at h; cases h
    | some i =>
      rw [e] at h
      simp only [Option.map_some, Option.some.injEq, Prod.mk.injEq] at h
      exact ⟨i, rfl, h.1, h.2.1, h.2.2⟩
  have hform : ∀ {w' : World} {v' : Value} {l : List Int}, Own w' base v' l → ∃ p c, v' = .slice p l.length c := by
    intro w' v' l ho
    rcases ho.2 with ⟨rfl, hn⟩ | ⟨g, cap, cur, rfl, _⟩
    · exact ⟨_, _, by rw [hn]⟩
    · exact ⟨_, _, rfl⟩
  rcases hr with ⟨p0, c0, rfl, h0, rfl⟩ | ⟨b, off, cap, rfl, h2, h2b, h3, h4⟩
  · cases p0 with
    | some x0 =>
      refine wpList_append_own w hgd s x 33 ho base 3 i0 _ 1 8 Try.underlying33 hi0 hz0 hz1 hz2 rfl (by omega) v xs.length _ hs hown x0 0 c0 [] hx (by simp) (by simp) (by simp) ?_ ?_ hbase ?_
      · unfold maxLen; omega
      · omega
      · intro v' w' hown' hg _
        have hown2 : Own w' base v' (xs ++ []) := by
          unfold Own
          rw [List.length_append, List.map_append]
          exact hown'
        obtain ⟨p, c, hv⟩ := hform hown2
        rw [List.length_append] at hv
        subst hv
        refine h p c w' hown2 ?_
        intro w0 hlo hb0
        exact Below.grown hlo hg hlo.size (fun k hk => by rw [hb0]; exact (hown.lt k hk).1)
    | none =>
    obtain rfl := h0 rfl
    refine wpList_append_own_none hgd s x 33 ho base 3 i0 1 Try.underlying33 hi0 v xs.length _ hs hown hx ?_
    obtain ⟨p, c, rfl⟩ := hform hown
    exact h p c w (by simpa using hown) (fun _ k _ => k)
  · refine wpList_append_own w hgd s x 33 ho base 3 i0 _ 1 8 Try.underlying33 hi0 hz0 hz1 hz2 rfl (by omega) v xs.length _ hs hown ⟨b, off, .none⟩ ys.length cap (ys.map (Value.int .i64)) hx (by simp) ?_ ?_ ?_ ?_ hbase ?_
    · intro j u hj
      have hjl : j < ys.length := by
        rcases Nat.lt_or_ge j ys.length with hlt | hge
        · exact hlt
        · rw [List.getElem?_eq_none (by simpa using hge)] at hj; cases hj
      have := h4 j hjl
      have e1 : (⟨b, off, .none⟩ : Addr).add j = ⟨b, off + j, .none⟩ := by
        unfold Addr.add; split <;> simp_all
      rw [e1, this]
      simp [hjl] at hj
      simp [List.getD, hjl, hj]
    · intro u hu
      simp only [List.mem_map] at hu
      obtain ⟨n, _, rfl⟩ := hu
      rfl
    · unfold maxLen; omega
    · omega
    · intro v' w' hown' hg _
      have hown2 : Own w' base v' (xs ++ ys) := by
        unfold Own
        rw [List.length_append, List.map_append]
        exact hown'
      obtain ⟨p, c, hv⟩ := hform hown2
      rw [List.length_append] at hv
      subst hv
      refine h p c w' hown2 ?_
      intro w0 hlo hb0
      exact Below.grown hlo hg hlo.size (fun k hk => by rw [hb0]; exact (hown.lt k hk).1)

theorem Own.set {w : World} {base : Nat} {v : Value} {l : List Int} (h : Own w base v l) {p : Addr} (hp : p.block < base) (u : Value) : Own (w.setCell p u) base v l := by
  refine ⟨h.1, ?_⟩
  rcases h.2 with h2 | ⟨g, cap, cur, hv, hg, hh, r⟩
  · exact .inl h2
  · refine .inr ⟨g, cap, cur, hv, hg, ?_, r⟩
    rw [Below.heap_setCell _ _ _ _ (by omega)]; exact hh
theorem Own.form {w : World} {base : Nat} {v : Value} {l : List Int} (h : Own w base v l) : ∃ p c, v = .slice p l.length c := by
  rcases h.2 with ⟨rfl, hn⟩ | ⟨g, cap, cur, rfl, _⟩
  · exact ⟨_, _, by rw [hn]⟩
  · exact ⟨_, _, rfl⟩
theorem Own.mono {w : World} {base base' : Nat} {v : Value} {l : List Int} (h : Own w base v l) (hb : base' ≤ base) : Own w base' v l := by
  refine ⟨h.1, ?_⟩
  rcases h.2 with h2 | ⟨g, cap, cur, hv, hg, r⟩
  · exact .inl h2
  · exact .inr ⟨g, cap, cur, hv, by omega, r⟩

/-- make([]int, 0, n). -/
theorem wpList_mk (w : World) {ops : Array Oper} {rest : List Oper} {o : Oper} {a : Act} {Q : Exit → Act → World → Prop} (hgd : o.guard = none) (l c : Operand)
    (hop : o.op = Op.makeSlice 33 l c) (base : Nat) (C : Int) (n : Nat) (hl : a.eval l = .int .i64 0) (hc : a.eval c = .int .i64 C) (hC : C = (n : Int)) (hn : n ≤ 1000000) (hbase : base ≤ w.heap.size)
    (h : ∀ p c w', Own w' base (.slice p 0 c) [] → Lo w w' → wpList Try.prog ops Q rest (a.put o.dst (.slice p 0 c)) w') : wpList Try.prog ops Q (o :: rest) a w := by
  obtain ⟨i0, hi0, hz0, hz1, hz2⟩ : ∃ i, Try.prog.info? 3 = some i ∧ i.zero = some (.int .i64 0) ∧ i.size = 1 ∧ i.bytes = 8 := by
    have h := int_info
    cases e : Try.prog.info? 3 with
    | none => rw [e] at h; cases h
    | some i =>
      rw [e] at h
      simp only [Option.map_some, Option.some.injEq, Prod.mk.injEq] at h
      exact ⟨i, rfl, h.1, h.2.1, h.2.2⟩
  refine wpList_make_own w hgd l c 33 hop base 3 i0 _ 1 Try.underlying33 hi0 hz0 hz1 .i64 .i64 C n hl hc hC (by rw [hz2]; omega) (by unfold maxLen; omega) hbase ?_
  intro w' hown hg
  refine h _ _ w' hown ?_
  exact Below.grown (Lo.refl w) hg (Nat.le_refl _) (fun k hk => by cases hk)

/-- append of one number at a step of a region that draws. -/
theorem step_app {w : World} {ops : Array Oper} {o : Oper} {a : Act} {K : Act → World → Prop} {Q : Exit → Act → World → Prop} {E : Prop} (hgd : o.guard = none) (s x : Operand)
    (ho : o.op = .call { callee := .builtin .append, args := #[s, x], argTypes := #[33, 33] })
    (base : Nat) (v : Value) (xs : List Int) (hs : a.eval s = v) (hown : Own w base v xs) (b : Nat) (z : Int) (hx : a.eval x = .slice (some ⟨b, 0, none⟩) 1 1) (hr : w.cell? ⟨b, 0, none⟩ = some (.int .i64 z))
    (hlen : xs.length + 1 ≤ 1000000) (hbase : base ≤ w.heap.size)
    (h : ∀ p c w', Own w' base (.slice p (xs.length + 1) c) (xs ++ [z]) → (∀ w0, Lo w0 w → w0.heap.size = base → Lo w0 w') → K (a.put o.dst (.slice p (xs.length + 1) c)) w') :
    if Region.wanted o (yielded ops a.tmps) = true then Oper.wp Try.prog o a w K Q else E := by
  obtain ⟨i0, hi0, hz0, hz1, hz2⟩ : ∃ i, Try.prog.info? 3 = some i ∧ i.zero = some (.int .i64 0) ∧ i.size = 1 ∧ i.bytes = 8 := by
    have h := int_info
    cases e : Try.prog.info? 3 with
    | none => rw [e] at h; cases h
    | some i =>
      rw [e] at h
      simp only [Option.map_some, Option.some.injEq, Prod.mk.injEq] at h
      exact ⟨i, rfl, h.1, h.2.1, h.2.2⟩
  refine step_append_lies w hgd s x 33 ho base 3 i0 _ 1 8 Try.underlying33 hi0 hz0 hz1 hz2 rfl (by omega) v xs.length _ hs hown ⟨b, 0, .none⟩ 1 1 [.int .i64 z] hx rfl ?_ ?_ (by omega) (by unfold maxLen; omega) (by omega) hbase _ rfl ?_
  · intro j u hj
    obtain rfl : j = 0 := by
      rcases Nat.lt_or_ge j 1 with h | h
      · omega
      · rw [List.getElem?_eq_none (by simpa using h)] at hj; cases hj
    simp at hj
    subst hj
    rw [show (⟨b, 0, none⟩ : Addr).add 0 = ⟨b, 0, none⟩ from by unfold Addr.add; split <;> simp_all]
    exact hr
  · intro u hu
    simp only [List.mem_singleton] at hu
    subst hu
    rfl
  · intro g cap w' hown' hg _ _
    have hown2 : Own w' base (.slice (some ⟨g, 0, none⟩) (xs.length + 1) cap) (xs ++ [z]) := by
      unfold Own
      rw [List.length_append, List.map_append]
      exact hown'
    refine h _ _ w' hown2 ?_
    intro w0 hlo hb0
    exact Below.grown hlo hg hlo.size (fun k hk => by rw [hb0]; exact (World.ownsRow.lt hown k hk).1)

end Go.Proofs.Ytcnmfgdeanbhoaa
/-
  Slices of structs in memory: a slice whose elements lie in k cells each reads as a list (RowK); one that the call itself owns (OwnK); make, and append of one element. Nothing of the program. No conditions beyond those stated.
-/
namespace Go.Proofs.Ytcnmfgdeanbhoaa
open Go.RowKit
variable {α : Type}

/-- The slice v reads as the elements l, each of which lies in k cells. -/
def RowK (enc : α → List Value) (k : Nat) (w : World) (v : Value) (l : List α) : Prop :=
  (∃ p c, v = .slice p 0 c ∧ (p = none → c = 0) ∧ l = []) ∨
  ∃ b off cap, v = .slice (some ⟨b, off, none⟩) l.length cap ∧ l.length ≤ 9223372036854775807 ∧ l.length ≤ cap ∧ b < w.heap.size ∧
    ∀ i x, l[i]? = some x → ∀ j, j < k → w.cell? ⟨b, off + i * k + j, none⟩ = (enc x)[j]?

theorem RowK.lo {enc : α → List Value} {k : Nat} {w w' : World} {v : Value} {l : List α} (h : RowK enc k w v l) (hl : Lo w w') : RowK enc k w' v l := by
  rcases h with h | ⟨b, off, cap, h1, h2, h2b, h3, h4⟩
  · exact .inl h
  · exact .inr ⟨b, off, cap, h1, h2, h2b, Nat.lt_of_lt_of_le h3 hl.size, fun i x hx j hj => by rw [hl.cell h3]; exact h4 i x hx j hj⟩
theorem RowK.form {enc : α → List Value} {k : Nat} {w : World} {v : Value} {l : List α} (h : RowK enc k w v l) : ∃ p c, v = .slice p l.length c ∧ l.length ≤ 9223372036854775807 := by
  rcases h with ⟨p, c, rfl, _, rfl⟩ | ⟨b, off, cap, rfl, h2, h2b, h3, h4⟩
  · exact ⟨_, _, rfl, by simp⟩
  · exact ⟨_, _, rfl, h2⟩
theorem RowK.at_ {enc : α → List Value} {k : Nat} {w : World} {p : Option Addr} {n c : Nat} {l : List α} (h : RowK enc k w (.slice p n c) l) {i : Nat} {x : α} (hx : l[i]? = some x) :
    ∃ b off, p = some ⟨b, off, none⟩ ∧ ∀ j, j < k → w.cell? ⟨b, off + i * k + j, none⟩ = (enc x)[j]? := by
  rcases h with ⟨_, _, h1, _, rfl⟩ | ⟨b, off, cap, h1, h2, h2b, h3, h4⟩
  · simp at hx
  · injection h1 with hp hn _
    exact ⟨b, off, hp, h4 i x hx⟩
theorem RowK.nil (enc : α → List Value) (k : Nat) (w : World) : RowK enc k w (.slice none 0 0) [] := .inl ⟨_, _, rfl, fun _ => rfl, rfl⟩

theorem flat_len (enc : α → List Value) (k : Nat) (hk : ∀ x, (enc x).length = k) : ∀ l : List α, (l.flatMap enc).length = l.length * k
  | [] => by simp
  | x :: r => by rw [List.flatMap_cons, List.length_append, hk, flat_len enc k hk r, List.length_cons, Nat.add_mul]; omega
theorem flat_at (enc : α → List Value) (k : Nat) (hk : ∀ x, (enc x).length = k) : ∀ (l : List α) (i : Nat) (x : α) (j : Nat), l[i]? = some x → j < k → (l.flatMap enc)[i * k + j]? = (enc x)[j]?
  | [], i, x, j, h, _ => by simp at h
  | y :: r, 0, x, j, h, hj => by
    simp at h; subst h
    rw [List.flatMap_cons, Nat.zero_mul, Nat.zero_add, List.getElem?_append_left (by rw [hk]; exact hj)]
  | y :: r, i + 1, x, j, h, hj => by
    rw [List.flatMap_cons, List.getElem?_append_right (by rw [hk, Nat.add_mul]; omega), hk, show (i + 1) * k + j - k = i * k + j by rw [Nat.add_mul]; omega]
    exact flat_at enc k hk r i x j (by simpa using h) hj

/-- The slice v, of the call's own blocks (from base on), holds the elements l. -/
def OwnK (enc : α → List Value) (ty k : Nat) (w : World) (base : Nat) (v : Value) (l : List α) : Prop := w.ownsRow base ty k v l.length (l.flatMap enc)

theorem OwnK.none (enc : α → List Value) (ty k : Nat) (w : World) (base : Nat) : OwnK enc ty k w base (.slice none 0 0) [] := World.ownsRow_nil w base _ _
theorem own_lo {ty k : Nat} {w w' : World} {base : Nat} {v : Value} {n : Nat} {xs : List Value} (h : w.ownsRow base ty k v n xs) (l : Lo w w') : w'.ownsRow base ty k v n xs := by
  refine ⟨h.1, ?_⟩
  rcases h.2 with h2 | ⟨g, cap, cur, hv, hg, hh, r⟩
  · exact .inl h2
  · refine .inr ⟨g, cap, cur, hv, hg, ?_, r⟩
    have hlt : g < w.heap.size := by
      rcases Nat.lt_or_ge g w.heap.size with hlt | hge
      · exact hlt
      · rw [Array.getElem?_eq_none hge] at hh; cases hh
    rw [l.block g hlt]; exact hh
theorem OwnK.lo {enc : α → List Value} {ty k : Nat} {w w' : World} {base : Nat} {v : Value} {l : List α} (h : OwnK enc ty k w base v l) (hl : Lo w w') : OwnK enc ty k w' base v l := own_lo h hl
theorem OwnK.form {enc : α → List Value} {ty k : Nat} {w : World} {base : Nat} {v : Value} {l : List α} (h : OwnK enc ty k w base v l) : ∃ p c, v = .slice p l.length c := by
  rcases h.2 with ⟨rfl, hn⟩ | ⟨g, cap, cur, rfl, _⟩
  · exact ⟨_, _, by rw [hn]⟩
  · exact ⟨_, _, rfl⟩
theorem OwnK.mono {enc : α → List Value} {ty k : Nat} {w : World} {base base' : Nat} {v : Value} {l : List α} (h : OwnK enc ty k w base v l) (hb : base' ≤ base) : OwnK enc ty k w base' v l := by
  refine ⟨h.1, ?_⟩
  rcases h.2 with h2 | ⟨g, cap, cur, hv, hg, r⟩
  · exact .inl h2
  · exact .inr ⟨g, cap, cur, hv, by omega, r⟩
/-- A cell of another block is set: what is owned stays. -/
theorem OwnK.block_ne {enc : α → List Value} {ty k : Nat} {w : World} {base : Nat} {v : Value} {l : List α} (h : OwnK enc ty k w base v l) {p : Addr} (hp : p.block < base) (u : Value) : OwnK enc ty k (w.setCell p u) base v l := by
  refine ⟨h.1, ?_⟩
  rcases h.2 with h2 | ⟨g, cap, cur, hv, hg, hh, r⟩
  · exact .inl h2
  · refine .inr ⟨g, cap, cur, hv, hg, ?_, r⟩
    rw [Below.heap_setCell _ _ _ _ (by omega)]; exact hh
theorem OwnK.row {enc : α → List Value} {ty k : Nat} (hk : ∀ x, (enc x).length = k) {w : World} {base : Nat} {v : Value} {l : List α} (h : OwnK enc ty k w base v l) : RowK enc k w v l := by
  rcases h.2 with ⟨rfl, hn⟩ | ⟨g, cap, cur, rfl, hg, hh, hnc, hcm, hcs, ht⟩
  · exact .inl ⟨_, _, rfl, fun _ => rfl, List.eq_nil_of_length_eq_zero hn⟩
  · have hlt : g < w.heap.size := by
      rcases Nat.lt_or_ge g w.heap.size with hlt | hge
      · exact hlt
      · rw [Array.getElem?_eq_none hge] at hh; cases hh
    refine .inr ⟨g, 0, cap, rfl, by unfold maxLen at hcm; omega, hnc, hlt, fun i x hx j hj => ?_⟩
    have hi : i < l.length := (List.getElem?_eq_some_iff.1 hx).1
    have hb : i * k + j < l.length * k := by
      have : (i + 1) * k ≤ l.length * k := Nat.mul_le_mul_right _ hi
      rw [Nat.add_mul] at this; omega
    have hc := h.cellAt (g := g) (cap := cap) (i * k + j) (by omega)
    rw [Nat.zero_add, hc]
    exact flat_at enc k hk l i x j hx hj

/-- make([]T, 0, n). -/
theorem wpList_mkK {enc : α → List Value} (w : World) {ops : Array Oper} {rest : List Oper} {o : Oper} {a : Act} {Q : Exit → Act → World → Prop} (hgd : o.guard = none) (l c : Operand) (t : TypeId)
    (hop : o.op = Op.makeSlice t l c) (e : TypeId) (k bytes : Nat) (z : Value) (hu : Try.prog.underlying t = some (.slice e)) (hinfo : (Try.prog.info? e).map (fun i => (i.zero, i.size, i.bytes)) = some (some z, k, bytes)) (hby : bytes ≤ 100000)
    (base : Nat) (C : Int) (n : Nat) (hl : a.eval l = .int .i64 0) (hc : a.eval c = .int .i64 C) (hC : C = (n : Int)) (hn : n ≤ 1000000) (hbase : base ≤ w.heap.size)
    (h : ∀ p c w', OwnK enc e k w' base (.slice p 0 c) [] → Lo w w' → wpList Try.prog ops Q rest (a.put o.dst (.slice p 0 c)) w') : wpList Try.prog ops Q (o :: rest) a w := by
  obtain ⟨i0, hi0, hz0, hz1, hz2⟩ := info_parts hinfo
  refine wpList_make_own w hgd l c t hop base e i0 _ k hu hi0 hz0 hz1 .i64 .i64 C n hl hc hC ?_ (by unfold maxLen; omega) hbase ?_
  · rw [hz2]
    exact Nat.le_trans (Nat.mul_le_mul hby hn) (by omega)
  intro w' hown hg
  refine h _ _ w' hown ?_
  exact Below.grown (Lo.refl w) hg (Nat.le_refl _) (fun k hk => by cases hk)

/-- append of elements that lie somewhere in memory onto a slice of the call's own. -/
theorem wpList_appK {enc : α → List Value} (w : World) {ops : Array Oper} {rest : List Oper} {o : Oper} {a : Act} {Q : Exit → Act → World → Prop} (hgd : o.guard = none) (s x : Operand) (t : TypeId)
    (ho : o.op = .call { callee := .builtin .append, args := #[s, x], argTypes := #[t, t] })
    (e : TypeId) (k bytes : Nat) (z : Value) (hu : Try.prog.underlying t = some (.slice e)) (hinfo : (Try.prog.info? e).map (fun i => (i.zero, i.size, i.bytes)) = some (some z, k, bytes)) (hzl : z.cells.size = k) (hby : bytes ≤ 100000) (hk0 : 0 < k)
    (hk : ∀ x, (enc x).length = k) (h1c : ∀ x, ∀ u ∈ enc x, u.oneCell' = true)
    (base : Nat) (v : Value) (xs : List α) (hs : a.eval s = v) (hown : OwnK enc e k w base v xs) (u : Value) (ys : List α) (hx : a.eval x = u) (hr : RowK enc k w u ys)
    (hlen : xs.length + ys.length ≤ 1000000) (hbase : base ≤ w.heap.size)
    (h : ∀ p c w', OwnK enc e k w' base (.slice p (xs.length + ys.length) c) (xs ++ ys) → (∀ w0, Lo w0 w → w0.heap.size ≤ base → Lo w0 w') → wpList Try.prog ops Q rest (a.put o.dst (.slice p (xs.length + ys.length) c)) w') : wpList Try.prog ops Q (o :: rest) a w := by
  obtain ⟨i0, hi0, hz0, hz1, hz2⟩ := info_parts hinfo
  have hbb : (xs.length + ys.length) * bytes ≤ 1000000 * 100000 := Nat.mul_le_mul hlen hby
  have fin : ∀ (v' : Value) (w' : World), w'.ownsRow base e k v' (xs.length + ys.length) (xs.flatMap enc ++ ys.flatMap enc) → (∀ w0, Lo w0 w → w0.heap.size ≤ base → Lo w0 w') → wpList Try.prog ops Q rest (a.put o.dst v') w' := by
    intro v' w' hown' hlo
    have hown2 : OwnK enc e k w' base v' (xs ++ ys) := by
      unfold OwnK
      rw [List.length_append, List.flatMap_append]
      exact hown'
    obtain ⟨p, c, hv⟩ := hown2.form
    rw [List.length_append] at hv
    subst hv
    exact h p c w' hown2 hlo
  rcases hr with ⟨p0, c0, rfl, h0, rfl⟩ | ⟨b, off, cap, rfl, h2, h2b, h3, h4⟩
  · cases p0 with
    | some x0 =>
      refine wpList_append_own w hgd s x t ho base e i0 z k bytes hu hi0 hz0 hz1 hz2 hzl hk0 v xs.length _ hs hown x0 0 c0 [] hx (by simp) (by simp) (by simp) (by unfold maxLen; omega) (by simp at hbb ⊢; omega) hbase ?_
      intro v' w' hown' hg _
      exact fin v' w' (by simpa using hown') (fun w0 hlo hb0 => Below.grown hlo hg hlo.size (fun k hk => by have := (hown.lt k hk).1; omega))
    | none =>
      obtain rfl := h0 rfl
      refine wpList_append_own_none hgd s x t ho base e i0 k hu hi0 v xs.length _ hs hown hx ?_
      exact fin v w (by simpa [OwnK] using hown) (fun _ k _ => k)
  · refine wpList_append_own w hgd s x t ho base e i0 z k bytes hu hi0 hz0 hz1 hz2 hzl hk0 v xs.length _ hs hown ⟨b, off, .none⟩ ys.length cap (ys.flatMap enc) hx (flat_len enc k hk ys) ?_ ?_ (by unfold maxLen; omega) (by omega) hbase ?_
    · intro j u hj
      have hjl : j < (ys.flatMap enc).length := (List.getElem?_eq_some_iff.1 hj).1
      rw [flat_len enc k hk] at hjl
      have hdiv : j / k < ys.length := Nat.div_lt_of_lt_mul (by rw [Nat.mul_comm]; exact hjl)
      have hmod : j % k < k := Nat.mod_lt _ hk0
      have hdm : j / k * k + j % k = j := by rw [Nat.mul_comm]; exact Nat.div_add_mod j k
      have hy : ys[j / k]? = some ys[j / k] := List.getElem?_eq_getElem hdiv
      have hf := flat_at enc k hk ys (j / k) _ (j % k) hy hmod
      have hc := h4 (j / k) _ hy (j % k) hmod
      have e1 : (⟨b, off, .none⟩ : Addr).add j = ⟨b, off + j, .none⟩ := by
        unfold Addr.add; split <;> simp_all
      have e2 : off + j = off + j / k * k + j % k := by omega
      rw [e1, e2, hc, ← hf, hdm, hj]
    · intro u hu
      obtain ⟨y, _, hy⟩ := List.mem_flatMap.1 hu
      exact h1c y u hy
    · intro v' w' hown' hg _
      exact fin v' w' hown' (fun w0 hlo hb0 => Below.grown hlo hg hlo.size (fun k hk => by have := (hown.lt k hk).1; omega))
end Go.Proofs.Ytcnmfgdeanbhoaa
/-
  A block of memory that stands: its cells can be read and written. Nothing of the program. No conditions.
-/
namespace Go.Proofs.Ytcnmfgdeanbhoaa
open Go.RowKit

theorem lo_block {T : Nat} {o : Obj} {w w' : World} (h : Lo w w') (hT : w.heap[T]? = some o) : w'.heap[T]? = some o := by
  have hlt : T < w.heap.size := by
    rcases Nat.lt_or_ge T w.heap.size with hlt | hge
    · exact hlt
    · rw [Array.getElem?_eq_none hge] at hT; cases hT
  rw [h.block T hlt]; exact hT
theorem new_block (w : World) (o : Obj) : (w.alloc o).heap[w.heap.size]? = some o := by
  show (w.heap.push o)[w.heap.size]? = _
  simp
theorem block_cell {T ty i : Nat} {cs : Array Value} {w : World} {v : Value} (h : w.heap[T]? = some (.cells cs ty (0, 0))) (hv : cs[i]? = some v) : w.cell? ⟨T, i, none⟩ = some v := by
  simp [World.cell?, h, hv]
theorem block_frozen {T ty i : Nat} {cs : Array Value} {w : World} (h : w.heap[T]? = some (.cells cs ty (0, 0))) : w.frozen? ⟨T, i, none⟩ = false := by
  simp [World.frozen?, h]
/-- A struct of four cells at block T, and that it may be written. -/
theorem four_at {T ty : Nat} {a b c d : Value} {w : World} (h : w.heap[T]? = some (.cells #[a, b, c, d] ty (0, 0))) :
    (w.cell? ⟨T, 0, none⟩ = some a ∧ w.cell? ⟨T, 1, none⟩ = some b ∧ w.cell? ⟨T, 2, none⟩ = some c ∧ w.cell? ⟨T, 3, none⟩ = some d) ∧
    (w.frozen? ⟨T, 0, none⟩ = false ∧ w.frozen? ⟨T, 1, none⟩ = false ∧ w.frozen? ⟨T, 2, none⟩ = false ∧ w.frozen? ⟨T, 3, none⟩ = false) :=
  ⟨⟨block_cell h rfl, block_cell h rfl, block_cell h rfl, block_cell h rfl⟩, block_frozen h, block_frozen h, block_frozen h, block_frozen h⟩
/-- A struct of six cells at block T. -/
theorem six_at {T ty : Nat} {a b c d e f : Value} {w : World} (h : w.heap[T]? = some (.cells #[a, b, c, d, e, f] ty (0, 0))) :
    (w.cell? ⟨T, 0, none⟩ = some a ∧ w.cell? ⟨T, 1, none⟩ = some b ∧ w.cell? ⟨T, 2, none⟩ = some c ∧ w.cell? ⟨T, 3, none⟩ = some d ∧ w.cell? ⟨T, 4, none⟩ = some e ∧ w.cell? ⟨T, 5, none⟩ = some f) ∧
    (w.frozen? ⟨T, 0, none⟩ = false ∧ w.frozen? ⟨T, 1, none⟩ = false ∧ w.frozen? ⟨T, 2, none⟩ = false ∧ w.frozen? ⟨T, 3, none⟩ = false ∧ w.frozen? ⟨T, 4, none⟩ = false ∧ w.frozen? ⟨T, 5, none⟩ = false) :=
  ⟨⟨block_cell h rfl, block_cell h rfl, block_cell h rfl, block_cell h rfl, block_cell h rfl, block_cell h rfl⟩, block_frozen h, block_frozen h, block_frozen h, block_frozen h, block_frozen h, block_frozen h⟩
/-- A struct of three cells at block T. -/
theorem three_at {T ty : Nat} {a b c : Value} {w : World} (h : w.heap[T]? = some (.cells #[a, b, c] ty (0, 0))) :
    (w.cell? ⟨T, 0, none⟩ = some a ∧ w.cell? ⟨T, 1, none⟩ = some b ∧ w.cell? ⟨T, 2, none⟩ = some c) ∧
    (w.frozen? ⟨T, 0, none⟩ = false ∧ w.frozen? ⟨T, 1, none⟩ = false ∧ w.frozen? ⟨T, 2, none⟩ = false) :=
  ⟨⟨block_cell h rfl, block_cell h rfl, block_cell h rfl⟩, block_frozen h, block_frozen h, block_frozen h⟩
end Go.Proofs.Ytcnmfgdeanbhoaa
/-
  Slices of structs in memory, further: append of elements, with the blocks of other types as they were; a store into another block. Nothing of the program. No conditions beyond those stated.
-/
namespace Go.Proofs.Ytcnmfgdeanbhoaa
open Go.RowKit
variable {α : Type}

theorem set_block {F ty : Nat} {x u : Value} {w : World} (h : w.heap[F]? = some (.cells #[x] ty (0, 0))) : (w.setCell ⟨F, 0, none⟩ u).heap[F]? = some (.cells #[u] ty (0, 0)) := by
  rw [Sort.setCell_eq]
  simp [Sort.mapBlock, Array.getElem?_modify, h, Sort.onCells]
theorem own_set {enc : α → List Value} {ty k ty2 F : Nat} {cs : Array Value} {w : World} {base : Nat} {v : Value} {l : List α} (h : OwnK enc ty k w base v l) (hF : w.heap[F]? = some (.cells cs ty2 (0, 0))) (hne : ty2 ≠ ty) (o : Nat) (u : Value) : OwnK enc ty k (w.setCell ⟨F, o, none⟩ u) base v l := by
  refine ⟨h.1, ?_⟩
  rcases h.2 with h2 | ⟨g, cap, cur, hv, hg, hh, r⟩
  · exact .inl h2
  · refine .inr ⟨g, cap, cur, hv, hg, ?_, r⟩
    have hgF : g ≠ F := by
      rintro rfl
      rw [hF] at hh
      injection hh with hh
      injection hh with _ hh _
      exact hne hh
    rw [Below.heap_setCell _ _ _ _ (by exact hgF)]; exact hh
theorem own_ne {enc : α → List Value} {ty k : Nat} {w : World} {base : Nat} {v : Value} {l : List α} (h : OwnK enc ty k w base v l) {T ty2 : Nat} {cs : Array Value} (hT : w.heap[T]? = some (.cells cs ty2 (0, 0))) (hne : ty2 ≠ ty) : v.ownBlock ≠ some T := by
  intro hc
  rcases h.2 with ⟨h1, _⟩ | ⟨g, cap, cur, hv, _, hh, _⟩
  · rw [h1] at hc; cases hc
  · rw [hv] at hc
    injection hc with hc
    subst hc
    rw [hT] at hh
    injection hh with hh
    injection hh with _ hh _
    exact hne hh
theorem own_fresh {enc : α → List Value} {ty k : Nat} {w : World} {base : Nat} {v : Value} {l : List α} (h : OwnK enc ty k w base v l) {T : Nat} (hT : w.heap.size ≤ T) : v.ownBlock ≠ some T := by
  intro hc
  rcases h.2 with ⟨h1, _⟩ | ⟨g, cap, cur, hv, _, hh, _⟩
  · rw [h1] at hc; cases hc
  · rw [hv] at hc
    injection hc with hc
    subst hc
    rw [Array.getElem?_eq_none hT] at hh
    cases hh
/-- A row of one's own stands where another one grows. -/
theorem own_other {β : Type} {enc : α → List Value} {enc2 : β → List Value} {ty k ty2 k2 : Nat} {w w' : World} {base base2 : Nat} {v v2 : Value} {l : List α} {l2 : List β} (h : OwnK enc ty k w base v l) (h2 : OwnK enc2 ty2 k2 w base2 v2 l2) (hne : ty2 ≠ ty) (hk : ∀ (T : Nat) (o : Obj), w.heap[T]? = some o → v.ownBlock ≠ some T → w'.heap[T]? = some o) : OwnK enc2 ty2 k2 w' base2 v2 l2 := by
  refine ⟨h2.1, ?_⟩
  rcases h2.2 with h3 | ⟨g, cap, cur, hv, hg, hh, r⟩
  · exact .inl h3
  · exact .inr ⟨g, cap, cur, hv, hg, hk g _ hh (own_ne h hh hne), r⟩
theorem grown_keep {w w' : World} {b : Option Nat} (hg : w.grownBy w' b) {T : Nat} {o : Obj} (hT : w.heap[T]? = some o) (hne : b ≠ some T) : w'.heap[T]? = some o := by
  have hlt : T < w.heap.size := by
    rcases Nat.lt_or_ge T w.heap.size with hlt | hge
    · exact hlt
    · rw [Array.getElem?_eq_none hge] at hT; cases hT
  rw [hg.block T hlt (fun h => hne h.symm)]; exact hT

/-- append of elements that lie somewhere in memory onto a slice of the call's own; blocks of other types stand. -/
theorem wpList_appK2 {enc : α → List Value} (w : World) {ops : Array Oper} {rest : List Oper} {o : Oper} {a : Act} {Q : Exit → Act → World → Prop} (hgd : o.guard = none) (s x : Operand) (t : TypeId)
    (ho : o.op = .call { callee := .builtin .append, args := #[s, x], argTypes := #[t, t] })
    (e : TypeId) (k bytes : Nat) (z : Value) (hu : Try.prog.underlying t = some (.slice e)) (hinfo : (Try.prog.info? e).map (fun i => (i.zero, i.size, i.bytes)) = some (some z, k, bytes)) (hzl : z.cells.size = k) (hby : bytes ≤ 100000) (hk0 : 0 < k)
    (hk : ∀ x, (enc x).length = k) (h1c : ∀ x, ∀ u ∈ enc x, u.oneCell' = true)
    (base : Nat) (v : Value) (xs : List α) (hs : a.eval s = v) (hown : OwnK enc e k w base v xs) (u : Value) (ys : List α) (hx : a.eval x = u) (hr : RowK enc k w u ys)
    (hlen : xs.length + ys.length ≤ 1000000) (hbase : base ≤ w.heap.size)
    (h : ∀ p c w', OwnK enc e k w' base (.slice p (xs.length + ys.length) c) (xs ++ ys) → (∀ w0, Lo w0 w → w0.heap.size ≤ base → Lo w0 w') → (∀ (T : Nat) (o : Obj), w.heap[T]? = some o → v.ownBlock ≠ some T → w'.heap[T]? = some o) → wpList Try.prog ops Q rest (a.put o.dst (.slice p (xs.length + ys.length) c)) w') : wpList Try.prog ops Q (o :: rest) a w := by
  obtain ⟨i0, hi0, hz0, hz1, hz2⟩ := info_parts hinfo
  have hbb : (xs.length + ys.length) * bytes ≤ 1000000 * 100000 := Nat.mul_le_mul hlen hby
  have fin : ∀ (v' : Value) (w' : World), w'.ownsRow base e k v' (xs.length + ys.length) (xs.flatMap enc ++ ys.flatMap enc) → (∀ w0, Lo w0 w → w0.heap.size ≤ base → Lo w0 w') → (∀ (T : Nat) (o : Obj), w.heap[T]? = some o → v.ownBlock ≠ some T → w'.heap[T]? = some o) → wpList Try.prog ops Q rest (a.put o.dst v') w' := by
    intro v' w' hown' hlo hkp
    have hown2 : OwnK enc e k w' base v' (xs ++ ys) := by
      unfold OwnK
      rw [List.length_append, List.flatMap_append]
      exact hown'
    obtain ⟨p, c, hv⟩ := hown2.form
    rw [List.length_append] at hv
    subst hv
    exact h p c w' hown2 hlo hkp
  rcases hr with ⟨p0, c0, rfl, h0, rfl⟩ | ⟨b, off, cap, rfl, h2, h2b, h3, h4⟩
  · cases p0 with
    | some x0 =>
      refine wpList_append_own w hgd s x t ho base e i0 z k bytes hu hi0 hz0 hz1 hz2 hzl hk0 v xs.length _ hs hown x0 0 c0 [] hx (by simp) (by simp) (by simp) (by unfold maxLen; omega) (by simp at hbb ⊢; omega) hbase ?_
      intro v' w' hown' hg _
      exact fin v' w' (by simpa using hown') (fun w0 hlo hb0 => Below.grown hlo hg hlo.size (fun k hk => by have := (hown.lt k hk).1; omega)) (fun T o hT hne => grown_keep hg hT hne)
    | none =>
      obtain rfl := h0 rfl
      refine wpList_append_own_none hgd s x t ho base e i0 k hu hi0 v xs.length _ hs hown hx ?_
      exact fin v w (by simpa [OwnK] using hown) (fun _ k _ => k) (fun _ _ hT _ => hT)
  · refine wpList_append_own w hgd s x t ho base e i0 z k bytes hu hi0 hz0 hz1 hz2 hzl hk0 v xs.length _ hs hown ⟨b, off, .none⟩ ys.length cap (ys.flatMap enc) hx (flat_len enc k hk ys) ?_ ?_ (by unfold maxLen; omega) (by omega) hbase ?_
    · intro j u hj
      have hjl : j < (ys.flatMap enc).length := (List.getElem?_eq_some_iff.1 hj).1
      rw [flat_len enc k hk] at hjl
      have hdiv : j / k < ys.length := Nat.div_lt_of_lt_mul (by rw [Nat.mul_comm]; exact hjl)
      have hmod : j % k < k := Nat.mod_lt _ hk0
      have hdm : j / k * k + j % k = j := by rw [Nat.mul_comm]; exact Nat.div_add_mod j k
      have hy : ys[j / k]? = some ys[j / k] := List.getElem?_eq_getElem hdiv
      have hf := flat_at enc k hk ys (j / k) _ (j % k) hy hmod
      have hc := h4 (j / k) _ hy (j % k) hmod
      have e1 : (⟨b, off, .none⟩ : Addr).add j = ⟨b, off + j, .none⟩ := by
        unfold Addr.add; split <;> simp_all
      have e2 : off + j = off + j / k * k + j % k := by omega
      rw [e1, e2, hc, ← hf, hdm, hj]
    · intro u hu
      obtain ⟨y, _, hy⟩ := List.mem_flatMap.1 hu
      exact h1c y u hy
    · intro v' w' hown' hg _
      exact fin v' w' hown' (fun w0 hlo hb0 => Below.grown hlo hg hlo.size (fun k hk => by have := (hown.lt k hk).1; omega)) (fun T o hT hne => grown_keep hg hT hne)
end Go.Proofs.Ytcnmfgdeanbhoaa
/-
  Texts as lists of bytes: s[i], s[a:b], s + t, []byte(s), string(b), in the walk's spelling. Nothing of the program but its types. No conditions.
-/
namespace Gk
open Go

theorem extract_list (l : List UInt8) (a b : Nat) : (⟨l.toArray⟩ : ByteArray).extract a b = ⟨((l.drop a).take (b - a)).toArray⟩ := by
  apply ByteArray.ext
  simp [ByteArray.data_extract, List.extract_eq_take_drop]
theorem extract_from (l : List UInt8) (a : Nat) : (⟨l.toArray⟩ : ByteArray).extract a l.length = ⟨(l.drop a).toArray⟩ := by
  rw [extract_list, List.take_of_length_le (by simp)]
theorem cat_list (l m : List UInt8) : (⟨l.toArray⟩ : ByteArray) ++ ⟨m.toArray⟩ = ⟨(l ++ m).toArray⟩ := by
  apply ByteArray.ext
  simp [ByteArray.data_append]
theorem take_snoc (l : List UInt8) (k : Nat) (h : k < l.length) : l.take (k + 1) = l.take k ++ [l.getD k 0] := by
  rw [List.take_succ_eq_append_getElem h]; simp [List.getD, List.getElem?_eq_getElem h]
theorem getD_mem (l : List UInt8) (k : Nat) (h : k < l.length) : l.getD k 0 ∈ l := by
  simp [List.getD, List.getElem?_eq_getElem h]
theorem getD_left (a b : List UInt8) (j : Nat) (h : j < a.length) : (a ++ b).getD j 0 = a.getD j 0 := by
  simp [List.getD, List.getElem?_append_left h]
theorem getD_mid (a b : List UInt8) (c : UInt8) : (a ++ c :: b).getD a.length 0 = c := by
  simp [List.getD]
theorem getD_last (a : List UInt8) (c : UInt8) : (a ++ [c]).getD ((a ++ [c]).length - 1) 0 = c := by
  simp [List.getD]

end Gk
namespace Go.Proofs.Ytcnmfgdeanbhoaa
open Go.RowKit

theorem conv_bytes (l : List UInt8) (w : World) : ∃ B C W1, (convert 9 58 (.string ⟨l.toArray⟩)).run Try.prog w = .ok (.slice (some ⟨B, 0, none⟩) l.length C) W1 ∧ Lo w W1 ∧
    ∀ j, j < l.length → W1.cell? ⟨B, j, none⟩ = some (.int .u8 (l.getD j 0).toNat) := by
  refine ⟨_, _, _, Lib.run_convert_string_bytes w 9 58 5 ⟨l.toArray⟩ Try.underlying9 Try.underlying58 Try.underlying5, ?_, fun j hj => Lib.bytesWorld_cell w 5 ⟨l.toArray⟩ j hj⟩
  exact ⟨rfl, rfl, rfl, by rw [Lib.bytesWorld_size]; omega, fun k hk => Lib.bytesWorld_at_old w _ _ k hk⟩

theorem conv_bytes_own (l : List UInt8) (w : World) : ∃ C W1, (convert 9 58 (.string ⟨l.toArray⟩)).run Try.prog w = .ok (.slice (some ⟨w.heap.size, 0, none⟩) l.length C) W1 ∧ Lo w W1 ∧ w.heap.size < W1.heap.size ∧
    (∀ j, j < l.length → W1.cell? ⟨w.heap.size, j, none⟩ = some (.int .u8 (l.getD j 0).toNat)) ∧ ∀ j, j < l.length → W1.frozen? ⟨w.heap.size, j, none⟩ = false := by
  refine ⟨_, _, Lib.run_convert_string_bytes w 9 58 5 ⟨l.toArray⟩ Try.underlying9 Try.underlying58 Try.underlying5, ?_, by rw [Lib.bytesWorld_size]; omega, fun j hj => Lib.bytesWorld_cell w 5 ⟨l.toArray⟩ j hj, fun j hj => ?_⟩
  · exact ⟨rfl, rfl, rfl, by rw [Lib.bytesWorld_size]; omega, fun k hk => Lib.bytesWorld_at_old w _ _ k hk⟩
  · have hs : l.length ≤ (Lib.bytesCells w 5 ⟨l.toArray⟩).size := by simp [Lib.bytesCells]
    simp only [World.frozen?, Lib.bytesWorld_at_new]
    simp
    omega

theorem ba_get (l : List UInt8) (k : Nat) (h : k < (ByteArray.mk l.toArray).size) : (ByteArray.mk l.toArray)[k] = l.getD k 0 := by
  have h' : k < l.length := h
  show l.toArray[k] = _
  simp [List.getD, List.getElem?_eq_getElem h']
theorem ba_at (l : List UInt8) (k : Nat) (c : UInt8) (hc : l.getD k 0 = c) (h : k < (ByteArray.mk l.toArray).size) : (ByteArray.mk l.toArray)[k] = c := by
  have h' : k < l.length := h
  rw [← hc]
  show l.toArray[k] = _
  simp [List.getD, List.getElem?_eq_getElem h']

theorem ne_byte (c d : UInt8) (h : c ≠ d) : ((c.toNat : Int) == (d.toNat : Int)) = false := by
  rw [beq_eq_false_iff_ne]
  intro he
  exact h (UInt8.toNat_inj.1 (by omega))

theorem one_byte (W : World) (c : Int) (h0 : 0 ≤ c) (h1 : c < 256) : (convert 58 9 (.slice (some ⟨W.heap.size, 0, none⟩) 1 1)).run Try.prog (W.alloc (.cells #[.int .u8 c] 5)) = .ok (.string ⟨[UInt8.ofNat c.toNat].toArray⟩) (W.alloc (.cells #[.int .u8 c] 5)) := by
  have := run_convert_bytes_back (P := Try.prog) (W.alloc (.cells #[.int .u8 c] 5)) 58 9 5 ⟨W.heap.size, 0, none⟩ 1 [UInt8.ofNat c.toNat] Try.underlying58 Try.underlying5 Try.underlying9 (fun j hj => by
    obtain rfl : j = 0 := by simp at hj; omega
    rw [Addr.add_lit]
    simp [go_sem]
    omega)
  exact this

theorem ret_cut {a b c d : ByteArray} {t : Bool} (h : a = c) (k : b = d) : Ending.returned (.tuple #[.string a, .string b, .bool t]) = .returned (.tuple #[.string c, .string d, .bool t]) := by rw [h, k]

end Go.Proofs.Ytcnmfgdeanbhoaa
