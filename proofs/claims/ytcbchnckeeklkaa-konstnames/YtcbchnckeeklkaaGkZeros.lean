/-
  Slices of ints in memory: noughts appended to one that the call itself owns; so many noughts made anew; what is left of a slice from a place on. Nothing of the program but its types. No conditions beyond those stated.
-/
import Derived.Test.YtcbchnckeeklkaaGkRows
import Derived.Test.YtcbchnckeeklkaaGkArr
import Derived.Lib.AppendZeros
import Derived.Lib.AppendZerosOnto
namespace Go.Proofs.Ytcbchnckeeklkaa
open Go.RowKit

theorem noughts_are (m : Nat) : Builtin.zeroCells #[Value.int .i64 0] m = (List.replicate m (Value.int .i64 0)).toArray := by
  unfold Builtin.zeroCells
  apply Array.ext
  · simp
  · intro i h1 h2
    simp [Nat.mod_one]

theorem int_parts : ∃ i, Try.prog.info? 3 = some i ∧ i.zero = some (.int .i64 0) ∧ i.size = 1 ∧ i.bytes = 8 := by
  have h := int_info
  cases e : Try.prog.info? 3 with
  | none => rw [e] at h; cases h
  | some i =>
    rw [e] at h
    simp only [Option.map_some, Option.some.injEq, Prod.mk.injEq] at h
    exact ⟨i, rfl, h.1, h.2.1, h.2.2⟩

/-- A new row that holds the old numbers, and noughts. -/
theorem own_grown (w : World) (base : Nat) (xs : List Int) (m cap : Nat) (hbase : base ≤ w.heap.size) (hc : xs.length + m ≤ cap) (hm : cap ≤ maxLen) :
    Own (w.drew.alloc (.cells ((xs.map (Value.int .i64)).toArray ++ Builtin.zeroCells #[Value.int .i64 0] m ++ Builtin.zeroCells #[Value.int .i64 0] (cap - (xs.length + m))) 3)) base (.slice (some ⟨w.heap.size, 0, none⟩) (xs.length + m) cap) (xs ++ List.replicate m 0) := by
  have hlen : (xs ++ List.replicate m (0 : Int)).length = xs.length + m := by simp
  unfold Own World.ownsRow
  rw [hlen, noughts_are, noughts_are]
  refine ⟨by simp, .inr ⟨w.heap.size, cap, _, rfl, hbase, new_block w.drew _, hc, hm, ?_, ?_⟩⟩
  · simp; omega
  · simp only [Nat.mul_one, Array.toList_append, List.map_append, List.map_replicate]
    exact List.take_left' (by simp)

/-- append of so many noughts onto a slice of the call's own. -/
theorem own_noughts (w : World) (base : Nat) (v : Value) (xs : List Int) (m : Nat) (hown : Own w base v xs) (hlen : xs.length + m ≤ 1000000) (hbase : base ≤ w.heap.size) (ty : TypeId) :
    ∃ p c w', (Builtin.append_ #[22, 3] ty #[v, .int .i64 (m : Int)]).run Try.prog w = .ok (.slice p (xs.length + m) c) w' ∧ Own w' base (.slice p (xs.length + m) c) (xs ++ List.replicate m 0) ∧ (∀ w0, Lo w0 w → w0.heap.size = base → Lo w0 w') := by
  obtain ⟨i0, hi0, hz0, hz1, hz2⟩ := int_parts
  have ht := Try.underlying22
  have htn := Try.underlying3
  have hw : IntKind.i64.wrap (m : Int) = m := by rw [IntKind.wrap_i64]; omega
  have hneg : ¬ ((m : Int) < 0) := by omega
  have h48 : ¬ (281474976710656 < (m : Int) * 8) := by omega
  rcases hown.2 with ⟨rfl, hn⟩ | ⟨g, cap, cur, rfl, hb, hg, hnc, hcm, hcs, htk⟩
  · obtain rfl : xs = [] := List.eq_nil_of_length_eq_zero hn
    by_cases h0 : m = 0
    · subst h0
      refine ⟨none, 0, w, ?_, Own.none _ _, fun _ k _ => k⟩
      simp [Builtin.append_, run_underlying ht, run_underlying htn, sizeOf, typeInfo, hi0, hz2, asInt, asIntOf, IntKind.wrap_i64]
    · have hge : m ≤ grownCap w m 0 3 := grownCap_ge w _ _ _
      have hle := grownCap_le_maxLen w m 0 3 (by unfold maxLen; omega)
      have hr := Lib.run_append_nil_zeros w 22 3 ty 3 i0 _ .i64 .i64 ht htn hi0 hz0 m (by omega) (by omega) (by omega) (by rw [hz2]; omega)
      rw [show (Value.int .i64 0).cells = #[Value.int .i64 0] from rfl] at hr
      have ho := own_grown w base [] m (grownCap w m 0 3) hbase (by simpa using hge) hle
      simp only [List.length_nil, Nat.zero_add, List.nil_append, List.map_nil, Array.empty_append] at ho ⊢
      exact ⟨_, _, _, hr, ho, fun w0 k _ => (k.drew).alloc _⟩
  · by_cases hroom : xs.length + m ≤ cap
    · have hst := run_storeCells_at Try.prog g xs.length 3 (List.replicate m (Value.int .i64 0)) 0 cur w hg (by rw [List.length_replicate]; omega) (by intro u hu; rw [List.eq_of_mem_replicate hu]; rfl)
      simp only [Nat.add_zero, List.length_replicate] at hst
      by_cases h0 : m = 0
      · subst h0
        refine ⟨some ⟨g, 0, none⟩, cap, w, ?_, by simpa using hown, fun _ k _ => k⟩
        simp [Builtin.append_, run_underlying ht, run_underlying htn, sizeOf, typeInfo, hi0, hz2, asInt, asIntOf, IntKind.wrap_i64, hnc, storeCells]
      · refine ⟨some ⟨g, 0, none⟩, cap, w.setRow g (cur.toList.take xs.length ++ List.replicate m (Value.int .i64 0) ++ cur.toList.drop (xs.length + m)).toArray, ?_, ?_, ?_⟩
        · simp [Builtin.append_, run_underlying ht, run_underlying htn, sizeOf, typeInfo, zeroValue, hi0, hz0, hz1, hz2, asInt, asIntOf, hw, hneg, h48, hroom, h0, noughts_are, Addr.add_lit, hst, show (Value.int .i64 0).cells = #[Value.int .i64 0] from rfl]
        · have hl2 : (xs ++ List.replicate m (0 : Int)).length = xs.length + m := by simp
          unfold Own World.ownsRow
          rw [hl2]
          refine ⟨by simp, .inr ⟨g, cap, _, rfl, hb, setRow_heap w g cur _ 3 _ hg, hroom, hcm, ?_, ?_⟩⟩
          · simp; omega
          · rw [Nat.mul_one] at htk
            simp only [Nat.mul_one, htk, List.map_append, List.map_replicate]
            exact List.take_left' (by simp)
        · intro w0 k e0
          exact Below.grown k (show World.grownBy w _ (some g) from ⟨rfl, rfl, rfl, by simp, fun j _ hj => setRow_other w g j _ (fun e => hj (by rw [e]))⟩) k.size (fun j hj => by injection hj with hj; omega)
    · have hge := grownCap_ge w (xs.length + m) cap 3
      have hle := grownCap_le_maxLen w (xs.length + m) cap 3 (by unfold maxLen; omega)
      have holds : ∀ j u, (xs.map (Value.int .i64))[j]? = some u → w.cell? ((⟨g, 0, none⟩ : Addr).add j) = some u := World.ownsRow.cells hown (g := g) rfl
      have hfo := run_firstCells_some (P := Try.prog) w.drew i0.size xs.length ⟨g, 0, none⟩ xs.length cap (xs.map (Value.int .i64)) (by rw [hz1]; simp) (by simpa using holds)
      have hr := Lib.run_append_grow_zeros w 22 3 ty 3 i0 _ .i64 .i64 ht htn hi0 hz0 (some ⟨g, 0, none⟩) xs.length cap _ hfo m (by omega) (by omega) (by omega) (by omega) (by rw [hz2]; omega) (by rw [hz2]; exact growslice_fits (by omega) (by omega))
      rw [show (Value.int .i64 0).cells = #[Value.int .i64 0] from rfl] at hr
      exact ⟨_, _, _, hr, own_grown w base xs m _ hbase hge hle, fun w0 k _ => (k.drew).alloc _⟩

/-- The operation, for the walk. -/
theorem wpList_noughts (w : World) {ops : Array Oper} {rest : List Oper} {o : Oper} {a : Act} {Q : Exit → Act → World → Prop} (hgd : o.guard = none) (s x : Operand)
    (ho : o.op = .call { callee := .builtin .append, args := #[s, x], argTypes := #[22, 3] })
    (base : Nat) (v : Value) (xs : List Int) (hs : a.eval s = v) (hown : Own w base v xs) (M : Int) (m : Nat) (hx : a.eval x = .int .i64 M) (hM : M = (m : Int)) (hlen : xs.length + m ≤ 1000000) (hbase : base ≤ w.heap.size)
    (h : ∀ p c w', Own w' base (.slice p (xs.length + m) c) (xs ++ List.replicate m 0) → (∀ w0, Lo w0 w → w0.heap.size = base → Lo w0 w') → wpList Try.prog ops Q rest (a.put o.dst (.slice p (xs.length + m) c)) w') : wpList Try.prog ops Q (o :: rest) a w := by
  subst hM
  obtain ⟨p, c, w', hr, hown', hlo⟩ := own_noughts w base v xs m hown hlen hbase o.type
  exact Lib.wpList_append_run w hgd s x _ _ ho _ _ hs hx _ _ hr (h p c w' hown' hlo)

/-- make([]int, n). -/
theorem made_run (n : Nat) (hn : n ≤ 1000000) (W : World) : (Instr.makeSlice 22 (.int .i64 (n : Int)) (.int .i64 (n : Int))).run Try.prog W = .ok (.slice (some ⟨W.heap.size, 0, none⟩) n n) (W.alloc (.cells ((List.replicate n (0 : Int)).map (Value.int .i64)).toArray 3)) := by
  obtain ⟨i0, hi0, hz0, hz1, hz2⟩ := int_parts
  have := run_makeSlice W 22 3 i0 (.int .i64 0) Try.underlying22 hi0 hz0 .i64 .i64 (n : Int) (n : Int) (by omega) (by omega) (by rw [hz1]; omega) (by rw [hz2]; omega) (by omega)
  rw [hz1, Int.toNat_natCast, Nat.mul_one, show (Value.int .i64 0).cells = #[Value.int .i64 0] from rfl] at this
  rw [this, List.map_replicate, ← toList_madeCells_one, Array.toArray_toList]
theorem made_at (n : Nat) (W : World) : ArrAt (W.alloc (.cells ((List.replicate n (0 : Int)).map (Value.int .i64)).toArray 3)) W.heap.size 3 (List.replicate n 0) := new_block W _

/-- The world behind it: a plain def, closed to the walk. -/
def madeW (n : Nat) (W : World) : World := W.alloc (.cells ((List.replicate n (0 : Int)).map (Value.int .i64)).toArray 3)
theorem madeW_run (n : Nat) (hn : n ≤ 1000000) (W : World) : (Instr.makeSlice 22 (.int .i64 (n : Int)) (.int .i64 (n : Int))).run Try.prog W = .ok (.slice (some ⟨W.heap.size, 0, none⟩) n n) (madeW n W) := made_run n hn W
theorem madeW_at (n : Nat) (W : World) : ArrAt (madeW n W) W.heap.size 3 (List.replicate n 0) := made_at n W
theorem madeW_lo (n : Nat) (W : World) : Lo W (madeW n W) := (Lo.refl W).alloc _

theorem int_elemZ : Try.prog.elem 22 = 3 := by kernel_rfl
/-- What is left from a place on. -/
theorem row_from {w : World} {v : Value} {l : List Int} (h : Row w v l) (k : Nat) (K : Int) (hK : K = (k : Int)) (hk : k ≤ l.length) (h0 : k < l.length ∨ 0 < k) :
    ∃ p c, (∀ W, (Instr.slice 22 v (some (.int .i64 K)) none none).run Try.prog W = .ok (.slice p (l.length - k) c) W) ∧ Row w (.slice p (l.length - k) c) (l.drop k) := by
  subst hK
  rcases h with ⟨p, c, rfl, h1, rfl⟩ | ⟨b, off, cap, rfl, h2, h2b, h3, h4⟩
  · simp at hk h0; omega
  · have hs : ∀ W, (sizeOf (Try.prog.elem 22)).run Try.prog W = .ok 1 W := fun W => by rw [int_elemZ]; kernel_rfl
    have hr : ∀ W, (Instr.slice 22 (.slice (some ⟨b, off, none⟩) l.length cap) (some (.int .i64 (k : Int))) none none).run Try.prog W = .ok (.slice (if cap = k then some ⟨b, off, none⟩ else some ⟨b, off + k, none⟩) (l.length - k) (cap - k)) W := fun W => by
      rw [run_slice_l (P := Try.prog) W 22 (some ⟨b, off, none⟩) l.length cap (by rw [int_elemZ]; exact Try.underlying22) .i64 (k : Int) (by omega) (by omega), hs W, Int.toNat_natCast]
      by_cases e : k = 0
      · subst e; simp [Result.andThen, sliced, Addr.add]
      · simp [Result.andThen, sliced, Addr.add, e]
    refine ⟨_, _, hr, ?_⟩
    have hl : (l.drop k).length = l.length - k := List.length_drop
    by_cases he : cap = k
    · rw [if_pos he]
      have hd : l.drop k = [] := List.drop_of_length_le (by omega)
      rw [show l.length - k = 0 by omega, hd]
      exact .inl ⟨_, _, rfl, (by intro h; cases h), rfl⟩
    · rw [if_neg he]
      refine .inr ⟨b, off + k, cap - k, by rw [hl], by omega, by omega, h3, fun i hi => ?_⟩
      rw [hl] at hi
      rw [Nat.add_assoc, h4 (k + i) (by omega)]
      simp [List.getD]
/-- The first so many. -/
theorem row_upto {w : World} {v : Value} {l : List Int} (h : Row w v l) (k : Nat) (K : Int) (hK : K = (k : Int)) (hk : k ≤ l.length) (h0 : 0 < l.length) :
    ∃ p c, (∀ W, (Instr.slice 22 v none (some (.int .i64 K)) none).run Try.prog W = .ok (.slice p k c) W) ∧ Row w (.slice p k c) (l.take k) := by
  subst hK
  rcases h with ⟨p, c, rfl, h1, rfl⟩ | ⟨b, off, cap, rfl, h2, h2b, h3, h4⟩
  · simp at h0
  · have hs : ∀ W, (sizeOf (Try.prog.elem 22)).run Try.prog W = .ok 1 W := fun W => by rw [int_elemZ]; kernel_rfl
    have hr : ∀ W, (Instr.slice 22 (.slice (some ⟨b, off, none⟩) l.length cap) none (some (.int .i64 (k : Int))) none).run Try.prog W = .ok (.slice (some ⟨b, off, none⟩) k cap) W := fun W => by
      rw [run_slice_h (P := Try.prog) W 22 (some ⟨b, off, none⟩) l.length cap (by rw [int_elemZ]; exact Try.underlying22) .i64 (k : Int) (by omega) (by omega), hs W, Int.toNat_natCast]
      simp [Result.andThen, sliced, Addr.add]
    have hl : (l.take k).length = k := by rw [List.length_take]; omega
    refine ⟨_, _, hr, .inr ⟨b, off, cap, by rw [hl], by omega, by omega, h3, fun i hi => ?_⟩⟩
    rw [hl] at hi
    rw [h4 i (by omega)]
    simp [List.getD, hi]
theorem row_five (w : World) (B : Nat) (hB : B = w.heap.size) (a b c d e : Int) : Row (w.alloc (.cells #[.int .i64 a, .int .i64 b, .int .i64 c, .int .i64 d, .int .i64 e] 3)) (.slice (some ⟨B, 0, none⟩) 5 5) [a, b, c, d, e] :=
  hB ▸ .inr ⟨w.heap.size, 0, 5, rfl, by simp, by simp, by simp, fun i hi => by
    obtain rfl | rfl | rfl | rfl | rfl : i = 0 ∨ i = 1 ∨ i = 2 ∨ i = 3 ∨ i = 4 := by simp at hi; omega
    all_goals simp [go_sem]⟩
end Go.Proofs.Ytcbchnckeeklkaa
