/-
  append of one struct at a step of a region that draws; a region of a class of worlds. Nothing of the program. No conditions beyond those stated.
-/
import Derived.Test.YtjeahgdefdlabaaGkCells2
import Derived.Deep.RegionHeld3
namespace Go.Proofs.Ytjeahgdefdlabaa
open Go.RowKit
variable {α : Type}

theorem step_appK {enc : α → List Value} {w : World} {ops : Array Oper} {o : Oper} {a : Act} {K : Act → World → Prop} {Q : Exit → Act → World → Prop} {E : Prop} (hgd : o.guard = none) (s x : Operand) (t : TypeId)
    (ho : o.op = .call { callee := .builtin .append, args := #[s, x], argTypes := #[t, t] })
    (e : TypeId) (k bytes : Nat) (z : Value) (hu : Try.prog.underlying t = some (.slice e)) (hinfo : (Try.prog.info? e).map (fun i => (i.zero, i.size, i.bytes)) = some (some z, k, bytes)) (hzl : z.cells.size = k) (hby : bytes ≤ 100000) (hk0 : 0 < k)
    (hk : ∀ x, (enc x).length = k) (h1c : ∀ x, ∀ u ∈ enc x, u.oneCell' = true)
    (base : Nat) (v : Value) (xs : List α) (hs : a.eval s = v) (hown : OwnK enc e k w base v xs) (b : Nat) (y : α) (hx : a.eval x = .slice (some ⟨b, 0, none⟩) 1 1) (hr : ∀ j u, (enc y)[j]? = some u → w.cell? ⟨b, j, none⟩ = some u)
    (hlen : xs.length + 1 ≤ 1000000) (hbase : base ≤ w.heap.size)
    (h : ∀ p c w', OwnK enc e k w' base (.slice p (xs.length + 1) c) (xs ++ [y]) → (∀ w0, Lo w0 w → w0.heap.size ≤ base → Lo w0 w') → K (a.put o.dst (.slice p (xs.length + 1) c)) w') :
    if Region.wanted o (yielded ops a.tmps) = true then Oper.wp Try.prog o a w K Q else E := by
  obtain ⟨i0, hi0, hz0, hz1, hz2⟩ := info_parts hinfo
  have hbb : (xs.length + 1) * bytes ≤ 1000000 * 100000 := Nat.mul_le_mul hlen hby
  refine step_append_lies w hgd s x t ho base e i0 z k bytes hu hi0 hz0 hz1 hz2 hzl hk0 v xs.length _ hs hown ⟨b, 0, .none⟩ 1 1 (enc y) hx (by rw [hk]; omega) ?_ (h1c y) (by omega) (by unfold maxLen; omega) (by omega) hbase _ rfl ?_
  · intro j u hj
    have e1 : (⟨b, 0, none⟩ : Addr).add j = ⟨b, j, none⟩ := by unfold Addr.add; split <;> simp_all
    rw [e1]
    exact hr j u hj
  · intro g cap w' hown' hg _ _
    have hown2 : OwnK enc e k w' base (.slice (some ⟨g, 0, none⟩) (xs.length + 1) cap) (xs ++ [y]) := by
      unfold OwnK
      rw [List.length_append, List.flatMap_append]
      simpa using hown'
    refine h _ _ w' hown2 ?_
    intro w0 hlo hb0
    exact Below.grown hlo hg hlo.size (fun k hk => by have := (World.ownsRow.lt hown k hk).1; omega)
end Go.Proofs.Ytjeahgdefdlabaa
