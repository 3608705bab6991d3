/-
  What a loop over an iterator keeps of the iterator's own blocks, where the loop's body appends to a slice of its own: all but the slice's row. No conditions beyond those stated.
-/
import Derived.Test.YtjeahgdefdlabaaGkCells2
import Derived.RangeFuncNested
import Derived.RangeFuncBound
import Derived.RangeFuncCalls
import Derived.RangeFuncLeaves
import Derived.Shelf.Abstract
import Derived.Shelf.RegionOpen
import Derived.OwnWalkIn
import Derived.TacticsInMore
import Derived.LoopNIn
import Derived.LoopIn
import Derived.Maps.OwnIn
import Derived.Maps.AppendAt
namespace Go.Proofs.Ytjeahgdefdlabaa
open Go.RowKit Go.Shelf

theorem wide_fn (f : FuncId) : Fence.wide.fn f = True := rfl
theorem wide_depth : Fence.wide.depth = none := rfl

/-- The slice that lies in the box B has block b for its row. -/
def Owned (B : Nat) (W : World) (b : Nat) : Prop := ∃ v, W.cell? ⟨B, 0, none⟩ = some v ∧ v.ownBlock = some b
structure Good (B : Nat) (W : World) : Prop where
  lt : B < W.heap.size
  own : ∀ b, Owned B W b → b < W.heap.size
structure KpS (n₀ n₁ B : Nat) (W W' : World) : Prop where
  below : Below n₀ W W'
  good : Good B W → Good B W'
  own : Good B W → ∀ b, Owned B W' b → Owned B W b ∨ W.heap.size ≤ b
  same : Good B W → ∀ b o, W.heap[b]? = some o → o.isCells = true → n₁ ≤ b → ¬ Owned B W b → W'.heap[b]? = some o
theorem KpS.refl (n₀ n₁ B : Nat) (W : World) : KpS n₀ n₁ B W W := ⟨Below.refl _ _, id, fun _ _ h => .inl h, fun _ _ _ h _ _ _ => h⟩
theorem KpS.trans {n₀ n₁ B : Nat} {A W C : World} (h : KpS n₀ n₁ B A W) (k : KpS n₀ n₁ B W C) : KpS n₀ n₁ B A C := by
  refine ⟨h.below.trans k.below, fun g => k.good (h.good g), fun g b hb => ?_, fun g b o hb hc hn ho => ?_⟩
  · rcases k.own (h.good g) b hb with h1 | h1
    · exact h.own g b h1
    · exact .inr (Nat.le_trans h.below.size h1)
  · refine k.same (h.good g) b o (h.same g b o hb hc hn ho) hc hn fun hw => ?_
    rcases h.own g b hw with h1 | h1
    · exact ho h1
    · have := (Array.getElem?_eq_some_iff.1 hb).1; omega
theorem owned_alloc {B : Nat} {W : World} (hB : B < W.heap.size) (o : Obj) (b : Nat) : Owned B (W.alloc o) b ↔ Owned B W b := by
  unfold Owned
  rw [show (W.alloc o).cell? ⟨B, 0, none⟩ = W.cell? ⟨B, 0, none⟩ from World.cell?_alloc_old _ _ _ (by show B ≠ _; omega)]
theorem Good.alloc {B : Nat} {W : World} (h : Good B W) (o : Obj) : Good B (W.alloc o) :=
  ⟨by rw [World.size_alloc]; have := h.lt; omega, fun b hb => by rw [World.size_alloc]; have := h.own b ((owned_alloc h.lt o b).1 hb); omega⟩
theorem Good.new {B : Nat} {W : World} (h : Good B W) (o : Obj) : ¬ Owned B (W.alloc o) W.heap.size := fun hb => by
  have := h.own _ ((owned_alloc h.lt o _).1 hb); omega
theorem KpS.alloc {n₀ n₁ B : Nat} {W : World} (hn : n₀ ≤ W.heap.size) (o : Obj) : KpS n₀ n₁ B W (W.alloc o) :=
  ⟨(Below.refl _ W).alloc hn o, fun g => g.alloc o, fun g b hb => .inl ((owned_alloc g.lt o b).1 hb),
   fun _ b _ hb _ _ _ => (Below.heap_alloc W o b (Array.getElem?_eq_some_iff.1 hb).1).trans hb⟩
theorem KpS.drew (n₀ n₁ B : Nat) (W : World) : KpS n₀ n₁ B W W.drew := ⟨(Below.refl _ W).drew, fun g => ⟨g.lt, g.own⟩, fun _ _ h => .inl h, fun _ _ _ h _ _ _ => h⟩
/-- A block of the iterator's stands, and is not the slice's row. -/
theorem KpS.keep {n₀ n₁ B b : Nat} {W W' : World} {o : Obj} (h : KpS n₀ n₁ B W W') (g : Good B W) (hb : W.heap[b]? = some o) (hc : o.isCells = true) (hn : n₁ ≤ b) (ho : ¬ Owned B W b) : W'.heap[b]? = some o ∧ ¬ Owned B W' b :=
  ⟨h.same g b o hb hc hn ho, fun hw => by
    rcases h.own g b hw with h1 | h1
    · exact ho h1
    · have := (Array.getElem?_eq_some_iff.1 hb).1; omega⟩
theorem kpS_t {n₀ n₁ B : Nat} {A W C : World} (h : KpS n₀ n₁ B A W) (k : KpS n₀ n₁ B W C) : KpS n₀ n₁ B A C := h.trans k
theorem kpS_b {n₀ n₁ B : Nat} {w : World} (hB : B < w.heap.size) (hn : n₀ ≤ w.heap.size) (W : World) (l : Nat) (o o' : Obj) (hl : w.heap.size ≤ l) (h : W.heap[l]? = some o) (hc : o.isCells = false) (hw : o.isWalk = false) : KpS n₀ n₁ B W (W.putObj l o') := by
  have hlt := (Array.getElem?_eq_some_iff.1 h).1
  have hcell : (W.putObj l o').cell? ⟨B, 0, none⟩ = W.cell? ⟨B, 0, none⟩ := by
    unfold World.cell?
    rw [show (W.putObj l o').heap[B]? = W.heap[B]? from World.putObj_heap_other (by omega)]
  have hsz : (W.putObj l o').heap.size = W.heap.size := by simp
  refine ⟨belowK_b hn W l o o' hl h hc hw, fun g => ⟨by rw [hsz]; exact g.lt, fun b hb => ?_⟩, fun _ b hb => .inl ?_, fun _ b u hb hu _ _ => ?_⟩
  · rw [hsz]; refine g.own b ?_
    unfold Owned at *; rwa [hcell] at hb
  · unfold Owned at *; rwa [hcell] at hb
  · refine (World.putObj_heap_other ?_).trans hb
    rintro rfl
    rw [h] at hb; cases hb; rw [hc] at hu; cases hu
/-- The box holds a slice of the call's own: an append turns no more than the box and the slice's row. -/
theorem KpS.grown {n₀ n₁ B : Nat} {t e : TypeId} {size k m : Nat} {v v' : Value} {xs ys : List Value} {tmp : Obj} {W w1 : World} (hv : Boxed W B t v) (hte : t ≠ e) (hrow : W.ownsRow n₀ e size v k xs)
    (hn₀ : n₀ ≤ W.heap.size) (hB : n₀ ≤ B) (hB1 : B < n₁) (hown' : w1.ownsRow n₀ e size v' m ys) (hgrow : (W.alloc tmp).grownBy w1 v.ownBlock) (hat : v'.ownBlock = v.ownBlock ∨ v'.ownBlock = some (W.alloc tmp).heap.size) :
    KpS n₀ n₁ B W (w1.setCell ⟨B, 0, none⟩ v') := by
  obtain ⟨hv1, hv2, hr2, hk2, hb2⟩ := hv.appended hte hrow hn₀ hB hown' hgrow
  have hlt2 : ∀ b, v'.ownBlock = some b → b < (w1.setCell ⟨B, 0, none⟩ v').heap.size := fun b hb => by
    rcases hr2.2 with ⟨rfl, _⟩ | ⟨g, cap, cur, rfl, _, hgb, _⟩
    · simp [Value.ownBlock] at hb
    · obtain rfl : g = b := by simpa [Value.ownBlock] using hb
      exact (Array.getElem?_eq_some_iff.1 hgb).1
  have hown2 : ∀ b, Owned B (w1.setCell ⟨B, 0, none⟩ v') b → v'.ownBlock = some b := by
    rintro b ⟨u, hu, hb⟩
    rw [hv2.cell] at hu
    cases hu
    exact hb
  refine ⟨hb2, fun _ => ⟨hv2.lt, fun b hb => hlt2 b (hown2 b hb)⟩, fun _ b hb => ?_, fun _ b o hb hc hn ho => ?_⟩
  · have h1 := hown2 b hb
    rcases hat with h | h
    · exact .inl ⟨v, hv.cell, by rw [← h]; exact h1⟩
    · rw [h] at h1
      cases h1
      exact .inr (by simp)
  · have hne : b ≠ B := by omega
    have hlt := (Array.getElem?_eq_some_iff.1 hb).1
    have h1 : (W.alloc tmp).heap[b]? = some o := (Below.heap_alloc W tmp b hlt).trans hb
    have h2 : w1.heap[b]? = some o := (hgrow.block b (by rw [World.size_alloc]; omega) (fun e' => ho ⟨v, hv.cell, e'.symm⟩)).trans h1
    exact (Below.heap_setCell w1 ⟨B, 0, none⟩ v' b hne).trans h2

theorem RoundIn.anyDepth {F : Fence} (hd : F.depth = none) {m m' : Nat} {P : Program} {l : Nat} {f : FuncId} {tmps : Array Value} {assign body : Code} {w : World} {R : Ending → World → Prop}
    (h : RoundIn F m P l f tmps assign body w R) : RoundIn F m' P l f tmps assign body w R := ⟨h.1, fun c cs _ => h.2 c cs (fun d hh => by rw [hd] at hh; cases hh)⟩
theorem YieldAt.anyDepth {F : Fence} (hd : F.depth = none) {m : Nat} (m' : Nat) {P : Program} {l : Nat} {args : Array Value} {W : World} {R : Ending → World → Prop} (h : YieldAt F m P l args W R) : YieldAt F m' P l args W R := by
  obtain ⟨fn, tmps, assign, body, hy, hR⟩ := h
  exact ⟨fn, tmps, assign, body, hy, RoundIn.anyDepth hd hR⟩
end Go.Proofs.Ytjeahgdefdlabaa
