/-
  Facts that the walks rest on: GkRep, GkRep2. No conditions beyond those stated.
-/
import Derived.Test.YtcnmfgdeanbhoaaGround
import Derived.Laws.OwnMore
import Derived.Deep.AppendLies
/-
  Slices whose elements hold further slices, in memory: what stands however some blocks turn (Ind); a slice whose elements read by a relation (RowR); one that the call itself owns (OwnR): make, append, a store. Nothing of the program. No conditions beyond those stated.
-/
namespace Go.Proofs.Ytcnmfgdeanbhoaa
open Go.RowKit
variable {α β : Type}

/-- The blocks of w stand in w', but for those of S. -/
def Agr (S : Nat → Prop) (w w' : World) : Prop := w.heap.size ≤ w'.heap.size ∧ ∀ T, T < w.heap.size → ¬ S T → w'.heap[T]? = w.heap[T]?
theorem Agr.refl (S : Nat → Prop) (w : World) : Agr S w w := ⟨Nat.le_refl _, fun _ _ _ => rfl⟩
theorem Agr.trans {S : Nat → Prop} {a b c : World} (h : Agr S a b) (k : Agr S b c) : Agr S a c :=
  ⟨Nat.le_trans h.1 k.1, fun T hT hS => (k.2 T (Nat.lt_of_lt_of_le hT h.1) hS).trans (h.2 T hT hS)⟩
theorem Agr.weak {S S' : Nat → Prop} {a b : World} (h : Agr S a b) (hs : ∀ T, T < a.heap.size → S T → S' T) : Agr S' a b := ⟨h.1, fun T hT hS => h.2 T hT fun k => hS (hs T hT k)⟩
theorem Lo.agr {w w' : World} (h : Lo w w') (S : Nat → Prop) : Agr S w w' := ⟨h.size, fun T hT _ => h.block T hT⟩
theorem agr_grown {w w' : World} {row : Option Nat} (h : w.grownBy w' row) {S : Nat → Prop} (hs : ∀ g, row = some g → S g) : Agr S w w' := ⟨h.size, fun T hT hS => h.block T hT fun e => hS (hs T e.symm)⟩
theorem agr_set (w : World) (p : Addr) (u : Value) {S : Nat → Prop} (hs : S p.block) : Agr S w (w.setCell p u) := by
  refine ⟨by simp, fun T _ hS => ?_⟩
  have hne : T ≠ p.block := by rintro rfl; exact hS hs
  exact Below.heap_setCell _ _ _ _ hne
theorem Agr.cell {S : Nat → Prop} {w w' : World} (h : Agr S w w') {b o : Nat} (hb : b < w.heap.size) (hS : ¬ S b) : w'.cell? ⟨b, o, none⟩ = w.cell? ⟨b, o, none⟩ := World.cell?_of_block (a := ⟨b, o, none⟩) (h.2 b hb hS)

/-- What holds of the memory, however the blocks of S turn, and whatever is made. -/
def Ind (P : World → Prop) (S : Nat → Prop) (w : World) : Prop := ∀ w', Agr S w w' → P w'
def No : Nat → Prop := fun _ => False
/-- It hangs on no block that was there in w. -/
abbrev New (P : World → Prop) (w w' : World) : Prop := Ind P (fun T => T < w.heap.size) w'
theorem Ind.self {P : World → Prop} {S : Nat → Prop} {w : World} (h : Ind P S w) : P w := h w (Agr.refl _ _)
theorem Ind.agr {P : World → Prop} {S : Nat → Prop} {w w' : World} (h : Ind P S w) (k : Agr S w w') : Ind P S w' := fun w2 k2 => h w2 (k.trans k2)
theorem Ind.lo {P : World → Prop} {S : Nat → Prop} {w w' : World} (h : Ind P S w) (k : Lo w w') : Ind P S w' := h.agr (k.agr _)
theorem Ind.weak {P : World → Prop} {S S' : Nat → Prop} {w : World} (h : Ind P S w) (hs : ∀ T, T < w.heap.size → S' T → S T) : Ind P S' w := fun w' k => h w' (k.weak hs)
/-- Blocks that are not there yet play no part. -/
theorem Ind.more {P : World → Prop} {S S' : Nat → Prop} {w : World} (h : Ind P S w) (hs : ∀ T, S' T → S T ∨ w.heap.size ≤ T) : Ind P S' w := h.weak fun T hT k => (hs T k).resolve_right (by omega)
theorem Ind.mono {P Q : World → Prop} {S : Nat → Prop} {w : World} (h : Ind P S w) (hpq : ∀ w', P w' → Q w') : Ind Q S w := fun w' k => hpq w' (h w' k)
theorem Ind.and {P Q : World → Prop} {S : Nat → Prop} {w : World} (h : Ind P S w) (k : Ind Q S w) : Ind (fun W => P W ∧ Q W) S w := fun w' a => ⟨h w' a, k w' a⟩
/-- What stood at the outset hangs on no block that was made since. -/
theorem Ind.old {P : World → Prop} {w0 w : World} (h : Ind P No w0) (k : Lo w0 w) : Ind P (fun T => w0.heap.size ≤ T) w := fun w' a => h w' ⟨Nat.le_trans k.size a.1, fun T hT _ => (a.2 T (Nat.lt_of_lt_of_le hT k.size) (by omega)).trans (k.block T hT)⟩
theorem ind_true {P : World → Prop} (h : ∀ w, P w) (S : Nat → Prop) (w : World) : Ind P S w := fun w' _ => h w'

/-! Slices of ints. -/
theorem Row.ind {w : World} {v : Value} {l : List Int} (h : Row w v l) {S : Nat → Prop} (hS : ∀ b, v.ownBlock = some b → ¬ S b) : Ind (fun W => Row W v l) S w := by
  intro w' a
  rcases h with h | ⟨b, off, cap, rfl, h2, h2b, h3, h4⟩
  · exact .inl h
  · exact .inr ⟨b, off, cap, rfl, h2, h2b, Nat.lt_of_lt_of_le h3 a.1, fun i hi => by rw [a.cell h3 (hS b rfl)]; exact h4 i hi⟩
theorem Row.ind_no {w : World} {v : Value} {l : List Int} (h : Row w v l) : Ind (fun W => Row W v l) No w := h.ind fun _ _ k => k
/-- One that the call itself owns hangs on no block that was there. -/
theorem Own.new {w0 w : World} {base : Nat} {v : Value} {l : List Int} (h : Own w base v l) (hb : w0.heap.size ≤ base) : New (fun W => Row W v l) w0 w :=
  h.row.ind fun b e k => by have := (World.ownsRow.lt h b e).1; omega
theorem row_nil_ind (S : Nat → Prop) (w : World) : Ind (fun W => Row W (.slice none 0 0) []) S w := ind_true (fun _ => .inl ⟨_, _, rfl, fun _ => rfl, rfl⟩) _ _

/-! Slices whose elements read by a relation. -/
def RowR (R : World → List Value → α → Prop) (k : Nat) (w : World) (v : Value) (l : List α) : Prop :=
  (∃ p c, v = .slice p 0 c ∧ (p = none → c = 0) ∧ l = []) ∨
  ∃ b off cap, v = .slice (some ⟨b, off, none⟩) l.length cap ∧ l.length ≤ 9223372036854775807 ∧ l.length ≤ cap ∧ b < w.heap.size ∧
    ∀ i x, l[i]? = some x → ∃ cs : List Value, cs.length = k ∧ R w cs x ∧ ∀ j, j < k → w.cell? ⟨b, off + i * k + j, none⟩ = cs[j]?
theorem RowR.form {R : World → List Value → α → Prop} {k : Nat} {w : World} {v : Value} {l : List α} (h : RowR R k w v l) : ∃ p c, v = .slice p l.length c ∧ l.length ≤ 9223372036854775807 := by
  rcases h with ⟨p, c, rfl, _, rfl⟩ | ⟨b, off, cap, rfl, h2, h2b, h3, h4⟩
  · exact ⟨_, _, rfl, by simp⟩
  · exact ⟨_, _, rfl, h2⟩
theorem RowR.at_ {R : World → List Value → α → Prop} {k : Nat} {w : World} {p : Option Addr} {n c : Nat} {l : List α} (h : RowR R k w (.slice p n c) l) {i : Nat} {x : α} (hx : l[i]? = some x) :
    ∃ b off cs, p = some ⟨b, off, none⟩ ∧ b < w.heap.size ∧ cs.length = k ∧ R w cs x ∧ ∀ j, j < k → w.cell? ⟨b, off + i * k + j, none⟩ = cs[j]? := by
  rcases h with ⟨_, _, h1, _, rfl⟩ | ⟨b, off, cap, h1, h2, h2b, h3, h4⟩
  · simp at hx
  · injection h1 with hp hn _
    obtain ⟨cs, q1, q2, q3⟩ := h4 i x hx
    exact ⟨b, off, cs, hp, h3, q1, q2, q3⟩
theorem RowR.nil (R : World → List Value → α → Prop) (k : Nat) (w : World) : RowR R k w (.slice none 0 0) [] := .inl ⟨_, _, rfl, fun _ => rfl, rfl⟩
theorem RowR.map {R R' : World → List Value → α → Prop} {k : Nat} {w : World} {v : Value} {l : List α} (h : RowR R k w v l) (hR : ∀ cs x, R w cs x → R' w cs x) : RowR R' k w v l := by
  rcases h with h | ⟨b, off, cap, rfl, h2, h2b, h3, h4⟩
  · exact .inl h
  · exact .inr ⟨b, off, cap, rfl, h2, h2b, h3, fun i x hx => by obtain ⟨cs, q1, q2, q3⟩ := h4 i x hx; exact ⟨cs, q1, hR _ _ q2, q3⟩⟩
/-- The whole hangs on what the row and its elements hang on. -/
theorem RowR.ind {R : World → List Value → α → Prop} {k : Nat} {w : World} {v : Value} {l : List α} {S : Nat → Prop} (h : RowR (fun w cs x => Ind (fun W => R W cs x) S w) k w v l) (hS : ∀ b, v.ownBlock = some b → ¬ S b) : Ind (fun W => RowR R k W v l) S w := by
  intro w' a
  rcases h with h | ⟨b, off, cap, rfl, h2, h2b, h3, h4⟩
  · exact .inl h
  · exact .inr ⟨b, off, cap, rfl, h2, h2b, Nat.lt_of_lt_of_le h3 a.1, fun i x hx => by
      obtain ⟨cs, q1, q2, q3⟩ := h4 i x hx
      exact ⟨cs, q1, q2 w' a, fun j hj => by rw [a.cell h3 (hS b rfl)]; exact q3 j hj⟩⟩
/-- A relation that stands while blocks are only made. -/
def Stays (R : World → List Value → α → Prop) : Prop := ∀ w w' cs x, Agr No w w' → R w cs x → R w' cs x
theorem Stays.ind {R : World → List Value → α → Prop} (h : Stays R) {w : World} {cs : List Value} {x : α} (k : R w cs x) : Ind (fun W => R W cs x) No w := fun w' a => h w w' cs x a k
theorem RowR.stays {R : World → List Value → α → Prop} (hR : Stays R) {k : Nat} {w w' : World} {v : Value} {l : List α} (h : RowR R k w v l) (a : Agr No w w') : RowR R k w' v l :=
  (RowR.ind (S := No) (h.map fun _ _ q => hR.ind q) fun _ _ k => k) w' a
theorem RowR.lo {R : World → List Value → α → Prop} (hR : Stays R) {k : Nat} {w w' : World} {v : Value} {l : List α} (h : RowR R k w v l) (a : Lo w w') : RowR R k w' v l := h.stays hR (a.agr _)

/-! Rows of the call's own. -/
theorem flatten_len (k : Nat) : ∀ css : List (List Value), (∀ cs ∈ css, cs.length = k) → css.flatten.length = css.length * k
  | [], _ => by simp
  | cs :: r, h => by
    rw [List.flatten_cons, List.length_append, h cs (by simp), flatten_len k r fun c hc => h c (List.mem_cons_of_mem _ hc), List.length_cons, Nat.add_mul]; omega
theorem flatten_at (k : Nat) : ∀ (css : List (List Value)), (∀ cs ∈ css, cs.length = k) → ∀ (i : Nat) (cs : List Value) (j : Nat), css[i]? = some cs → j < k → css.flatten[i * k + j]? = cs[j]?
  | [], _, i, cs, j, h, _ => by simp at h
  | c :: r, h, 0, cs, j, hx, hj => by
    simp at hx; subst hx
    rw [List.flatten_cons, Nat.zero_mul, Nat.zero_add, List.getElem?_append_left (by rw [h c (by simp)]; exact hj)]
  | c :: r, h, i + 1, cs, j, hx, hj => by
    rw [List.flatten_cons, List.getElem?_append_right (by rw [h c (by simp), Nat.add_mul]; omega), h c (by simp), show (i + 1) * k + j - k = i * k + j by rw [Nat.add_mul]; omega]
    exact flatten_at k r (fun q hq => h q (List.mem_cons_of_mem _ hq)) i cs j (by simpa using hx) hj

/-- The slice v, of the call's own blocks (from base on), holds elements that read as l; what they hang on is neither that row nor a block of D. -/
def OwnR (R : World → List Value → α → Prop) (ty k : Nat) (D : Nat → Prop) (w : World) (base : Nat) (v : Value) (l : List α) : Prop :=
  ∃ css : List (List Value), css.length = l.length ∧ (∀ cs ∈ css, cs.length = k) ∧ w.ownsRow base ty k v l.length css.flatten ∧
    ∀ (i : Nat) (x : α) (cs : List Value), l[i]? = some x → css[i]? = some cs → Ind (fun W => R W cs x) (fun T => D T ∨ v.ownBlock = some T) w
variable {R : World → List Value → α → Prop} {ty k : Nat} {D : Nat → Prop} {w w' : World} {base : Nat} {v : Value} {l : List α}
theorem OwnR.none (R : World → List Value → α → Prop) (ty k : Nat) (D : Nat → Prop) (w : World) (base : Nat) : OwnR R ty k D w base (.slice none 0 0) [] :=
  ⟨[], rfl, by simp, World.ownsRow_nil w base _ _, by simp⟩
theorem OwnR.lo (h : OwnR R ty k D w base v l) (a : Lo w w') : OwnR R ty k D w' base v l := by
  obtain ⟨css, h1, h2, h3, h4⟩ := h
  exact ⟨css, h1, h2, own_lo h3 a, fun i x cs hx hc => (h4 i x cs hx hc).lo a⟩
theorem OwnR.form (h : OwnR R ty k D w base v l) : ∃ p c, v = .slice p l.length c := by
  obtain ⟨css, h1, h2, h3, h4⟩ := h
  rcases h3.2 with ⟨rfl, hn⟩ | ⟨g, cap, cur, rfl, _⟩
  · exact ⟨_, _, by rw [hn]⟩
  · exact ⟨_, _, rfl⟩
theorem OwnR.mono {base' : Nat} (h : OwnR R ty k D w base v l) (hb : base' ≤ base) : OwnR R ty k D w base' v l := by
  obtain ⟨css, h1, h2, h3, h4⟩ := h
  refine ⟨css, h1, h2, ⟨h3.1, ?_⟩, h4⟩
  rcases h3.2 with h5 | ⟨g, cap, cur, hv, hg, r⟩
  · exact .inl h5
  · exact .inr ⟨g, cap, cur, hv, by omega, r⟩
theorem OwnR.lt (h : OwnR R ty k D w base v l) {g : Nat} (hg : v.ownBlock = some g) : base ≤ g ∧ g < w.heap.size := by
  obtain ⟨css, h1, h2, h3, h4⟩ := h
  exact World.ownsRow.lt h3 g hg
/-- It reads, and each element hangs on no block of D. -/
theorem OwnR.rowD (h : OwnR R ty k D w base v l) : RowR (fun w cs x => Ind (fun W => R W cs x) D w) k w v l := by
  obtain ⟨css, h1, h2, h3, h4⟩ := h
  rcases h3.2 with ⟨rfl, hn⟩ | ⟨g, cap, cur, rfl, hg, hh, hnc, hcm, hcs, ht⟩
  · exact .inl ⟨_, _, rfl, fun _ => rfl, List.eq_nil_of_length_eq_zero hn⟩
  · have hlt : g < w.heap.size := by
      rcases Nat.lt_or_ge g w.heap.size with hlt | hge
      · exact hlt
      · rw [Array.getElem?_eq_none hge] at hh; cases hh
    refine .inr ⟨g, 0, cap, rfl, by unfold maxLen at hcm; omega, hnc, hlt, fun i x hx => ?_⟩
    have hi : i < l.length := (List.getElem?_eq_some_iff.1 hx).1
    have hc : css[i]? = some css[i] := List.getElem?_eq_getElem (by omega)
    have hck := h2 _ (List.mem_of_getElem? hc)
    refine ⟨css[i], hck, (h4 i x _ hx hc).weak (fun T _ q => .inl q), fun j hj => ?_⟩
    have hb : i * k + j < l.length * k := by
      have : (i + 1) * k ≤ l.length * k := Nat.mul_le_mul_right _ hi
      rw [Nat.add_mul] at this; omega
    have hcell := h3.cellAt (g := g) (cap := cap) (i * k + j) (by omega)
    rw [Nat.zero_add, hcell]
    exact flatten_at k css h2 i _ j hc hj
theorem OwnR.row (h : OwnR R ty k D w base v l) : RowR R k w v l := h.rowD.map fun _ _ q => q.self
/-- It hangs on no block that was there, if its elements don't. -/
theorem OwnR.ind (h : OwnR R ty k D w base v l) (hd : ∀ T, D T → T < base) : Ind (fun W => RowR R k W v l) D w :=
  RowR.ind h.rowD fun b e q => by have := (h.lt e).1; have := hd b q; omega
theorem OwnR.new {w0 : World} (h : OwnR R ty k (fun T => T < w0.heap.size) w base v l) (hb : w0.heap.size ≤ base) : New (fun W => RowR R k W v l) w0 w := h.ind fun T q => by omega
/-- Other blocks turn: what is owned stays. -/
theorem OwnR.agr {S : Nat → Prop} (h : OwnR R ty k D w base v l) (a : Agr S w w') (hv : ∀ g, v.ownBlock = some g → ¬ S g) (hs : ∀ T, S T → D T) : OwnR R ty k D w' base v l := by
  obtain ⟨css, h1, h2, h3, h4⟩ := h
  refine ⟨css, h1, h2, ⟨h3.1, ?_⟩, fun i x cs hx hc => (h4 i x cs hx hc).agr (a.weak fun T _ q => .inl (hs T q))⟩
  rcases h3.2 with h5 | ⟨g, cap, cur, hv', hg, hh, r⟩
  · exact .inl h5
  · refine .inr ⟨g, cap, cur, hv', hg, ?_, r⟩
    have hlt : g < w.heap.size := by
      rcases Nat.lt_or_ge g w.heap.size with hlt | hge
      · exact hlt
      · rw [Array.getElem?_eq_none hge] at hh; cases hh
    rw [a.2 g hlt (hv g (by rw [hv']; rfl))]; exact hh

/-- Behind an append: one element more. -/
theorem OwnR.grown {css : List (List Value)} {y : α} {cs : List Value} {g cap : Nat} (h1 : css.length = l.length) (h2 : ∀ cs ∈ css, cs.length = k) (hy : cs.length = k)
    (h4 : ∀ (i : Nat) (x : α) (cs : List Value), l[i]? = some x → css[i]? = some cs → Ind (fun W => R W cs x) (fun T => D T ∨ v.ownBlock = some T) w) (hi : Ind (fun W => R W cs y) (fun T => D T ∨ v.ownBlock = some T) w)
    (hown : w'.ownsRow base ty k (.slice (some ⟨g, 0, .none⟩) (l.length + 1) cap) (l.length + 1) (css.flatten ++ cs)) (hg : w.grownBy w' v.ownBlock) (hw : v.ownBlock = some g ∨ g = w.heap.size) :
    OwnR R ty k D w' base (.slice (some ⟨g, 0, .none⟩) (l.length + 1) cap) (l ++ [y]) := by
  have ha : Agr (fun T => D T ∨ v.ownBlock = some T) w w' := agr_grown hg fun g hg => .inr hg
  have tr : ∀ {P : World → Prop}, Ind P (fun T => D T ∨ v.ownBlock = some T) w → Ind P (fun T => D T ∨ (Value.slice (some ⟨g, 0, .none⟩) (l.length + 1) cap).ownBlock = some T) w' := by
    intro P hP w2 a2
    refine hP w2 ⟨Nat.le_trans ha.1 a2.1, fun T hT hS => ?_⟩
    rw [← ha.2 T hT hS]
    refine a2.2 T (Nat.lt_of_lt_of_le hT ha.1) ?_
    rintro (q | q)
    · exact hS (.inl q)
    · have e : g = T := by simpa [Value.ownBlock] using q
      subst e
      rcases hw with hw | hw
      · exact hS (.inr hw)
      · omega
  refine ⟨css ++ [cs], by simp [h1], ?_, by rw [List.length_append, List.flatten_append]; simpa using hown, ?_⟩
  · intro c hc
    rcases List.mem_append.1 hc with hc | hc
    · exact h2 c hc
    · rw [List.mem_singleton] at hc; subst hc; exact hy
  · intro i x c hx hc
    rcases Nat.lt_or_ge i l.length with hlt | hge
    · rw [List.getElem?_append_left hlt] at hx
      rw [List.getElem?_append_left (by omega)] at hc
      exact tr (h4 i x c hx hc)
    · rw [List.getElem?_append_right hge] at hx
      rw [List.getElem?_append_right (by omega), h1] at hc
      have hz : i - l.length = 0 := by have := (List.getElem?_eq_some_iff.1 hx).1; simp at this; omega
      rw [hz] at hx hc
      simp at hx hc
      subst hx hc
      exact tr hi
end Go.Proofs.Ytcnmfgdeanbhoaa
/-
  Slices whose elements hold further slices, further: make, append of one element, a store, for the walk. Nothing of the program. No conditions beyond those stated.
-/
namespace Go.Proofs.Ytcnmfgdeanbhoaa
open Go.RowKit
variable {α : Type}

/-! A store of one element. -/
/-- Cells laid one behind another, from a place on. -/
def setAt (w : World) (g : Nat) : Nat → List Value → World
  | _, [] => w
  | o, u :: r => setAt (w.setCell ⟨g, o, none⟩ u) g (o + 1) r
/-- The list with some of its elements laid anew. -/
def putAt : List Value → Nat → List Value → List Value
  | xs, _, [] => xs
  | xs, o, u :: r => putAt (xs.set o u) (o + 1) r
theorem putAt_len : ∀ (cs xs : List Value) (o : Nat), (putAt xs o cs).length = xs.length
  | [], _, _ => rfl
  | u :: r, xs, o => by rw [putAt, putAt_len r, List.length_set]
theorem putAt_get : ∀ (cs xs : List Value) (o i : Nat), (putAt xs o cs)[i]? = if o ≤ i ∧ i < o + cs.length ∧ i < xs.length then cs[i - o]? else xs[i]?
  | [], xs, o, i => by rw [if_neg (by simp; omega)]; rfl
  | u :: r, xs, o, i => by
    rw [putAt, putAt_get r (xs.set o u) (o + 1) i, List.length_set, List.length_cons, List.getElem?_set]
    by_cases h1 : o + 1 ≤ i ∧ i < o + 1 + r.length ∧ i < xs.length
    · rw [if_pos h1, if_pos (by omega), show i - o = (i - (o + 1)) + 1 by omega, List.getElem?_cons_succ]
    · rw [if_neg h1]
      by_cases h2 : o = i
      · subst h2
        rw [if_pos rfl]
        by_cases h3 : o < xs.length
        · rw [if_pos h3, if_pos (by omega)]; simp
        · rw [if_neg h3, if_neg (by omega), List.getElem?_eq_none (by omega)]
      · rw [if_neg h2, if_neg (by omega)]
theorem setAt_heap : ∀ (cs : List Value) (w : World) (g o : Nat) (cur : Array Value) (ty : Nat), w.heap[g]? = some (.cells cur ty (0, 0)) →
    ∃ cur', (setAt w g o cs).heap[g]? = some (.cells cur' ty (0, 0)) ∧ cur'.toList = putAt cur.toList o cs ∧ (setAt w g o cs).heap.size = w.heap.size ∧ (∀ T, T ≠ g → (setAt w g o cs).heap[T]? = w.heap[T]?)
  | [], w, g, o, cur, ty, h => ⟨cur, h, rfl, rfl, fun _ _ => rfl⟩
  | u :: r, w, g, o, cur, ty, h => by
    have h1 : (w.setCell ⟨g, o, none⟩ u).heap[g]? = some (.cells (cur.setIfInBounds o u) ty (0, 0)) := by
      rw [Sort.setCell_eq]
      simp [Sort.mapBlock, Array.getElem?_modify, h, Sort.onCells]
    obtain ⟨cur', q1, q2, q3, q4⟩ := setAt_heap r _ g (o + 1) _ ty h1
    refine ⟨cur', q1, by rw [q2, Array.toList_setIfInBounds]; rfl, by rw [setAt, q3]; simp, fun T hT => ?_⟩
    rw [setAt, q4 T hT]
    exact Below.heap_setCell _ _ _ _ (by exact hT)
theorem setAt_two (w : World) (g o : Nat) (a b : Value) : (w.setCell ⟨g, o, none⟩ a).setCell ⟨g, o + 1, none⟩ b = setAt w g o [a, b] := rfl
theorem setAt_one (w : World) (g o : Nat) (a : Value) : w.setCell ⟨g, o, none⟩ a = setAt w g o [a] := rfl
theorem setAt_lo (cs : List Value) {w0 w : World} {g : Nat} (h : Lo w0 w) (hg : w0.heap.size ≤ g) (o : Nat) : Lo w0 (setAt w g o cs) := by
  induction cs generalizing w o with
  | nil => exact h
  | cons u r ih => exact ih (h.set (p := ⟨g, o, none⟩) hg u) (o + 1)
theorem flatten_put (k : Nat) (css : List (List Value)) (h : ∀ cs ∈ css, cs.length = k) {i : Nat} (hi : i < css.length) {cs : List Value} (hc : cs.length = k) : putAt css.flatten (i * k) cs = (css.set i cs).flatten := by
  have h2 : ∀ c ∈ css.set i cs, c.length = k := fun c hm => by
    rcases List.mem_or_eq_of_mem_set hm with q | q
    · exact h c q
    · rw [q]; exact hc
  apply List.ext_getElem?
  intro t
  rw [putAt_get, flatten_len k css h]
  by_cases ht : t < css.length * k
  · have hk0 : 0 < k := by
      rcases Nat.eq_zero_or_pos k with e | e
      · subst e; simp at ht
      · exact e
    have hdiv : t / k < css.length := Nat.div_lt_of_lt_mul (by rw [Nat.mul_comm]; exact ht)
    have hmod : t % k < k := Nat.mod_lt _ hk0
    have hdm : t / k * k + t % k = t := by rw [Nat.mul_comm]; exact Nat.div_add_mod t k
    have e1 := flatten_at k css h (t / k) _ (t % k) (List.getElem?_eq_getElem hdiv) hmod
    have e2 := flatten_at k (css.set i cs) h2 (t / k) ((css.set i cs)[t / k]'(by rw [List.length_set]; exact hdiv)) (t % k) (List.getElem?_eq_getElem _) hmod
    rw [hdm] at e1 e2
    rw [e2, List.getElem_set]
    have hik : (i + 1) * k ≤ css.length * k := Nat.mul_le_mul_right _ hi
    rw [Nat.add_mul] at hik
    by_cases he : i = t / k
    · rw [if_pos he, if_pos (by rw [hc, he]; omega), he]
      congr 1; omega
    · rw [if_neg he, if_neg ?_, e1]
      rintro ⟨q1, q2, _⟩
      rw [hc] at q2
      apply he
      rcases Nat.lt_trichotomy i (t / k) with c | c | c
      · have : (i + 1) * k ≤ t / k * k := Nat.mul_le_mul_right _ c
        rw [Nat.add_mul] at this; omega
      · exact c
      · have : (t / k + 1) * k ≤ i * k := Nat.mul_le_mul_right _ c
        rw [Nat.add_mul] at this; omega
  · rw [if_neg (by omega), List.getElem?_eq_none (by rw [flatten_len k css h]; omega), List.getElem?_eq_none (by rw [flatten_len k _ h2, List.length_set]; omega)]

variable {R : World → List Value → α → Prop} {ty k : Nat} {D : Nat → Prop} {w w' : World} {base : Nat} {v : Value} {l : List α}
/-- A place of a row of the call's own: it can be read and written; behind the store it holds the new element. -/
theorem OwnR.slot (h : OwnR R ty k D w base v l) {i : Nat} (hi : i < l.length) :
    ∃ g cap, v = .slice (some ⟨g, 0, .none⟩) l.length cap ∧ base ≤ g ∧ g < w.heap.size ∧ (∃ old : List Value, old.length = k ∧ ∀ j, j < k → w.cell? ⟨g, i * k + j, .none⟩ = old[j]?) ∧ (∀ o, w.frozen? ⟨g, o, .none⟩ = false) ∧
      ∀ (cs : List Value) (y : α), cs.length = k → Ind (fun W => R W cs y) (fun T => D T ∨ T = g) w → OwnR R ty k D (setAt w g (i * k) cs) base v (l.set i y) := by
  obtain ⟨css, h1, h2, h3, h4⟩ := h
  rcases h3.2 with ⟨rfl, hn⟩ | ⟨g, cap, cur, rfl, hg, hh, hnc, hcm, hcs, ht⟩
  · omega
  · have hlt : g < w.heap.size := by
      rcases Nat.lt_or_ge g w.heap.size with hlt | hge
      · exact hlt
      · rw [Array.getElem?_eq_none hge] at hh; cases hh
    have hc : css[i]? = some css[i] := List.getElem?_eq_getElem (by omega)
    refine ⟨g, cap, rfl, hg, hlt, ⟨css[i], h2 _ (List.mem_of_getElem? hc), fun j hj => ?_⟩, fun o => block_frozen hh, fun cs y hcl hy => ?_⟩
    · have hb : i * k + j < l.length * k := by
        have : (i + 1) * k ≤ l.length * k := Nat.mul_le_mul_right _ hi
        rw [Nat.add_mul] at this; omega
      rw [h3.cellAt (g := g) (cap := cap) (i * k + j) hb]
      exact flatten_at k css h2 i _ j hc hj
    · obtain ⟨cur', q1, q2, q3, q4⟩ := setAt_heap cs w g (i * k) cur ty hh
      have ha : Agr (fun T => D T ∨ T = g) w (setAt w g (i * k) cs) := ⟨by rw [q3]; exact Nat.le_refl _, fun T _ hS => q4 T fun e => hS (.inr e)⟩
      have own : ∀ T, (Value.slice (some ⟨g, 0, .none⟩) l.length cap).ownBlock = some T ↔ T = g := fun T => by simp [Value.ownBlock, eq_comm]
      have tr : ∀ {P : World → Prop}, Ind P (fun T => D T ∨ T = g) w → Ind P (fun T => D T ∨ (Value.slice (some ⟨g, 0, .none⟩) l.length cap).ownBlock = some T) (setAt w g (i * k) cs) := fun {P} hP =>
        (hP.agr ha).weak fun T _ q => q.imp id (own T).1
      refine ⟨css.set i cs, by simp [h1], fun c hm => ?_, ?_, fun t x c hx hcc => ?_⟩
      · rcases List.mem_or_eq_of_mem_set hm with q | q
        · exact h2 c q
        · rw [q]; exact hcl
      · rw [List.length_set, ← flatten_put k css h2 (by omega) hcl]
        refine ⟨by rw [putAt_len]; exact h3.1, .inr ⟨g, cap, cur', rfl, hg, q1, hnc, hcm, ?_, ?_⟩⟩
        · have : cur'.toList.length = cur.toList.length := by rw [q2, putAt_len]
          simpa [← hcs] using this
        · rw [q2]
          apply List.ext_getElem?
          intro t
          have hlen : css.flatten.length = l.length * k := h3.1
          have hik : (i + 1) * k ≤ l.length * k := Nat.mul_le_mul_right _ hi
          rw [Nat.add_mul] at hik
          have hcap : l.length * k ≤ cap * k := Nat.mul_le_mul_right _ hnc
          have hcz : cur.toList.length = cap * k := by simpa using hcs
          rw [List.getElem?_take, putAt_get, putAt_get, hlen, hcz]
          by_cases hlt2 : t < l.length * k
          · rw [if_pos hlt2]
            by_cases hin : i * k ≤ t ∧ t < i * k + cs.length
            · rw [if_pos (by omega), if_pos (by omega)]
            · rw [if_neg (by omega), if_neg (by omega), ← ht, List.getElem?_take, if_pos hlt2]
          · rw [if_neg hlt2, if_neg (by omega), List.getElem?_eq_none (by omega)]
      · rw [List.getElem?_set] at hx hcc
        by_cases he : i = t
        · rw [if_pos he, if_pos (by omega)] at hx hcc
          injection hx with hx
          injection hcc with hcc
          subst hx hcc
          exact tr hy
        · rw [if_neg he] at hx hcc
          exact tr ((h4 t x c hx hcc).weak fun T _ q => q.imp id (own T).2)

/-! make. -/
theorem made_cells (z : List Value) (n k : Nat) (hz : z.length = k) (hk : 0 < k) : madeCells z.toArray (n * k) = (List.replicate n z).flatten.toArray := by
  have h2 : ∀ cs ∈ List.replicate n z, cs.length = k := fun cs h => by rw [List.eq_of_mem_replicate h]; exact hz
  apply Array.ext
  · rw [size_madeCells, List.size_toArray, flatten_len k _ h2, List.length_replicate]
  · intro i h1 h3
    rw [size_madeCells] at h1
    have hdiv : i / k < n := Nat.div_lt_of_lt_mul (by rw [Nat.mul_comm]; exact h1)
    have hmod : i % k < k := Nat.mod_lt _ hk
    have hdm : i / k * k + i % k = i := by rw [Nat.mul_comm]; exact Nat.div_add_mod i k
    have e := flatten_at k (List.replicate n z) h2 (i / k) z (i % k) (by simp [hdiv]) hmod
    rw [hdm] at e
    have e2 : ((List.replicate n z).flatten.toArray)[i]? = z[i % k]? := by rw [List.getElem?_toArray]; exact e
    rw [Array.getElem?_eq_getElem h3, List.getElem?_eq_getElem (by omega)] at e2
    injection e2 with e2
    rw [e2]
    simp [madeCells, hz, hmod]
/-- The world behind make([]T, n): a plain def, closed to the walk. -/
def madeR (z : List Value) (n ty : Nat) (W : World) : World := W.alloc (.cells (List.replicate n z).flatten.toArray ty)
theorem madeR_run {t e k bytes : Nat} {zv : Value} (hu : Try.prog.underlying t = some (.slice e)) (hinfo : (Try.prog.info? e).map (fun i => (i.zero, i.size, i.bytes)) = some (some zv, k, bytes)) (z : List Value) (hzc : zv.cells = z.toArray) (hz : z.length = k) (hk : 0 < k) (hkb : k ≤ 16)
    (hby : bytes ≤ 1000) (n : Nat) (hn : n ≤ 1000000) (N : Int) (hN : N = (n : Int)) (W : World) : (Instr.makeSlice t (.int .i64 N) (.int .i64 N)).run Try.prog W = .ok (.slice (some ⟨W.heap.size, 0, none⟩) n n) (madeR z n e W) := by
  subst hN
  obtain ⟨i0, hi0, hz0, hz1, hz2⟩ := info_parts hinfo
  have hnk : n * k ≤ 1000000 * 16 := Nat.mul_le_mul hn hkb
  have hnb : bytes * n ≤ 1000 * 1000000 := Nat.mul_le_mul hby hn
  have hnb2 : (bytes : Int) * (n : Int) ≤ 281474976710656 := by rw [← Int.natCast_mul]; omega
  have := run_makeSlice (P := Try.prog) W t e i0 zv hu hi0 hz0 .i64 .i64 (n : Int) (n : Int) (by omega) (by omega) (by rw [hz1, Int.toNat_natCast]; omega) (by rw [hz2]; exact hnb2) (by omega)
  rw [hz1, Int.toNat_natCast, hzc, made_cells z n k hz hk] at this
  exact this
theorem madeR_lo (z : List Value) (n ty : Nat) (W : World) : Lo W (madeR z n ty W) := (Lo.refl W).alloc _
theorem madeR_own (R : World → List Value → α → Prop) {z : List Value} {x : α} (hR : ∀ W, R W z x) (hz : z.length = k) (n : Nat) (hn : n ≤ 1000000) (ty : Nat) (D : Nat → Prop) (W : World) :
    OwnR R ty k D (madeR z n ty W) W.heap.size (.slice (some ⟨W.heap.size, 0, .none⟩) n n) (List.replicate n x) := by
  have h2 : ∀ cs ∈ List.replicate n z, cs.length = k := fun cs h => by rw [List.eq_of_mem_replicate h]; exact hz
  refine ⟨List.replicate n z, by simp, h2, ?_, fun i y cs hy hc => ?_⟩
  · rw [List.length_replicate]
    have := World.ownsRow_lit (base := W.heap.size) (e := ty) (size := k) W (List.replicate n z).flatten.toArray n (Nat.le_refl _) (by unfold maxLen; omega) (by rw [List.size_toArray, flatten_len k _ h2, List.length_replicate])
    exact this
  · have e1 := List.eq_of_mem_replicate (List.mem_of_getElem? hy)
    have e2 := List.eq_of_mem_replicate (List.mem_of_getElem? hc)
    subst e1 e2
    exact ind_true hR _ _
/-- make([]T, 0, n). -/
theorem wpList_mkR (R : World → List Value → α → Prop) (w : World) {ops : Array Oper} {rest : List Oper} {o : Oper} {a : Act} {Q : Exit → Act → World → Prop} (hgd : o.guard = none) (l c : Operand) (t : TypeId)
    (hop : o.op = Op.makeSlice t l c) (e : TypeId) (k bytes : Nat) (z : Value) (hu : Try.prog.underlying t = some (.slice e)) (hinfo : (Try.prog.info? e).map (fun i => (i.zero, i.size, i.bytes)) = some (some z, k, bytes)) (hby : bytes ≤ 100000)
    (D : Nat → Prop) (base : Nat) (C : Int) (n : Nat) (hl : a.eval l = .int .i64 0) (hc : a.eval c = .int .i64 C) (hC : C = (n : Int)) (hn : n ≤ 1000000) (hbase : base ≤ w.heap.size)
    (h : ∀ p c w', OwnR R e k D w' base (.slice p 0 c) [] → Lo w w' → wpList Try.prog ops Q rest (a.put o.dst (.slice p 0 c)) w') : wpList Try.prog ops Q (o :: rest) a w := by
  obtain ⟨i0, hi0, hz0, hz1, hz2⟩ := info_parts hinfo
  refine wpList_make_own w hgd l c t hop base e i0 _ k hu hi0 hz0 hz1 .i64 .i64 C n hl hc hC ?_ (by unfold maxLen; omega) hbase ?_
  · rw [hz2]
    exact Nat.le_trans (Nat.mul_le_mul hby hn) (by omega)
  intro w' hown hg
  refine h _ _ w' ⟨[], rfl, by simp, hown, by simp⟩ ?_
  exact Below.grown (Lo.refl w) hg (Nat.le_refl _) (fun k hk => by cases hk)

/-! append of one element. -/
/-- What an append tells: the row, what stood below the base, and the blocks that are not the row's. -/
def Told (R : World → List Value → α → Prop) (ty k : Nat) (D : Nat → Prop) (base : Nat) (v : Value) (l : List α) (y : α) (w : World) (v' : Value) (w' : World) : Prop :=
  OwnR R ty k D w' base v' (l ++ [y]) ∧ (∀ w0, Lo w0 w → w0.heap.size ≤ base → Lo w0 w') ∧ Agr (fun T => v.ownBlock = some T) w w' ∧ (∀ g, v'.ownBlock = some g → v.ownBlock = some g ∨ g = w.heap.size)
theorem wpList_appR (w : World) {ops : Array Oper} {rest : List Oper} {o : Oper} {a : Act} {Q : Exit → Act → World → Prop} (hgd : o.guard = none) (s x : Operand) (t : TypeId)
    (ho : o.op = .call { callee := .builtin .append, args := #[s, x], argTypes := #[t, t] })
    (e : TypeId) (k bytes : Nat) (z : Value) (hu : Try.prog.underlying t = some (.slice e)) (hinfo : (Try.prog.info? e).map (fun i => (i.zero, i.size, i.bytes)) = some (some z, k, bytes)) (hzl : z.cells.size = k) (hby : bytes ≤ 100000) (hk0 : 0 < k)
    (D : Nat → Prop) (base : Nat) (v : Value) (l : List α) (hs : a.eval s = v) (hown : OwnR R e k D w base v l) (X : Nat) (cs : List Value) (y : α) (hx : a.eval x = .slice (some ⟨X, 0, none⟩) 1 1) (hcl : cs.length = k) (hc1 : ∀ u ∈ cs, u.oneCell' = true)
    (hcell : ∀ j u, cs[j]? = some u → w.cell? ⟨X, j, none⟩ = some u) (hi : Ind (fun W => R W cs y) (fun T => D T ∨ v.ownBlock = some T) w) (hlen : l.length + 1 ≤ 1000000) (hbase : base ≤ w.heap.size)
    (h : ∀ p c w', Told R e k D base v l y w (.slice p (l.length + 1) c) w' → wpList Try.prog ops Q rest (a.put o.dst (.slice p (l.length + 1) c)) w') : wpList Try.prog ops Q (o :: rest) a w := by
  obtain ⟨i0, hi0, hz0, hz1, hz2⟩ := info_parts hinfo
  obtain ⟨css, h1, h2, h3, h4⟩ := hown
  have hbb : (l.length + 1) * bytes ≤ 1000000 * 100000 := Nat.mul_le_mul hlen hby
  refine wpList_append_lies w hgd s x t ho base e i0 z k bytes hu hi0 hz0 hz1 hz2 hzl hk0 v l.length _ hs h3 ⟨X, 0, .none⟩ 1 1 cs hx (by rw [hcl]; omega) ?_ hc1 (by omega) (by unfold maxLen; omega) (by omega) hbase _ rfl ?_
  · intro j u hj
    have e1 : (⟨X, 0, none⟩ : Addr).add j = ⟨X, j, none⟩ := by unfold Addr.add; split <;> simp_all
    rw [e1]; exact hcell j u hj
  · intro g cap w' hown' hg hw _
    refine h _ _ w' ⟨OwnR.grown h1 h2 hcl h4 hi hown' hg hw, ?_, agr_grown hg fun g q => q, fun g' q => ?_⟩
    · intro w0 hlo hb0
      exact Below.grown hlo hg hlo.size (fun k hk => by have := (World.ownsRow.lt h3 k hk).1; omega)
    · have e1 : g = g' := by simpa [Value.ownBlock] using q
      subst e1; exact hw
/-- At a step of a region that draws. -/
theorem step_appR {w : World} {ops : Array Oper} {o : Oper} {a : Act} {K : Act → World → Prop} {Q : Exit → Act → World → Prop} {E : Prop} (hgd : o.guard = none) (s x : Operand) (t : TypeId)
    (ho : o.op = .call { callee := .builtin .append, args := #[s, x], argTypes := #[t, t] })
    (e : TypeId) (k bytes : Nat) (z : Value) (hu : Try.prog.underlying t = some (.slice e)) (hinfo : (Try.prog.info? e).map (fun i => (i.zero, i.size, i.bytes)) = some (some z, k, bytes)) (hzl : z.cells.size = k) (hby : bytes ≤ 100000) (hk0 : 0 < k)
    (D : Nat → Prop) (base : Nat) (v : Value) (l : List α) (hs : a.eval s = v) (hown : OwnR R e k D w base v l) (X : Nat) (cs : List Value) (y : α) (hx : a.eval x = .slice (some ⟨X, 0, none⟩) 1 1) (hcl : cs.length = k) (hc1 : ∀ u ∈ cs, u.oneCell' = true)
    (hcell : ∀ j u, cs[j]? = some u → w.cell? ⟨X, j, none⟩ = some u) (hi : Ind (fun W => R W cs y) (fun T => D T ∨ v.ownBlock = some T) w) (hlen : l.length + 1 ≤ 1000000) (hbase : base ≤ w.heap.size)
    (h : ∀ p c w', Told R e k D base v l y w (.slice p (l.length + 1) c) w' → K (a.put o.dst (.slice p (l.length + 1) c)) w') :
    if Region.wanted o (yielded ops a.tmps) = true then Oper.wp Try.prog o a w K Q else E := by
  obtain ⟨i0, hi0, hz0, hz1, hz2⟩ := info_parts hinfo
  obtain ⟨css, h1, h2, h3, h4⟩ := hown
  have hbb : (l.length + 1) * bytes ≤ 1000000 * 100000 := Nat.mul_le_mul hlen hby
  refine step_append_lies w hgd s x t ho base e i0 z k bytes hu hi0 hz0 hz1 hz2 hzl hk0 v l.length _ hs h3 ⟨X, 0, .none⟩ 1 1 cs hx (by rw [hcl]; omega) ?_ hc1 (by omega) (by unfold maxLen; omega) (by omega) hbase _ rfl ?_
  · intro j u hj
    have e1 : (⟨X, 0, none⟩ : Addr).add j = ⟨X, j, none⟩ := by unfold Addr.add; split <;> simp_all
    rw [e1]; exact hcell j u hj
  · intro g cap w' hown' hg hw _
    refine h _ _ w' ⟨OwnR.grown h1 h2 hcl h4 hi hown' hg hw, ?_, agr_grown hg fun g q => q, fun g' q => ?_⟩
    · intro w0 hlo hb0
      exact Below.grown hlo hg hlo.size (fun k hk => by have := (World.ownsRow.lt h3 k hk).1; omega)
    · have e1 : g = g' := by simpa [Value.ownBlock] using q
      subst e1; exact hw
end Go.Proofs.Ytcnmfgdeanbhoaa
