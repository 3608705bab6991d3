/-
  Pairs in a block of memory: made anew, one stored, read as a list. No conditions beyond those stated.
-/
import Derived.Test.YtjeahgdefdlabaaInBase
import Derived.Sort.Row
import Derived.Laws.OwnMore
namespace Go.Proofs.Ytjeahgdefdlabaa
open Go.RowKit

/-- Block B holds the pairs l. -/
def PAt (w : World) (B ty : Nat) (l : List Ino.Pair) : Prop := w.heap[B]? = some (.cells (l.flatMap encP).toArray ty (0, 0))
theorem PAt.lt {w : World} {B ty : Nat} {l : List Ino.Pair} (h : PAt w B ty l) : B < w.heap.size := by
  rcases Nat.lt_or_ge B w.heap.size with hlt | hge
  · exact hlt
  · unfold PAt at h; rw [Array.getElem?_eq_none hge] at h; cases h
theorem PAt.lo {w w' : World} {B ty : Nat} {l : List Ino.Pair} (h : PAt w B ty l) (k : Lo w w') : PAt w' B ty l := lo_block k h
theorem PAt.cell {w : World} {B ty : Nat} {l : List Ino.Pair} (h : PAt w B ty l) {i : Nat} {x : Ino.Pair} (hx : l[i]? = some x) {j : Nat} (hj : j < 2) : w.cell? ⟨B, i * 2 + j, none⟩ = (encP x)[j]? := by
  have hf := flat_at encP 2 encP_len l i x j hx hj
  obtain ⟨v, hv⟩ : ∃ v, (encP x)[j]? = some v := ⟨_, List.getElem?_eq_getElem (by rw [encP_len]; exact hj)⟩
  rw [hv]
  exact block_cell h (by rw [List.getElem?_toArray, hf, hv])
theorem PAt.frozen {w : World} {B ty : Nat} {l : List Ino.Pair} (h : PAt w B ty l) (i : Nat) : w.frozen? ⟨B, i, none⟩ = false := block_frozen h
theorem flat_set : ∀ (l : List Ino.Pair) (i : Nat) (a b : Int), (l.set i (a, b)).flatMap encP = ((l.flatMap encP).set (i * 2) (.int .i64 a)).set (i * 2 + 1) (.int .i64 b)
  | [], _, _, _ => rfl
  | x :: r, 0, a, b => rfl
  | x :: r, i + 1, a, b => by
    rw [List.set_cons_succ, List.flatMap_cons, flat_set r i a b, List.flatMap_cons]
    show _ = (((Value.int .i64 x.1) :: (Value.int .i64 x.2) :: r.flatMap encP).set ((i + 1) * 2) _).set ((i + 1) * 2 + 1) _
    rw [show (i + 1) * 2 = i * 2 + 1 + 1 by omega, List.set_cons_succ, List.set_cons_succ, List.set_cons_succ, List.set_cons_succ]
    rfl
theorem PAt.set {w : World} {B ty : Nat} {l : List Ino.Pair} (h : PAt w B ty l) (i : Nat) (a b : Int) : PAt ((w.setCell ⟨B, i * 2, none⟩ (.int .i64 a)).setCell ⟨B, i * 2 + 1, none⟩ (.int .i64 b)) B ty (l.set i (a, b)) := by
  unfold PAt at *
  rw [flat_set, Sort.setCell_eq, Sort.setCell_eq]
  simp [Sort.mapBlock, Array.getElem?_modify, h, Sort.onCells]
/-- The block as a slice. -/
theorem PAt.row {w : World} {B ty : Nat} {l : List Ino.Pair} (h : PAt w B ty l) {n : Nat} (hn : l.length = n) (hm : n ≤ 9223372036854775807) : PRow w (.slice (some ⟨B, 0, none⟩) n n) l := by
  subst hn
  refine .inr ⟨B, 0, l.length, rfl, hm, Nat.le_refl _, h.lt, fun i x hx j hj => ?_⟩
  rw [Nat.zero_add]; exact h.cell hx hj

theorem pair_parts : ∃ i, Try.prog.info? 35 = some i ∧ i.zero = some (.agg #[.int .i64 0, .int .i64 0]) ∧ i.size = 2 ∧ i.bytes = 16 := by
  have h := pair_info
  cases e : Try.prog.info? 35 with
  | none => rw [e] at h; cases h
  | some i =>
    rw [e] at h
    simp only [Option.map_some, Option.some.injEq, Prod.mk.injEq] at h
    exact ⟨i, rfl, h.1, h.2.1, h.2.2⟩
theorem noughts_flat : ∀ n : Nat, (List.replicate n Ino.zp).flatMap encP = List.replicate (n * 2) (Value.int .i64 0)
  | 0 => rfl
  | n + 1 => by
    rw [List.replicate_succ, List.flatMap_cons, noughts_flat n, show (n + 1) * 2 = n * 2 + 1 + 1 by omega, List.replicate_succ, List.replicate_succ]
    rfl
theorem noughts_made (n : Nat) : madeCells #[Value.int .i64 0, Value.int .i64 0] (n * 2) = ((List.replicate n Ino.zp).flatMap encP).toArray := by
  rw [noughts_flat]
  apply Array.ext
  · simp [size_madeCells]
  · intro i h1 h2
    have h3 : i % 2 = 0 ∨ i % 2 = 1 := by omega
    rcases h3 with h3 | h3 <;> simp [madeCells, h3]
/-- The world behind make([]api.Pair, n): a plain def, closed to the walk. -/
def madeP (n : Nat) (W : World) : World := W.alloc (.cells ((List.replicate n Ino.zp).flatMap encP).toArray 35)
theorem madeP_run (n : Nat) (hn : n ≤ 1000000) (W : World) : (Instr.makeSlice 22 (.int .i64 (n : Int)) (.int .i64 (n : Int))).run Try.prog W = .ok (.slice (some ⟨W.heap.size, 0, none⟩) n n) (madeP n W) := by
  obtain ⟨i0, hi0, hz0, hz1, hz2⟩ := pair_parts
  have := run_makeSlice W 22 35 i0 (.agg #[.int .i64 0, .int .i64 0]) Try.underlying22 hi0 hz0 .i64 .i64 (n : Int) (n : Int) (by omega) (by omega) (by rw [hz1]; omega) (by rw [hz2]; omega) (by omega)
  rw [hz1, Int.toNat_natCast, show (Value.agg #[.int .i64 0, .int .i64 0]).cells = #[Value.int .i64 0, Value.int .i64 0] from rfl, noughts_made] at this
  exact this
theorem madeP_at (n : Nat) (W : World) : PAt (madeP n W) W.heap.size 35 (List.replicate n Ino.zp) := new_block W _
theorem madeP_lo (n : Nat) (W : World) : Lo W (madeP n W) := (Lo.refl W).alloc _
end Go.Proofs.Ytjeahgdefdlabaa
