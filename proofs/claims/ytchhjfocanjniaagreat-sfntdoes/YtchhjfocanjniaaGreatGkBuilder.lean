/-
  strings.Builder with a frame: WriteString turns no block but the Builder's own and rows of bytes; String. No conditions beyond those stated.
-/
import Derived.Test.YtchhjfocanjniaaGreatGkBlock
import Derived.Test.YtchhjfocanjniaaGreatGkCells
import Derived.Test.YtchhjfocanjniaaGreatSfBuilder
import Derived.Test.YtchhjfocanjniaaGreatShelf
namespace Go.Proofs.YtchhjfocanjniaaGreat
open Go.RowKit

/-- A Builder at block b, of the call's own blocks (from B on), that holds the bytes l. -/
def Bld (B b : Nat) (l : List UInt8) (w : World) : Prop := Lib.IsBuilderF 60 5 B b (Lib.byteCells l) w
theorem Bld.fresh (w : World) : Bld w.heap.size w.heap.size [] (w.alloc (.cells #[.pointer none, .slice none 0 0] 60)) := Lib.IsBuilderF.of (Lib.fresh_isBuilder 60 5 w)
theorem bldAt_lo {B b : Nat} {p : Value} {bs : List Value} {w w' : World} (h : Lib.BuilderAtF 60 5 B b p bs w) (l : Lo w w') : Lib.BuilderAtF 60 5 B b p bs w' := by
  obtain ⟨hB, v, hb, hown, hne⟩ := h
  have hlt : b < w.heap.size := by
    rcases Nat.lt_or_ge b w.heap.size with hlt | hge
    · exact hlt
    · rw [Array.getElem?_eq_none hge] at hb; cases hb
  refine ⟨hB, v, by rw [l.block b hlt]; exact hb, ?_, hne⟩
  refine ⟨hown.1, ?_⟩
  rcases hown.2 with h2 | ⟨g, cap, cur, fz, hv, hg, hh, r⟩
  · exact .inl h2
  · refine .inr ⟨g, cap, cur, fz, hv, hg, ?_, r⟩
    have hlt : g < w.heap.size := by
      rcases Nat.lt_or_ge g w.heap.size with hlt | hge
      · exact hlt
      · rw [Array.getElem?_eq_none hge] at hh; cases hh
    rw [l.block g hlt]; exact hh
theorem Bld.lo {B b : Nat} {l : List UInt8} {w w' : World} (h : Bld B b l w) (k : Lo w w') : Bld B b l w' := by
  rcases h with h | h
  · exact .inl (bldAt_lo h k)
  · exact .inr (bldAt_lo h k)
theorem Lo.below {w W W' : World} {B : Nat} (h : Lo w W) (k : Below B W W') (hB : w.heap.size ≤ B) : Lo w W' := Below.trans h (Below.mono k hB)

theorem write_any (B b : Nat) (l s : List UInt8) (w : World) (h : Bld B b l w) (hlen : l.length + s.length ≤ 140737488355328) (hBw : B ≤ w.heap.size) :
    Calls Tryz.prog 25 #[.pointer (some ⟨b, 0, none⟩), .string ⟨s.toArray⟩] w fun e w' => e = .returned (.tuple #[.int .i64 s.length, .nilIface]) ∧ Bld B b (l ++ s) w' ∧ Below B w w' ∧ Lib.OthersKept 5 (some b) w w' := by
  refine (Any.Builder_WriteString_k Tryz.layss Tryz.Builder_Extra_s B b (Lib.byteCells l) ⟨s.toArray⟩ w h (by rw [Lib.byteCells_length]; exact hlen) hBw).mono ?_
  rintro e w' ⟨rfl, hb, hlo, hk⟩
  refine ⟨rfl, .inr ?_, hlo, hk⟩
  rw [Lib.byteCells_append]
  exact hb
theorem string_any (B b : Nat) (l : List UInt8) (w : World) (h : Bld B b l w) (hBw : B ≤ w.heap.size) :
    Calls Tryz.prog 31 #[.pointer (some ⟨b, 0, none⟩)] w fun e w' => e = .returned (.string ⟨l.toArray⟩) ∧ Below B w w' :=
  (Tryz.Builder_String_any_f B b l w h hBw).mono fun _ _ ⟨h1, _, h3⟩ => ⟨h1, h3⟩

/-- A block of a struct (no row of bytes) stands behind a write. -/
theorem kept_block {b T ty : Nat} {cs : Array Value} {w w' : World} (h : Lib.OthersKept 5 (some b) w w') (hT : w.heap[T]? = some (.cells cs ty (0, 0))) (hne : T ≠ b) (hty : ty ≠ 5) : w'.heap[T]? = some (.cells cs ty (0, 0)) :=
  h T _ hT (by intro hc; exact hne (Option.some.inj hc)) (by intro c fz hc; injection hc with _ hc _; exact hty hc)
/-- A struct of two cells at block T. -/
abbrev TwoAt (T ty : Nat) (a b : Value) (W : World) : Prop := W.cell? ⟨T, 0, none⟩ = some a ∧ W.cell? ⟨T, 1, none⟩ = some b ∧ Hid (W.heap[T]? = some (.cells #[a, b] ty (0, 0)))
theorem TwoAt.of {T ty : Nat} {a b : Value} {W : World} (h : W.heap[T]? = some (.cells #[a, b] ty (0, 0))) : TwoAt T ty a b W := ⟨block_cell h rfl, block_cell h rfl, Lib.hid h⟩
theorem TwoAt.lo {T ty : Nat} {a b : Value} {W W' : World} (h : TwoAt T ty a b W) (l : Lo W W') : TwoAt T ty a b W' := .of (lo_block l h.2.2.out)
theorem TwoAt.alloc {T ty : Nat} {a b : Value} {W : World} (h : TwoAt T ty a b W) (o : Obj) : TwoAt T ty a b (W.alloc o) := h.lo ((Lo.refl W).alloc o)
theorem TwoAt.drew {T ty : Nat} {a b : Value} {W : World} (h : TwoAt T ty a b W) : TwoAt T ty a b W.drew := h.lo (Lo.refl W).drew
theorem TwoAt.kept {T ty c : Nat} {a b : Value} {W W' : World} (h : TwoAt T ty a b W) (k : Lib.OthersKept 5 (some c) W W') (hne : T ≠ c) (hty : ty ≠ 5) : TwoAt T ty a b W' := .of (kept_block k h.2.2.out hne hty)
theorem TwoAt.new (w : World) (ty : Nat) (a b : Value) : TwoAt w.heap.size ty a b (w.alloc (.cells #[a, b] ty)) := .of (new_block w _)
end Go.Proofs.YtchhjfocanjniaaGreat
