/-
  Of what was there nothing has turned (Lo); a slice of ints in memory that reads as a list (Row); small endings. Nothing of the program but its types. No conditions.
-/
import Derived.Test.YtjeahgdefdlabaaRows
import Derived.WalkKit
import Derived.WalkSpells
import Derived.WalkLawsBesides
import Derived.Defers
import Derived.Recover
import Derived.IntWalk
import Derived.Sort.Grow
import Derived.Lib.Hide
import Derived.Deep.QuietTactic
import Derived.BigQuiet
import Derived.Deep.DeepCutAuto
namespace Go.Proofs.Ytjeahgdefdlabaa
open Go.RowKit

/-- Of what was there nothing has turned. A plain def, closed to the walk. -/
def Lo (w w' : World) : Prop := Below w.heap.size w w'
theorem Lo.refl (w : World) : Lo w w := Below.refl _ _
theorem Lo.trans {a b c : World} (h : Lo a b) (k : Lo b c) : Lo a c := Below.trans h (Below.mono k h.size)
theorem Lo.alloc {a b : World} (h : Lo a b) (o : Obj) : Lo a (b.alloc o) := Below.alloc h h.size o
theorem Lo.drew {a b : World} (h : Lo a b) : Lo a b.drew := Below.drew h
theorem Lo.set {a b : World} (h : Lo a b) {p : Addr} (hp : a.heap.size ≤ p.block) (u : Value) : Lo a (b.setCell p u) := Below.setCell h hp u
theorem Lo.cell {w w' : World} (h : Lo w w') {b o : Nat} (hb : b < w.heap.size) : w'.cell? ⟨b, o, none⟩ = w.cell? ⟨b, o, none⟩ := Below.cell (p := ⟨b, o, none⟩) h hb
theorem Lo.frozen {w w' : World} (h : Lo w w') {b o : Nat} (hb : b < w.heap.size) : w'.frozen? ⟨b, o, none⟩ = w.frozen? ⟨b, o, none⟩ := Below.frozen (p := ⟨b, o, none⟩) h hb

/-- The slice v reads as the numbers l. -/
def Row (w : World) (v : Value) (l : List Int) : Prop :=
  (∃ p c, v = .slice p 0 c ∧ (p = none → c = 0) ∧ l = []) ∨
  ∃ b off cap, v = .slice (some ⟨b, off, none⟩) l.length cap ∧ l.length ≤ 9223372036854775807 ∧ l.length ≤ cap ∧ b < w.heap.size ∧ ∀ i, i < l.length → w.cell? ⟨b, off + i, none⟩ = some (.int .i64 (l.getD i 0))

theorem Row.lo {w w' : World} {v : Value} {l : List Int} (h : Row w v l) (hl : Lo w w') : Row w' v l := by
  rcases h with h | ⟨b, off, cap, h1, h2, h2b, h3, h4⟩
  · exact .inl h
  · exact .inr ⟨b, off, cap, h1, h2, h2b, Nat.lt_of_lt_of_le h3 hl.size, fun i hi => by rw [hl.cell h3]; exact h4 i hi⟩

theorem ret_bool {a b : Bool} (h : a = b) : Ending.returned (.bool a) = .returned (.bool b) := by rw [h]
theorem ret_int {k : IntKind} {a b : Int} (h : a = b) : Ending.returned (.int k a) = .returned (.int k b) := by rw [h]

theorem row1 (w : World) (B : Nat) (hB : B = w.heap.size) (a : Int) : Row (w.alloc (.cells #[.int .i64 a] 3)) (.slice (some ⟨B, 0, none⟩) 1 1) [a] :=
  hB ▸ .inr ⟨w.heap.size, 0, 1, rfl, by simp, by simp, by simp, fun i hi => by
    obtain rfl : i = 0 := by simp at hi; omega
    simp [go_sem]⟩
theorem row2 (w : World) (B : Nat) (hB : B = w.heap.size) (a b : Int) : Row (w.alloc (.cells #[.int .i64 a, .int .i64 b] 3)) (.slice (some ⟨B, 0, none⟩) 2 2) [a, b] :=
  hB ▸ .inr ⟨w.heap.size, 0, 2, rfl, by simp, by simp, by simp, fun i hi => by
    obtain rfl | rfl : i = 0 ∨ i = 1 := by simp at hi; omega
    all_goals simp [go_sem]⟩
theorem row3 (w : World) (B : Nat) (hB : B = w.heap.size) (a b c : Int) : Row (w.alloc (.cells #[.int .i64 a, .int .i64 b, .int .i64 c] 3)) (.slice (some ⟨B, 0, none⟩) 3 3) [a, b, c] :=
  hB ▸ .inr ⟨w.heap.size, 0, 3, rfl, by simp, by simp, by simp, fun i hi => by
    obtain rfl | rfl | rfl : i = 0 ∨ i = 1 ∨ i = 2 := by simp at hi; omega
    all_goals simp [go_sem]⟩
theorem row4 (w : World) (B : Nat) (hB : B = w.heap.size) (a b c d : Int) : Row (w.alloc (.cells #[.int .i64 a, .int .i64 b, .int .i64 c, .int .i64 d] 3)) (.slice (some ⟨B, 0, none⟩) 4 4) [a, b, c, d] :=
  hB ▸ .inr ⟨w.heap.size, 0, 4, rfl, by simp, by simp, by simp, fun i hi => by
    obtain rfl | rfl | rfl | rfl : i = 0 ∨ i = 1 ∨ i = 2 ∨ i = 3 := by simp at hi; omega
    all_goals simp [go_sem]⟩

theorem Lo.drewN {a b : World} (h : Lo a b) (k : Nat) : Lo a (b.drewN k) := by
  unfold Lo; exact Below.trans h ⟨rfl, rfl, rfl, Nat.le_refl _, fun _ _ => rfl⟩
theorem grow_lo (w : World) (k : Nat) (os : Array Obj) : Lo w (Sort.grow (w.drewN k) os) := by
  refine ((Lo.refl w).drewN k).trans ⟨rfl, rfl, rfl, ?_, fun j hj => ?_⟩
  · simp [Sort.grow]
  · simp only [Sort.grow]; exact Array.getElem?_append_left hj

theorem wrap_id {n : Int} (h1 : -9223372036854775808 ≤ n) (h2 : n ≤ 9223372036854775807) : wrap64 n = n := by unfold wrap64; omega

theorem ret_float {a b : Nat} (h : a = b) : Ending.returned (.float .f64 a) = .returned (.float .f64 b) := by rw [h]

theorem ret_pair {a b c d : Int} (h : a = c) (k : b = d) : Ending.returned (.tuple #[.int .i64 a, .int .i64 b]) = .returned (.tuple #[.int .i64 c, .int .i64 d]) := by rw [h, k]

end Go.Proofs.Ytjeahgdefdlabaa
