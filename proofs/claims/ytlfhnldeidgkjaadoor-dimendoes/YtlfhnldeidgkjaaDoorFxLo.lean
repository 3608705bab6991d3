/-
  Of what was there nothing has turned (Lo); a slice in memory that reads as a list (Row); the contract of fixed.Is. No conditions.
-/
import Derived.Test.YtlfhnldeidgkjaaDoorRows
import Derived.Test.YtlfhnldeidgkjaaDoorFxMath
import Derived.WalkKit
import Derived.WalkSpells
import Derived.WalkLawsBesides
import Derived.Defers
import Derived.Recover
import Derived.Lib.Hide
namespace Go.Proofs.YtlfhnldeidgkjaaDoor
open Go.RowKit

/-- Of what was there nothing has turned. A plain def, closed to the walk. -/
def Lo (w w' : World) : Prop := Below w.heap.size w w'
theorem Lo.refl (w : World) : Lo w w := Below.refl _ _
theorem Lo.trans {a b c : World} (h : Lo a b) (k : Lo b c) : Lo a c := Below.trans h (Below.mono k h.size)
theorem Lo.alloc {a b : World} (h : Lo a b) (o : Obj) : Lo a (b.alloc o) := Below.alloc h h.size o
theorem Lo.drew {a b : World} (h : Lo a b) : Lo a b.drew := Below.drew h
theorem Lo.set {a b : World} (h : Lo a b) {p : Addr} (hp : a.heap.size ≤ p.block) (u : Value) : Lo a (b.setCell p u) := Below.setCell h hp u
theorem Lo.cell {w w' : World} (h : Lo w w') {b o : Nat} (hb : b < w.heap.size) : w'.cell? ⟨b, o, none⟩ = w.cell? ⟨b, o, none⟩ := Below.cell (p := ⟨b, o, none⟩) h hb
theorem Lo.frozen {w w' : World} (h : Lo w w') {b o : Nat} (hb : b < w.heap.size) : w'.frozen? ⟨b, o, none⟩ = w.frozen? ⟨b, o, none⟩ := Below.frozen (p := ⟨b, o, none⟩) h hb

/-- The slice v reads as the numbers l. -/
def Row (w : World) (v : Value) (l : List Int) : Prop :=
  (∃ p c, v = .slice p 0 c ∧ (p = none → c = 0) ∧ l = []) ∨
  ∃ b off cap, v = .slice (some ⟨b, off, none⟩) l.length cap ∧ l.length ≤ 9223372036854775807 ∧ l.length ≤ cap ∧ b < w.heap.size ∧ ∀ i, i < l.length → w.cell? ⟨b, off + i, none⟩ = some (.int .i64 (l.getD i 0))

theorem Row.lo {w w' : World} {v : Value} {l : List Int} (h : Row w v l) (hl : Lo w w') : Row w' v l := by
  rcases h with h | ⟨b, off, cap, h1, h2, h2b, h3, h4⟩
  · exact .inl h
  · exact .inr ⟨b, off, cap, h1, h2, h2b, Nat.lt_of_lt_of_le h3 hl.size, fun i hi => by rw [hl.cell h3]; exact h4 i hi⟩

theorem ret_bool {a b : Bool} (h : a = b) : Ending.returned (.bool a) = .returned (.bool b) := by rw [h]
theorem ret_int {k : IntKind} {a b : Int} (h : a = b) : Ending.returned (.int k a) = .returned (.int k b) := by rw [h]

set_option maxHeartbeats 400000 in
theorem is_nil_any (p : Option Addr) (c : Nat) (w : World) : Calls Tryd.prog 21 #[.slice p 0 c] w fun e w' => e = .returned (.bool true) ∧ w = w' := by
  go_enter Tryd.func21, Tryd.ntmps21
  go_wp2
  go_loop [7] (fun i => i = .int .i64 0) (fun _ => 0)
  case atStart => exact rfl
  case round =>
    subst hrel
    go_wp2
    go_ret
    exact ⟨rfl, rfl⟩

set_option maxHeartbeats 400000 in
theorem is_row_any (b off cap : Nat) (l : List Int) (w : World) (hm : l.length ≤ 9223372036854775807)
    (hc : ∀ i, i < l.length → w.cell? ⟨b, off + i, none⟩ = some (.int .i64 (l.getD i 0))) :
    Calls Tryd.prog 21 #[.slice (some ⟨b, off, none⟩) l.length cap] w fun e w' => e = .returned (.bool (Fx.is l)) ∧ w = w' := by
  generalize hn : l.length = n at *
  have HN : Hid (l.length = n) := hn
  have HC : Hid (∀ i, i < n → w.cell? ⟨b, off + i, none⟩ = some (.int .i64 (l.getD i 0))) := hc
  clear hn hc
  go_enter Tryd.func21, Tryd.ntmps21
  go_wp2
  go_loop [7] (fun i => ∃ k : Nat, k ≤ n ∧ i = .int .i64 k ∧ Fx.is (l.take k) = true) (fun i => n - (intOf i).toNat)
  case atStart => exact ⟨0, Nat.zero_le _, rfl, rfl⟩
  case round =>
    obtain ⟨k, hk, rfl, his⟩ := hrel
    have HI := Lib.hid his
    clear his
    by_cases hlt : k < n
    · have hcell := HC.out k hlt
      have hstep : l.take (k + 1) = l.take k ++ [l.getD k 0] := by
        have h' : k < l.length := by rw [HN.out]; exact hlt
        rw [List.take_succ_eq_append_getElem h']; simp [List.getD, List.getElem?_eq_getElem h']
      have HS := Lib.hid hstep
      clear hstep
      generalize hz : l.getD k 0 = z at *
      have HZ := Lib.hid hz
      clear hz
      by_cases h1 : z < -1073741823
      · go_wp2
        go_ret
        refine ⟨ret_bool ?_, rfl⟩
        symm
        have : Fx.len z = false := Fx.len_not (by omega)
        have hmem : z ∈ l := by
          have h' : k < l.length := by rw [HN.out]; exact hlt
          rw [← HZ.out]; simp [List.getD, List.getElem?_eq_getElem h']
        simp only [Fx.is]
        rw [Bool.eq_false_iff]
        intro hall
        rw [List.all_eq_true] at hall
        rw [hall z hmem] at this
        cases this
      · by_cases h2 : 1073741823 < z
        · go_wp2
          go_ret
          refine ⟨ret_bool ?_, rfl⟩
          symm
          have : Fx.len z = false := Fx.len_not (by omega)
          have hmem : z ∈ l := by
            have h' : k < l.length := by rw [HN.out]; exact hlt
            rw [← HZ.out]; simp [List.getD, List.getElem?_eq_getElem h']
          simp only [Fx.is]
          rw [Bool.eq_false_iff]
          intro hall
          rw [List.all_eq_true] at hall
          rw [hall z hmem] at this
          cases this
        · go_wp2
          go_round
          case rel =>
            refine ⟨k + 1, by omega, by go_num, ?_⟩
            rw [HS.out, Fx.is, List.all_append]
            have h0 : (l.take k).all Fx.len = true := HI.out
            simp [h0, Fx.len_yes (n := z) (by omega) (by omega)]
          case measure => simp [intOf]; omega
    · go_wp2
      go_ret
      refine ⟨ret_bool ?_, rfl⟩
      have h1 : l.take k = l := List.take_of_length_le (by rw [HN.out]; omega)
      have := HI.out
      rw [h1] at this
      exact this.symm

theorem is_any (v : Value) (l : List Int) (w : World) (h : Row w v l) :
    Calls Tryd.prog 21 #[v] w fun e w' => e = .returned (.bool (Fx.is l)) ∧ w = w' := by
  rcases h with ⟨p, c, rfl, _, rfl⟩ | ⟨b, off, cap, rfl, h2, h2b, h3, h4⟩
  · exact is_nil_any p c w
  · exact is_row_any b off cap l w h2 h4

theorem row1 (w : World) (B : Nat) (hB : B = w.heap.size) (a : Int) : Row (w.alloc (.cells #[.int .i64 a] 3)) (.slice (some ⟨B, 0, none⟩) 1 1) [a] :=
  hB ▸ .inr ⟨w.heap.size, 0, 1, rfl, by simp, by simp, by simp, fun i hi => by
    obtain rfl : i = 0 := by simp at hi; omega
    simp [go_sem]⟩
theorem row2 (w : World) (B : Nat) (hB : B = w.heap.size) (a b : Int) : Row (w.alloc (.cells #[.int .i64 a, .int .i64 b] 3)) (.slice (some ⟨B, 0, none⟩) 2 2) [a, b] :=
  hB ▸ .inr ⟨w.heap.size, 0, 2, rfl, by simp, by simp, by simp, fun i hi => by
    obtain rfl | rfl : i = 0 ∨ i = 1 := by simp at hi; omega
    all_goals simp [go_sem]⟩
theorem row3 (w : World) (B : Nat) (hB : B = w.heap.size) (a b c : Int) : Row (w.alloc (.cells #[.int .i64 a, .int .i64 b, .int .i64 c] 3)) (.slice (some ⟨B, 0, none⟩) 3 3) [a, b, c] :=
  hB ▸ .inr ⟨w.heap.size, 0, 3, rfl, by simp, by simp, by simp, fun i hi => by
    obtain rfl | rfl | rfl : i = 0 ∨ i = 1 ∨ i = 2 := by simp at hi; omega
    all_goals simp [go_sem]⟩
theorem row4 (w : World) (B : Nat) (hB : B = w.heap.size) (a b c d : Int) : Row (w.alloc (.cells #[.int .i64 a, .int .i64 b, .int .i64 c, .int .i64 d] 3)) (.slice (some ⟨B, 0, none⟩) 4 4) [a, b, c, d] :=
  hB ▸ .inr ⟨w.heap.size, 0, 4, rfl, by simp, by simp, by simp, fun i hi => by
    obtain rfl | rfl | rfl | rfl : i = 0 ∨ i = 1 ∨ i = 2 ∨ i = 3 := by simp at hi; omega
    all_goals simp [go_sem]⟩

end Go.Proofs.YtlfhnldeidgkjaaDoor
