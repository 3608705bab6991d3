/-
  Contracts of slices.Grow (of nil) and slices.Concat (of two rows of numbers). No conditions beyond those stated.
-/
import Derived.Test.YtnlifmedkkboaaaGround
import Derived.Test.YtnlifmedkkboaaaBnBase
import Derived.Lib.AppendZeros
import Derived.Lib.AppendZerosOnto
import Derived.Lib.SliceRun
namespace Go.Proofs.Ytnlifmedkkboaaa
open Go.RowKit

theorem zeros_size (n : Nat) : (Builtin.zeroCells #[Value.int .i64 0] n).size = n := by
  unfold Builtin.zeroCells
  simp
set_option maxRecDepth 100000 in
set_option maxHeartbeats 1600000 in
theorem grow_any (n : Nat) (w : World) (hn : n ≤ 1000000) :
    Calls Try.prog 47 #[.slice none 0 0, .int .i64 (n : Int)] w fun e w' => ∃ p c, e = .returned (.slice p 0 c) ∧ Own w' w.heap.size (.slice p 0 c) [] ∧ Lo w w' := by
  by_cases h0 : n = 0
  · subst h0
    go_enter Try.func47, Try.ntmps47
    go_wp2_with fail
    go_ret
    exact ⟨none, 0, rfl, Own.none _ _, Lo.refl _⟩
  · obtain ⟨i0, hi0, hz0, hz1, hz2⟩ := info_parts int_info
    have hrz : ∀ ty, (Builtin.append_ #[48, 3] ty #[.slice none 0 0, .int .i64 (n : Int)]).run Try.prog w =
        .ok (.slice (some ⟨w.heap.size, 0, none⟩) n (grownCap w n 0 3)) (w.drew.alloc (.cells (Builtin.zeroCells (Value.int .i64 0).cells n ++ Builtin.zeroCells (Value.int .i64 0).cells (grownCap w n 0 3 - n)) 3)) := fun ty =>
      Lib.run_append_nil_zeros w 48 3 ty 3 i0 _ .i64 .i64 Try.underlying48 Try.underlying3 hi0 hz0 n (by omega) (by omega) (by omega) (by rw [hz2]; omega)
    have hge : n ≤ grownCap w n 0 3 := grownCap_ge w _ _ _
    have hle : grownCap w n 0 3 ≤ 9223372036854775807 := by
      have := grownCap_le_maxLen w n 0 3 (by unfold maxLen; omega)
      unfold maxLen at this
      omega
    have hle2 := grownCap_le_maxLen w n 0 3 (by unfold maxLen; omega)
    rw [show (Value.int .i64 0).cells = #[Value.int .i64 0] from rfl] at hrz
    generalize grownCap w n 0 3 = G at *
    have HO : Hid (Own (w.drew.alloc (.cells (Builtin.zeroCells #[Value.int .i64 0] n ++ Builtin.zeroCells #[Value.int .i64 0] (G - n)) 3)) w.heap.size (.slice (some ⟨w.heap.size, 0, none⟩) 0 G) []) := Lib.hid (by
      refine ⟨rfl, .inr ⟨w.heap.size, G, _, rfl, Nat.le_refl _, new_block w.drew _, Nat.zero_le _, hle2, ?_, by simp⟩⟩
      rw [Array.size_append, zeros_size, zeros_size]; omega)
    have HL : Hid (Lo w (w.drew.alloc (.cells (Builtin.zeroCells #[Value.int .i64 0] n ++ Builtin.zeroCells #[Value.int .i64 0] (G - n)) 3))) := Lib.hid (((Lo.refl w).drew).alloc _)
    generalize (Builtin.zeroCells #[Value.int .i64 0] n ++ Builtin.zeroCells #[Value.int .i64 0] (G - n)) = cs at *
    have h1 : 0 < (n : Int) := by omega
    go_enter Try.func47, Try.ntmps47
    go_wp2_with (at_builtin; refine Lib.wpList_append_run _ rfl _ _ _ _ rfl _ _ rfl rfl _ _ (hrz _) ?_)
    all_goals
      go_ret
      exact ⟨_, _, rfl, HO.out, HL.out⟩

/-- The first k of two rows, behind one another. -/
def upTo (a b : List Int) (k : Nat) : List Int := if k = 0 then [] else if k = 1 then a else a ++ b

set_option maxRecDepth 100000 in
set_option maxHeartbeats 3200000 in
theorem concat_any (a b : List Int) (va vb : Value) (B : Nat) (w : World) (hc0 : w.cell? ⟨B, 0, none⟩ = some va) (hc1 : w.cell? ⟨B, 1, none⟩ = some vb) (ha : Row w va a) (hb : Row w vb b) (hn : a.length + b.length ≤ 500000) :
    Calls Try.prog 27 #[.slice (some ⟨B, 0, none⟩) 2 2] w fun e w' => ∃ p c, e = .returned (.slice p (a.length + b.length) c) ∧ Row w' (.slice p (a.length + b.length) c) (a ++ b) ∧ Lo w w' := by
  obtain ⟨pa, ca, rfl, _⟩ := ha.form
  obtain ⟨pb, cb, rfl, _⟩ := hb.form
  have HA := Lib.hid ha
  have HB := Lib.hid hb
  have HBl : Hid (B < w.heap.size) := Lib.hid (World.block_lt_of_cell? w _ hc0)
  have HG := Lib.hid (fun (W : World) => grow_any (a.length + b.length) W (by omega))
  generalize hna : a.length = na at *
  generalize hnb : b.length = nb at *
  have HNA := Lib.hid hna
  have HNB := Lib.hid hnb
  clear ha hb hna hnb
  go_enter Try.func27, Try.ntmps27
  go_wp2_with fail
  go_loopw [3, 5, 11] (fun s3 _ s11 W => ∃ k m : Nat, k ≤ 2 ∧ s11 = .int .i64 k ∧ s3 = .int .i64 m ∧ m = (if k = 0 then 0 else if k = 1 then na else na + nb) ∧ W = w) (fun _ _ s11 _ => 2 - (intOf s11).toNat)
  case atStart => exact ⟨0, 0, by omega, rfl, rfl, rfl, rfl⟩
  case round =>
    obtain ⟨k, m, hk, rfl, rfl, hm, rfl⟩ := hrel
    obtain rfl | rfl | rfl : k = 0 ∨ k = 1 ∨ k = 2 := by omega
    · simp only [if_true] at hm
      subst hm
      go_wp2_with fail
      go_roundw
      case rel => exact ⟨1, na, by omega, by go_num, by go_num, by simp, trivial⟩
      case measure => simp [intOf]
    · simp at hm
      subst hm
      go_wp2_with fail
      go_roundw
      case rel => exact ⟨2, m + nb, by omega, by go_num, by go_num, by simp, trivial⟩
      case measure => simp [intOf]
    · simp at hm
      subst hm
      rename World => w
      go_wp2_with fail
      refine (HG.out _).mono ?_
      rintro e w1 ⟨p1, c1, rfl, hown, lo⟩
      have HO := Lib.hid hown
      have HL := Lib.hid lo
      have HC0 := Lib.hid hc0
      have HC1 := Lib.hid hc1
      clear hown lo HG hc0 hc1
      go_wp2_with fail
      go_loopw [6, 8, 27] (fun s6 _ s27 W => ∃ (k : Nat) (L : List Int) (q : Option Addr) (d : Nat), k ≤ 2 ∧ s27 = .int .i64 k ∧ s6 = .slice q L.length d ∧ Hid (L = upTo a b k) ∧ Hid (Own W w.heap.size (.slice q L.length d) L) ∧ Hid (Lo w W)) (fun _ _ s27 _ => 2 - (intOf s27).toNat)
      case atStart => exact ⟨0, [], p1, c1, by omega, rfl, rfl, Lib.hid rfl, HO, HL⟩
      case round =>
        obtain ⟨k, L, q, d, hk, rfl, rfl, HT, HO2, HL2⟩ := hrel
        have c0 := (HL2.out.cell HBl.out).trans HC0.out
        have c1 := (HL2.out.cell HBl.out).trans HC1.out
        obtain rfl | rfl | rfl : k = 0 ∨ k = 1 ∨ k = 2 := by omega
        · obtain rfl : L = [] := HT.out
          have HR := Lib.hid (HA.out.lo HL2.out)
          have HSZ := Lib.hid HL2.out.size
          go_wp2_with (at_builtin; refine wpList_app _ rfl (.tmp 31) (.tmp 32) rfl w.heap.size _ _ rfl HO2.out _ a rfl HR.out (by rw [HNA.out]; simp; omega) HSZ.out ?_; intro q1 d1 w4 hown hlo; have HO4 := Lib.hid hown; have HL4 := Lib.hid (hlo w HL2.out rfl); clear hown hlo)
          go_roundw
          case rel => exact ⟨1, a, q1, d1, by omega, by go_num, by simp, Lib.hid rfl, by simpa using HO4, HL4⟩
          case measure => simp [intOf]
        · obtain rfl : L = a := HT.out
          have HR := Lib.hid (HB.out.lo HL2.out)
          have HSZ := Lib.hid HL2.out.size
          go_wp2_with (at_builtin; refine wpList_app _ rfl (.tmp 31) (.tmp 32) rfl w.heap.size _ _ rfl HO2.out _ b rfl HR.out (by rw [HNA.out, HNB.out]; omega) HSZ.out ?_; intro q1 d1 w4 hown hlo; have HO4 := Lib.hid hown; have HL4 := Lib.hid (hlo w HL2.out rfl); clear hown hlo)
          go_roundw
          case rel => exact ⟨2, L ++ b, q1, d1, by omega, by go_num, by simp, Lib.hid rfl, by simpa using HO4, HL4⟩
          case measure => simp [intOf]
        · obtain rfl : L = a ++ b := HT.out
          go_wp2_with fail
          go_ret
          have e : (a ++ b).length = na + nb := by rw [List.length_append, HNA.out, HNB.out]
          rw [← e]
          exact ⟨q, d, rfl, Own.row HO2.out, HL2.out⟩
end Go.Proofs.Ytnlifmedkkboaaa
