/-
  Facts on spans parted one after another (layer 10), with nothing of the program. No conditions beyond those stated.
-/
import Derived.Test.YtnlifmedkkboaaaGpMath
import Derived.Test.YtnlifmedkkboaaaChFacts
namespace Gp
open Bn He Ch Sg
/-- A span's first runes, a span each that has a glyph. -/
def cutTo (step : Int) (x : Span) (k : Nat) : List Span := (spansOf (look [x]) x.fr k).map (setSt step)
theorem part_keep {step : Int} {x : Span} (h : x.st = step ∨ x.fr = x.to) : part step x = if hasGl x = true then [setSt step x] else [] := by
  unfold part; rw [if_pos h]
theorem part_cut {step : Int} {x : Span} (h : ¬ (x.st = step ∨ x.fr = x.to)) : part step x = cutTo step x (x.to - x.fr + 1).toNat := by
  unfold part cutTo; rw [if_neg h]
theorem cut_none (step : Int) (x : Span) : cutTo step x 0 = [] := rfl
theorem look_one {x : Span} {k : Nat} (h : x.fr + k ≤ x.to) : look [x] (x.fr + k) = x.gl + x.st * k := by
  rw [look, if_pos ⟨by omega, h⟩]
  unfold glyphOf
  rw [show x.fr + (k : Int) - x.fr = k by omega]
theorem cut_step {step : Int} {x : Span} {k : Nat} (h : x.fr + k ≤ x.to) : cutTo step x (k + 1) = cutTo step x k ++ (if x.gl + x.st * k = 0 then [] else [⟨x.fr + k, x.fr + k, x.gl + x.st * k, step⟩]) := by
  unfold cutTo
  rw [spansOf_append, List.map_append, spansOf, spansOf, List.append_nil, look_one h]
  by_cases e : x.gl + x.st * k = 0
  · rw [if_pos e, if_pos e]; rfl
  · rw [if_neg e, if_neg e]; rfl
theorem cut_len (step : Int) (x : Span) (k : Nat) : (cutTo step x k).length ≤ k := by
  unfold cutTo; rw [List.length_map]; exact spansOf_len _ k _
theorem cut_le (step : Int) (x : Span) {k n : Nat} (h : k ≤ n) : (cutTo step x k).length ≤ (cutTo step x n).length := by
  obtain ⟨m, rfl⟩ := Nat.exists_eq_add_of_le h
  unfold cutTo
  rw [spansOf_append, List.map_append, List.length_append]
  omega
theorem parts_step {step : Int} {l : List Span} {k : Nat} (h : k < l.length) : parts step (l.take (k + 1)) = parts step (l.take k) ++ part step (l.getD k zs) := by
  unfold parts
  rw [take_snoc h, List.flatMap_append]
  simp
theorem parts_all (step : Int) (l : List Span) : parts step (l.take l.length) = parts step l := by rw [List.take_length]
theorem parts_le (step : Int) (l : List Span) (k : Nat) : (parts step (l.take k)).length ≤ (parts step l).length := by
  have h : parts step l = parts step (l.take k) ++ parts step (l.drop k) := by
    unfold parts
    rw [← List.flatMap_append, List.take_append_drop]
  rw [h, List.length_append]
  omega
theorem split_arg {l : List Span} {step : Int} (h : isL l = false ∨ step < 0 ∨ 1 < step) : split l step = ([], 1) := by
  unfold split; rw [if_pos h]
theorem split_long {l : List Span} {step : Int} (h : isL l = true) (h0 : 0 ≤ step) (h1 : step ≤ 1) (hl : 65536 < (parts step l).length) : split l step = ([], 7) := by
  unfold split; rw [if_neg (by rw [h]; simp; omega), if_pos hl]
theorem split_done {l : List Span} {step : Int} (h : isL l = true) (h0 : 0 ≤ step) (h1 : step ≤ 1) (hl : ¬ 65536 < (parts step l).length) : split l step = (parts step l, 0) := by
  unfold split; rw [if_neg (by rw [h]; simp; omega), if_neg hl]
/-- Too many within a span: too many in all. -/
theorem split_stop {l : List Span} {step : Int} {i k : Nat} (h : isL l = true) (h0 : 0 ≤ step) (h1 : step ≤ 1) (hi : i < l.length) (hc : ¬ ((l.getD i zs).st = step ∨ (l.getD i zs).fr = (l.getD i zs).to)) (hk : (k : Int) ≤ (l.getD i zs).to - (l.getD i zs).fr + 1)
    (hl : 65536 < (parts step (l.take i) ++ cutTo step (l.getD i zs) k).length) : split l step = ([], 7) := by
  refine split_long h h0 h1 ?_
  refine Nat.lt_of_lt_of_le ?_ (parts_le step l (i + 1))
  rw [parts_step hi, part_cut hc, List.length_append]
  rw [List.length_append] at hl
  have := cut_le step (l.getD i zs) (k := k) (n := ((l.getD i zs).to - (l.getD i zs).fr + 1).toNat) (by omega)
  omega
/-- The bytes ahead of the groups. -/
def front (n : Nat) (format : Int) : List UInt8 := bytes format 2 ++ [0, 0] ++ bytes ((16 + 12 * n : Nat) : Int) 4 ++ [0, 0, 0, 0] ++ bytes ((n : Nat) : Int) 4
theorem file_front (x : List Span) (format : Int) : file x format = front x.length format ++ flat 4 (nums x) := rfl
theorem nums_step {x : List Span} {k : Nat} (h : k < x.length) : nums (x.take (k + 1)) = nums (x.take k) ++ [(x.getD k zs).fr, (x.getD k zs).to, (x.getD k zs).gl] := by
  rw [take_snoc h]
  generalize x.getD k zs = y
  generalize x.take k = A
  induction A with
  | nil => rfl
  | cons a r ih => rw [List.cons_append, nums, nums, ih]; rfl
theorem file_step {x : List Span} {k : Nat} (h : k < x.length) (A : List UInt8) : A ++ flat 4 (nums (x.take k)) ++ bytes (x.getD k zs).fr 4 ++ bytes (x.getD k zs).to 4 ++ bytes (x.getD k zs).gl 4 = A ++ flat 4 (nums (x.take (k + 1))) := by
  rw [nums_step h, flat_append]
  simp [flat, List.append_assoc]
theorem row_bound (s : List UInt8) (p : Nat) : 0 ≤ long s p := long_bound s p
theorem rows_step (s : List UInt8) (k : Nat) : (List.range (k + 1)).map (row s) = (List.range k).map (row s) ++ [row s k] := by
  rw [List.range_succ, List.map_append]; rfl
end Gp
