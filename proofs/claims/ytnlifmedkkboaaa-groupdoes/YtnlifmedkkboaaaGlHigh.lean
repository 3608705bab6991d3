/-
  Plain functions (layer 7, glyf), further: how high and how deep a glyph is; facts on them. No conditions beyond those stated.
-/
import Derived.Test.YtnlifmedkkboaaaPlain
namespace Gl
open Bn He

/-- Height, depth, error. -/
def high (h : He.Head) (l : List Ext) (g : Int) : Int × Int × Int :=
  if isHead h = false then (0, 0, 1)
  else if g < 0 ∨ h.glyphs ≤ g ∨ (0 < l.length ∧ (l.length : Int) ≤ g) then (0, 0, 10)
  else if l.length = 0 then (h.asc, 0 - h.desc, 0)
  else ((l.getD g.toNat none).y1, 0 - (l.getD g.toNat none).y0, 0)
theorem high_arg {h : He.Head} (l : List Ext) (g : Int) (hh : isHead h = false) : high h l g = (0, 0, 1) := by unfold high; rw [if_pos hh]
theorem high_glyph {h : He.Head} {l : List Ext} {g : Int} (hh : isHead h = true) (hg : g < 0 ∨ h.glyphs ≤ g ∨ (0 < l.length ∧ (l.length : Int) ≤ g)) : high h l g = (0, 0, 10) := by
  unfold high; rw [if_neg (by rw [hh]; simp), if_pos hg]
theorem high_nil {h : He.Head} {g : Int} (hh : isHead h = true) (hg : 0 ≤ g ∧ g < h.glyphs) : high h [] g = (h.asc, 0 - h.desc, 0) := by
  unfold high; rw [if_neg (by rw [hh]; simp), if_neg (by simp; omega), if_pos List.length_nil]
theorem high_at {h : He.Head} {l : List Ext} {g : Int} (hh : isHead h = true) (hg : 0 ≤ g ∧ g < h.glyphs) (hl : 0 < l.length) (hgl : g < l.length) : high h l g = ((l.getD g.toNat none).y1, 0 - (l.getD g.toNat none).y0, 0) := by
  unfold high; rw [if_neg (by rw [hh]; simp), if_neg (by omega), if_neg (by omega)]
/-- What is refused is 0, and why. -/
theorem high_no {h : He.Head} {l : List Ext} {g : Int} (he : (high h l g).2.2 ≠ 0) : (high h l g).1 = 0 ∧ (high h l g).2.1 = 0 ∧ (isHead h = false ∨ g < 0 ∨ h.glyphs ≤ g ∨ (l.length : Int) ≤ g) := by
  unfold high at *
  by_cases c1 : isHead h = false
  · rw [if_pos c1]; exact ⟨rfl, rfl, .inl c1⟩
  · rw [if_neg c1] at he ⊢
    by_cases c2 : g < 0 ∨ h.glyphs ≤ g ∨ (0 < l.length ∧ (l.length : Int) ≤ g)
    · rw [if_pos c2]; exact ⟨rfl, rfl, .inr (by omega)⟩
    · rw [if_neg c2] at he
      by_cases c3 : l.length = 0
      · rw [if_pos c3] at he; exact absurd rfl he
      · rw [if_neg c3] at he; exact absurd rfl he
/-- What is told: the bounds; and all glyphs are as high as the font where no outlines are given. -/
theorem high_deep {h : He.Head} {l : List Ext} {g : Int} (hall : l.all isExt = true) (he : (high h l g).2.2 = 0) :
    high h [] g = (h.asc, 0 - h.desc, 0) ∧ (high h l g).1 ≤ 32768 ∧ (high h l g).2.1 ≤ 32768 ∧ (l.length = 0 ∨ 0 ≤ (high h l g).1 + (high h l g).2.1) := by
  unfold high at he
  cases c1 : isHead h with
  | false => rw [if_pos c1] at he; cases he
  | true =>
    have hb := (isHead_iff h).1 c1
    rw [if_neg (by rw [c1]; simp)] at he
    by_cases c2 : g < 0 ∨ h.glyphs ≤ g ∨ (0 < l.length ∧ (l.length : Int) ≤ g)
    · rw [if_pos c2] at he; cases he
    · refine ⟨high_nil c1 (by omega), ?_⟩
      by_cases c3 : l.length = 0
      · obtain rfl := List.eq_nil_of_length_eq_zero c3
        rw [high_nil c1 (by omega)]
        exact ⟨by dsimp only; omega, by dsimp only; omega, .inl rfl⟩
      · have hlt : g.toNat < l.length := by omega
        rw [high_at c1 (by omega) (by omega) (by omega)]
        have hm : l.getD g.toNat none ∈ l := by simp [List.getD, List.getElem?_eq_getElem hlt]
        have hx := List.all_eq_true.1 hall _ hm
        generalize l.getD g.toNat none = x at *
        dsimp only
        cases ha : x.any with
        | true =>
          have := isExt_any hx ha
          omega
        | false =>
          have := isExt_none hx ha
          subst this
          simp [none]
end Gl
