/-
  Plain facts: spans laid into the arrays, one after the other, give the words of format 4. Nothing of the program. No conditions beyond those stated.
-/
import Derived.Test.YtfnpindohoflaaaSgFit
import Derived.Test.YtfnpindohoflaaaGlFacts
namespace Sg
open Ch Bn He
/-- A list by its places. -/
def tab (f : Nat → Int) (N : Nat) : List Int := (List.range N).map f
theorem tab_len (f : Nat → Int) (N : Nat) : (tab f N).length = N := by simp [tab]
theorem tab_at (f : Nat → Int) {N j : Nat} (h : j < N) : (tab f N)[j]? = some (f j) := by simp [tab, h]
theorem tab_ext {f : Nat → Int} {N : Nat} {l : List Int} (hl : l.length = N) (h : ∀ j, j < N → l[j]? = some (f j)) : l = tab f N := by
  apply List.ext_getElem?
  intro j
  rcases Nat.lt_or_ge j N with hj | hj
  · rw [h j hj, tab_at f hj]
  · rw [List.getElem?_eq_none (by omega), List.getElem?_eq_none (by rw [tab_len]; exact hj)]
theorem tab_congr {f g : Nat → Int} {N : Nat} (h : ∀ j, j < N → f j = g j) : tab f N = tab g N := tab_ext (tab_len f N) fun j hj => by rw [tab_at f hj, h j hj]
theorem tab_set (f : Nat → Int) (N i : Nat) (z : Int) : (tab f N).set i z = tab (fun j => if j = i then z else f j) N := by
  refine tab_ext (by simp [tab_len]) fun j hj => ?_
  rw [List.getElem?_set]
  by_cases h : j = i
  · subst h
    rw [if_pos rfl, if_pos rfl, tab_len, if_pos hj]
  · rw [if_neg (Ne.symm h), if_neg h, tab_at f hj]
theorem tab_splice (f : Nat → Int) {N a w : Nat} (z : Int) (h : a + w ≤ N) : (tab f N).take a ++ List.replicate w z ++ (tab f N).drop (a + w) = tab (fun j => if a ≤ j ∧ j < a + w then z else f j) N := by
  have hl := tab_len f N
  refine tab_ext (by simp [hl]; omega) fun j hj => ?_
  by_cases h1 : j < a
  · rw [List.append_assoc, List.getElem?_append_left (by simp [hl]; omega), List.getElem?_take, if_pos h1, tab_at f hj, if_neg (by omega)]
  · by_cases h2 : j < a + w
    · rw [List.append_assoc, List.getElem?_append_right (by simp [hl]; omega), List.length_take, hl, List.getElem?_append_left (by simp; omega), List.getElem?_replicate, if_pos (by omega), if_pos (by omega)]
    · rw [List.getElem?_append_right (by simp [hl]; omega), List.getElem?_drop, List.length_append, List.length_take, hl, List.length_replicate, show a + w + (j - (min a N + w)) = j by omega, tab_at f hj, if_neg (by omega)]
/-- Which numbers stand behind the first k spans. -/
def done (K : List Span) (k j : Nat) : Prop :=
  j < 7 ∨ (7 ≤ j ∧ j < 7 + k) ∨ (8 + K.length ≤ j ∧ j < 8 + K.length + k) ∨ (8 + 2 * K.length ≤ j ∧ j < 8 + 2 * K.length + k) ∨ (8 + 3 * K.length ≤ j ∧ j < 8 + 3 * K.length + k) ∨ (8 + 4 * K.length ≤ j ∧ j < 8 + 4 * K.length + glyphs (K.take k))
instance (K : List Span) (k j : Nat) : Decidable (done K k j) := by unfold done; infer_instance
def stage (K : List Span) (k : Nat) : List Int := tab (fun j => if done K k j then (words K).getD j 0 else 0) (words K).length
theorem stage_len (K : List Span) (k : Nat) : (stage K k).length = 8 + 4 * K.length + glyphs K := by unfold stage; rw [tab_len, words_len]
theorem stage_zero (K : List Span) : stage K 0 = hd K.length (glyphs K) ++ (List.replicate (8 + 4 * K.length + glyphs K) (0 : Int)).drop 7 := by
  symm
  refine tab_ext (by simp [hd, words_len]; omega) fun j hj => ?_
  rw [words_len] at hj
  by_cases h : j < 7
  · rw [if_pos (.inl h), List.getElem?_append_left (by simp [hd]; exact h)]
    unfold words
    simp only [List.append_assoc]
    rw [getD_app_left _ _ _ (by simp [hd]; exact h)]
    simp only [List.getD]
    rw [List.getElem?_eq_getElem (by simp [hd]; exact h)]
    rfl
  · have hno : ¬ done K 0 j := by
      unfold done
      have : glyphs (K.take 0) = 0 := rfl
      rw [this]
      omega
    rw [if_neg hno, List.getElem?_append_right (by simp [hd]; omega), List.getElem?_drop, List.getElem?_replicate, if_pos (by simp [hd]; omega)]
theorem stage_end (K : List Span) : stage K K.length = words K := by
  symm
  refine tab_ext rfl fun j hj => ?_
  have hj2 := hj
  rw [words_len] at hj2
  have hg : (words K)[j]? = some ((words K).getD j 0) := by simp [List.getD, List.getElem?_eq_getElem hj]
  rw [hg]
  congr 1
  by_cases h : done K K.length j
  · rw [if_pos h]
  · rw [if_neg h]
    have e : j = 7 + K.length := by
      unfold done at h
      rw [List.take_length] at h
      omega
    subst e
    unfold words
    simp only [List.append_assoc]
    rw [getD_app_right _ _ _ K.length (by simp [hd]), getD_app_right _ _ _ 0 (by simp)]
    rfl
theorem at1_zs {K : List Span} {k : Nat} (h : k < K.length) : at1 K k = K.getD k zs := by
  simp [at1, List.getD, List.getElem?_eq_getElem h]
theorem delta_mod {x : Span} (h : isRow x = false) (h0 : 0 ≤ x.gl) (h1 : x.gl ≤ 65535) (h2 : 0 ≤ x.fr) (h3 : x.fr ≤ 65535) : delta x = (x.gl - x.fr) % 65536 := by
  unfold delta
  rw [if_neg (by rw [h]; simp)]
  unfold plane
  by_cases h4 : 65536 ≤ 65536 + x.gl - x.fr
  · rw [if_pos h4]; omega
  · rw [if_neg h4]; omega
end Sg
