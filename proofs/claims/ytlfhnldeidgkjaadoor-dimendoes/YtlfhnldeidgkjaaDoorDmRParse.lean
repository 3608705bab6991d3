/-
  Plain facts: the document's answer Parse, as its reference reads a text from the left, tells the same as the plain function. No conditions.
-/
import Derived.Test.YtlfhnldeidgkjaaDoorDmRef2
namespace Dm
open Go

/-- Read from the left, behind the sign. -/
def rend (m : Bool) (v : Nat) : Int × Int := within (if m then -(v : Int) else (v : Int))
def rbody (m : Bool) (r : List UInt8) : Int × Int :=
  if digs r < 1 ∨ 5 < digs r then (0, 5)
  else match r.drop (digs r) with
    | [] => (0, 5)
    | c :: t =>
      if c = 46 then
        if digs t < 1 ∨ 10 < digs t then (0, 5)
        else if t.drop (digs t) = [112, 116] then rend m (65536 * numv (r.take (digs r)) + scaled (numv (t.take (digs t))) (digs t)) else (0, 5)
      else if c :: t = [112, 116] then rend m (65536 * numv (r.take (digs r))) else (0, 5)
def rparse : List UInt8 → Int × Int
  | [] => (0, 5)
  | c :: t => if c = 45 then rbody true t else rbody false (c :: t)

theorem digs_all : ∀ (A B : List UInt8), A.all isDig = true → digs (A ++ B) = A.length + digs B
  | [], B, _ => by simp
  | c :: A, B, h => by
    simp only [List.all_cons, Bool.and_eq_true] at h
    have := digs_all A B h.2
    unfold digs at *
    rw [List.cons_append, List.takeWhile_cons, if_pos h.1, List.length_cons, List.length_cons, this]
    omega
theorem digs_stop (c : UInt8) (X : List UInt8) (h : isDig c = false) : digs (c :: X) = 0 := by
  unfold digs; rw [List.takeWhile_cons, h]; rfl
theorem digs_not : ∀ (A B : List UInt8), A.all isDig = false → digs (A ++ B) < A.length
  | [], B, h => by simp at h
  | c :: A, B, h => by
    by_cases hc : isDig c = true
    · have h2 : A.all isDig = false := by simpa [hc] using h
      have := digs_not A B h2
      unfold digs at *
      rw [List.cons_append, List.takeWhile_cons, if_pos hc, List.length_cons, List.length_cons]
      omega
    · have : digs (c :: (A ++ B)) = 0 := digs_stop c _ (by simpa using hc)
      rw [List.cons_append, this]
      simp
theorem digs_take (r : List UInt8) : (r.take (digs r)).all isDig = true ∧ (r.take (digs r)).length = digs r := by
  refine ⟨?_, by rw [List.length_take]; have := digs_le r; omega⟩
  rw [List.all_eq_true]
  intro c hc
  obtain ⟨k, hk, rfl⟩ := List.mem_iff_getElem.1 hc
  have hk' : k < digs r := by have := digs_le r; simp at hk; omega
  have := digs_at r k hk'
  have hl := digs_le r
  rw [List.getElem_take]
  rw [show r.getD k 0 = r[k]'(by omega) by simp [List.getD, List.getElem?_eq_getElem (show k < r.length by omega)]] at this
  exact this

/-- Parse, behind the sign. -/
def pbody (m : Bool) (r : List UInt8) : Int × Int :=
  if Lib.hasSuffix r [112, 116] = false then (0, 5)
  else parts m (Lib.cut (Lib.trimSuffix r [112, 116]) [46]).1 (Lib.cut (Lib.trimSuffix r [112, 116]) [46]).2.2 (Lib.cut (Lib.trimSuffix r [112, 116]) [46]).2.1

theorem suffix_cases (r : List UInt8) : Lib.hasSuffix r [112, 116] = false ∨ ∃ r2, r = r2 ++ [112, 116] := by
  cases h : Lib.hasSuffix r [112, 116] with
  | false => exact .inl rfl
  | true =>
    unfold Lib.hasSuffix at h
    rw [List.isSuffixOf_iff_suffix] at h
    obtain ⟨t, ht⟩ := h
    exact .inr ⟨t, ht.symm⟩

theorem no_suffix {r : List UInt8} (h : Lib.hasSuffix r [112, 116] = false) : ∀ A, r ≠ A ++ [112, 116] := by
  intro A hA
  rw [hA, (suffix_pt A).1] at h
  cases h

theorem parts_whole (m : Bool) (W : List UInt8) : parts m W false [] = if good W 5 = true then rend m (65536 * numv W) else (0, 5) := by
  unfold parts rend
  by_cases h : good W 5 = true
  · rw [h, if_neg (by simp), if_neg (by simp), if_pos rfl]
    simp [Nat.mul_comm]
  · have h' : good W 5 = false := by simpa using h
    rw [h', if_pos rfl, if_neg (by simp)]

theorem parts_two (m : Bool) (W F : List UInt8) : parts m W true F = if good W 5 = true ∧ good F 10 = true then rend m (65536 * numv W + scaled (numv F) F.length) else (0, 5) := by
  unfold parts rend
  by_cases h : good W 5 = true
  · by_cases h2 : good F 10 = true
    · rw [if_pos (show good W 5 = true ∧ good F 10 = true from ⟨h, h2⟩), h, h2, if_neg (by simp), if_neg (by simp)]
      simp [Nat.mul_comm]
    · have h' : good F 10 = false := by simpa using h2
      rw [h, h', if_neg (by simp), if_pos ⟨rfl, rfl⟩, if_neg (by simp)]
  · have h' : good W 5 = false := by simpa using h
    rw [h', if_pos rfl, if_neg (by simp)]

theorem good_iff (W : List UInt8) (m : Nat) (h : W.all isDig = true) : good W m = true ↔ ¬ (W.length < 1 ∨ m < W.length) := by
  simp only [good, h, Bool.and_true, Bool.and_eq_true, decide_eq_true_eq]; omega
theorem good_no (W : List UInt8) (m : Nat) (h : W.all isDig = false) : good W m = false := by simp [good, h]

/-- What stands behind the digits of a text of which a part is no digit is longer than the unit. -/
theorem drop_long (A B : List UInt8) (h : A.all isDig = false) : ∃ c t, (A ++ B).drop (digs (A ++ B)) = c :: t ∧ c ∈ A ∧ isDig c = false ∧ B.length ≤ t.length := by
  have hlt := digs_not A B h
  have hle : digs (A ++ B) < (A ++ B).length := by simp; omega
  refine ⟨(A ++ B)[digs (A ++ B)], (A ++ B).drop (digs (A ++ B) + 1), List.drop_eq_getElem_cons hle, ?_, ?_, ?_⟩
  · rw [List.getElem_append_left hlt]; exact List.getElem_mem _
  · have := digs_end (A ++ B) hle
    rwa [show (A ++ B).getD (digs (A ++ B)) 0 = (A ++ B)[digs (A ++ B)] by simp [List.getD, List.getElem?_eq_getElem hle]] at this
  · rw [List.length_drop, List.length_append]; omega

theorem ne_pt_long (c : UInt8) (t : List UInt8) (h : 2 ≤ t.length) : ¬ c :: t = [112, 116] := by
  intro he
  have := congrArg List.length he
  simp at this
  omega

theorem rbody_eq (m : Bool) (r : List UInt8) : rbody m r = pbody m r := by
  unfold pbody
  rcases suffix_cases r with hs | ⟨r2, rfl⟩
  · rw [if_pos hs]
    have hno := no_suffix hs
    unfold rbody
    by_cases h1 : digs r < 1 ∨ 5 < digs r
    · rw [if_pos h1]
    · rw [if_neg h1]
      have hsplit : r = r.take (digs r) ++ r.drop (digs r) := (List.take_append_drop _ _).symm
      cases hd : r.drop (digs r) with
      | nil => rfl
      | cons c t =>
        simp only
        rw [hd] at hsplit
        by_cases hc : c = 46
        · rw [if_pos hc]
          by_cases h2 : digs t < 1 ∨ 10 < digs t
          · rw [if_pos h2]
          · rw [if_neg h2, if_neg]
            intro hp
            have : t = t.take (digs t) ++ t.drop (digs t) := (List.take_append_drop _ _).symm
            rw [hp] at this
            exact hno (r.take (digs r) ++ c :: t.take (digs t)) ((hsplit.trans (congrArg (fun x => r.take (digs r) ++ c :: x) this)).trans (by simp))
        · rw [if_neg hc, if_neg]
          intro hp
          rw [hp] at hsplit
          exact hno _ hsplit
  · obtain ⟨s1, s2⟩ := suffix_pt r2
    rw [s1, s2, if_neg (by simp)]
    rcases index_cases r2 with hi | ⟨i, hi, hil⟩
    · rw [cut_miss r2 hi, parts_whole]
      have hno46 : ∀ c ∈ r2, c ≠ 46 := by
        intro c hc he
        subst he
        obtain ⟨k, hk, hke⟩ := List.mem_iff_getElem.1 hc
        exact Lib.indexByte_none hi k (by rw [List.getElem?_eq_getElem hk, hke])
      unfold rbody
      by_cases ha : r2.all isDig = true
      · have e1 : digs (r2 ++ [112, 116]) = r2.length := by rw [digs_all r2 _ ha, digs_stop 112 _ (by decide)]; rfl
        rw [e1]
        by_cases hg : r2.length < 1 ∨ 5 < r2.length
        · rw [if_pos hg, if_neg (fun h => (good_iff r2 5 ha).1 h hg)]
        · rw [if_neg hg, if_pos ((good_iff r2 5 ha).2 hg)]
          simp
      · have ha' : r2.all isDig = false := by simpa using ha
        rw [good_no r2 5 ha']
        simp only [Bool.false_eq_true, if_false]
        by_cases hg : digs (r2 ++ [112, 116]) < 1 ∨ 5 < digs (r2 ++ [112, 116])
        · rw [if_pos hg]
        · rw [if_neg hg]
          obtain ⟨c, t, hd, hcm, hcd, hlt⟩ := drop_long r2 [112, 116] ha'
          rw [hd]
          simp only
          rw [if_neg (hno46 c hcm), if_neg (ne_pt_long c t hlt)]
    · rw [cut_hit r2 i hi, parts_two]
      obtain ⟨g1, g2⟩ := Lib.indexByte_some hi
      have hr2 : r2 = r2.take i ++ 46 :: r2.drop (i + 1) := by
        have hlt : i < r2.length := by omega
        have e : r2[i] = 46 := by rw [List.getElem?_eq_getElem hlt] at g1; exact Option.some.inj g1
        conv => lhs; rw [← List.take_append_drop i r2, List.drop_eq_getElem_cons hlt, e]
      have hno46 : ∀ c ∈ r2.take i, c ≠ 46 := by
        intro c hc he
        subst he
        obtain ⟨k, hk, hke⟩ := List.mem_iff_getElem.1 hc
        have hk' : k < i := by simp at hk; omega
        have hk2 : k < r2.length := by omega
        apply g2 k hk'
        rw [List.getElem?_eq_getElem hk2]
        rw [List.getElem_take] at hke
        rw [hke]
      generalize r2.take i = W at *
      generalize r2.drop (i + 1) = F at *
      subst hr2
      have e0 : W ++ 46 :: F ++ [112, 116] = W ++ 46 :: (F ++ [112, 116]) := by simp
      rw [e0]
      unfold rbody
      by_cases ha : W.all isDig = true
      · have e1 : digs (W ++ 46 :: (F ++ [112, 116])) = W.length := by rw [digs_all W _ ha, digs_stop 46 _ (by decide)]; rfl
        rw [e1]
        by_cases hg : W.length < 1 ∨ 5 < W.length
        · rw [if_pos hg, if_neg (fun h => (good_iff W 5 ha).1 h.1 hg)]
        · rw [if_neg hg]
          have hgW := (good_iff W 5 ha).2 hg
          simp only [List.drop_left, List.take_left, if_true]
          by_cases hf : F.all isDig = true
          · have e2 : digs (F ++ [112, 116]) = F.length := by rw [digs_all F _ hf, digs_stop 112 _ (by decide)]; rfl
            rw [e2]
            by_cases hg2 : F.length < 1 ∨ 10 < F.length
            · rw [if_pos hg2, if_neg (fun h => (good_iff F 10 hf).1 h.2 hg2)]
            · rw [if_neg hg2, if_pos (show good W 5 = true ∧ good F 10 = true from ⟨hgW, (good_iff F 10 hf).2 hg2⟩)]
              simp
          · have hf' : F.all isDig = false := by simpa using hf
            rw [good_no F 10 hf']
            simp only [Bool.false_eq_true, and_false, if_false]
            by_cases hg2 : digs (F ++ [112, 116]) < 1 ∨ 10 < digs (F ++ [112, 116])
            · rw [if_pos hg2]
            · rw [if_neg hg2]
              obtain ⟨c, t, hd, hcm, hcd, hlt⟩ := drop_long F [112, 116] hf'
              rw [hd, if_neg (ne_pt_long c t hlt)]
      · have ha' : W.all isDig = false := by simpa using ha
        rw [good_no W 5 ha']
        simp only [Bool.false_eq_true, false_and, if_false]
        by_cases hg : digs (W ++ 46 :: (F ++ [112, 116])) < 1 ∨ 5 < digs (W ++ 46 :: (F ++ [112, 116]))
        · rw [if_pos hg]
        · rw [if_neg hg]
          obtain ⟨c, t, hd, hcm, hcd, hlt⟩ := drop_long W (46 :: (F ++ [112, 116])) ha'
          rw [hd]
          simp only
          rw [if_neg (hno46 c hcm), if_neg (ne_pt_long c t (by simp at hlt; omega))]

theorem rparse_cons (c : UInt8) (t : List UInt8) : rparse (c :: t) = if c = 45 then rbody true t else rbody false (c :: t) := rfl
theorem rparse_eq (l : List UInt8) : rparse l = parse l := by
  cases l with
  | nil => decide
  | cons c t =>
    rw [rparse_cons]
    by_cases hc : c = 45
    · subst hc
      rw [if_pos rfl, rbody_eq]
      obtain ⟨h1, h2⟩ := prefix_minus t
      unfold parse pbody
      rw [h1, h2]
    · rw [if_neg hc, rbody_eq]
      obtain ⟨h1, h2⟩ := prefix_none c t hc
      unfold parse pbody
      rw [h1, h2]
end Dm
