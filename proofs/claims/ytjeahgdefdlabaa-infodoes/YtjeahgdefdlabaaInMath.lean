/-
  Plain functions on bytes (layer 14, info), with nothing of the program: glyphs' values, got and put, and found; facts on them. No conditions beyond those stated.
-/
import Derived.Test.YtjeahgdefdlabaaCoPut
namespace Ino
open Bn He

/-- A glyph and its value. -/
abbrev Pair := Int × Int
def glyphs (l : List Pair) : List Int := l.map Prod.fst
def isP (l : List Pair) : Bool := (l.all fun x => fits x.2 (-2)) && Co.isCov (glyphs l)
theorem isP_iff (l : List Pair) : isP l = true ↔ (∀ x ∈ l, fits x.2 (-2) = true) ∧ Co.isCov (glyphs l) = true := by
  unfold isP
  simp only [Bool.and_eq_true, List.all_eq_true]
def zip (t : List UInt8) (g : List Int) : List Pair := (List.range g.length).map fun i => (g.getD i 0, fld t (4 + 4 * i) (-2))
def get (s : List UInt8) (pos : Int) : List Pair × Int :=
  if pos < 0 then ([], 1)
  else if (s.length : Int) < pos ∨ (s.length : Int) - pos < 4 then ([], 4)
  else if (s.length : Int) - pos < 4 + 4 * fld (s.drop pos.toNat) 2 2 then ([], 4)
  else if (Co.get s (pos + fld (s.drop pos.toNat) 0 2)).2 ≠ 0 then ([], (Co.get s (pos + fld (s.drop pos.toNat) 0 2)).2)
  else if ((Co.get s (pos + fld (s.drop pos.toNat) 0 2)).1.length : Int) ≠ fld (s.drop pos.toNat) 2 2 then ([], 5)
  else (zip (s.drop pos.toNat) (Co.get s (pos + fld (s.drop pos.toNat) 0 2)).1, 0)
def vals : List Pair → List UInt8
  | [] => []
  | x :: r => bytes x.2 2 ++ [0, 0] ++ vals r
def out (l : List Pair) : List UInt8 := bytes (4 + 4 * l.length : Nat) 2 ++ bytes l.length 2 ++ vals l ++ (Co.put (glyphs l)).1
def put (l : List Pair) : List UInt8 × Int := if isP l = false then ([], 1) else if 16382 < l.length then ([], 7) else (out l, 0)
def find (l : List Pair) (g : Int) : Int × Bool := if isP l = true then match l.find? fun x => decide (x.1 = g) with | some x => (x.2, true) | none => (0, false) else (0, false)

theorem vals_len : ∀ l : List Pair, (vals l).length = 4 * l.length
  | [] => rfl
  | x :: r => by rw [vals, List.length_append, List.length_append, bytes_len, vals_len r, List.length_cons]; simp; omega
theorem vals_at : ∀ (l : List Pair) (a b : List UInt8) (i : Nat), i < l.length → (∀ x ∈ l, fits x.2 (-2) = true) → fld (a ++ vals l ++ b) (a.length + 4 * i) (-2) = (l.getD i (0, 0)).2
  | [], _, _, i, hi, _ => by simp at hi
  | x :: r, a, b, 0, _, h => by
    refine fld_at a ([0, 0] ++ (vals r ++ b)) x.2 (-2) _ ?_ (by omega) (by decide) (h x (by simp))
    rw [vals]; simp only [List.append_assoc]; rfl
  | x :: r, a, b, i + 1, hi, h => by
    have := vals_at r (a ++ bytes x.2 2 ++ [0, 0]) b i (by simpa using hi) (fun y hy => h y (List.mem_cons_of_mem _ hy))
    rw [List.length_append, List.length_append, bytes_len] at this
    rw [show a.length + 4 * (i + 1) = a.length + 2 + [(0 : UInt8), 0].length + 4 * i by simp; omega, vals]
    simp only [List.append_assoc] at this ⊢
    simpa using this
theorem put_ok {l : List Pair} (h : (put l).2 = 0) : isP l = true ∧ l.length ≤ 16382 ∧ (put l).1 = out l := by
  unfold put at *
  by_cases c1 : isP l = false
  · rw [if_pos c1] at h; cases h
  · rw [if_neg c1] at h ⊢
    by_cases c2 : 16382 < l.length
    · rw [if_pos c2] at h; cases h
    · rw [if_neg c2]; exact ⟨by simpa using c1, by omega, rfl⟩
theorem put_few {l : List Pair} (hl : l.length ≤ 16382) : (put l).2 = 0 ∨ (isP l = false ∧ put l = ([], 1)) := by
  unfold put
  cases e : isP l with
  | false => right; exact ⟨rfl, rfl⟩
  | true => left; rw [if_neg (by simp), if_neg (by omega)]
/-- What is put is got, wherever it stands. -/
theorem get_put {l : List Pair} (h : (put l).2 = 0) (front back : List UInt8) : get (front ++ (put l).1 ++ back) front.length = (l, 0) := by
  obtain ⟨hp, hl, e⟩ := put_ok h
  obtain ⟨hf, hc⟩ := (isP_iff l).1 hp
  rw [e]
  obtain ⟨pc1, _, _, pc4, _⟩ := Co.put_cov hc
  have hgl : (glyphs l).length = l.length := by simp [glyphs]
  have hd : (front ++ out l ++ back).drop front.length = out l ++ back := by rw [List.append_assoc, List.drop_left]
  have w0 : fld (out l ++ back) 0 2 = ((4 + 4 * l.length : Nat) : Int) := Co.word_at [] (bytes l.length 2 ++ (vals l ++ ((Co.put (glyphs l)).1 ++ back))) _ 0 (by unfold out; simp only [List.append_assoc, List.nil_append]) rfl (by omega) (by omega)
  have w2 : fld (out l ++ back) 2 2 = (l.length : Int) := Co.word_at (bytes (4 + 4 * l.length : Nat) 2) (vals l ++ ((Co.put (glyphs l)).1 ++ back)) _ 2 (by unfold out; simp only [List.append_assoc]) (bytes_len _ _) (by omega) (by omega)
  have hlen : (front ++ out l ++ back).length = front.length + (4 + 4 * l.length + (Co.put (glyphs l)).1.length) + back.length := by unfold out; simp only [List.length_append, bytes_len, vals_len]
  have hcov : Co.get (front ++ out l ++ back) ((front.length : Int) + ((4 + 4 * l.length : Nat) : Int)) = (glyphs l, 0) := by
    have := (Co.get_put pc1 (front ++ (bytes (4 + 4 * l.length : Nat) 2 ++ bytes l.length 2 ++ vals l)) back).1
    rw [show ((front ++ (bytes (4 + 4 * l.length : Nat) 2 ++ bytes l.length 2 ++ vals l)).length : Int) = (front.length : Int) + ((4 + 4 * l.length : Nat) : Int) by simp only [List.length_append, bytes_len, vals_len]; omega] at this
    rw [← this]
    unfold out
    simp only [List.append_assoc]
  unfold get
  rw [if_neg (by omega), if_neg (by rw [hlen]; omega), Int.toNat_natCast, hd, w0, w2, if_neg (by rw [hlen]; omega), hcov, if_neg (by simp), if_neg (by simp [hgl])]
  simp only [Prod.mk.injEq, and_true]
  apply List.ext_getElem
  · simp [zip, hgl]
  · intro i h1 h2
    have := vals_at l (bytes (4 + 4 * l.length : Nat) 2 ++ bytes l.length 2) ((Co.put (glyphs l)).1 ++ back) i h2 hf
    rw [List.length_append, bytes_len, bytes_len] at this
    simp only [zip, List.getElem_map, List.getElem_range]
    rw [show out l ++ back = bytes (4 + 4 * l.length : Nat) 2 ++ bytes l.length 2 ++ vals l ++ ((Co.put (glyphs l)).1 ++ back) by unfold out; simp only [List.append_assoc], show 4 + 4 * i = 2 + 2 + 4 * i by omega, this]
    simp [glyphs, List.getD, List.getElem?_eq_getElem h2]
theorem get_none {s : List UInt8} {pos : Int} (h : (get s pos).2 ≠ 0) : (get s pos).1 = [] := by
  unfold get at *
  by_cases c1 : pos < 0
  · rw [if_pos c1]
  · rw [if_neg c1] at h ⊢
    by_cases c2 : (s.length : Int) < pos ∨ (s.length : Int) - pos < 4
    · rw [if_pos c2]
    · rw [if_neg c2] at h ⊢
      by_cases c3 : (s.length : Int) - pos < 4 + 4 * fld (s.drop pos.toNat) 2 2
      · rw [if_pos c3]
      · rw [if_neg c3] at h ⊢
        by_cases c4 : (Co.get s (pos + fld (s.drop pos.toNat) 0 2)).2 ≠ 0
        · rw [if_pos c4]
        · rw [if_neg c4] at h ⊢
          by_cases c5 : ((Co.get s (pos + fld (s.drop pos.toNat) 0 2)).1.length : Int) ≠ fld (s.drop pos.toNat) 2 2
          · rw [if_pos c5]
          · rw [if_neg c5] at h; exact absurd rfl h
/-- What is got. -/
theorem get_ok {s : List UInt8} {pos : Int} (h : (get s pos).2 = 0) : 0 ≤ pos ∧ pos + 4 ≤ s.length ∧ pos + 4 + 4 * fld (s.drop pos.toNat) 2 2 ≤ s.length ∧ (Co.get s (pos + fld (s.drop pos.toNat) 0 2)).2 = 0 ∧
    ((Co.get s (pos + fld (s.drop pos.toNat) 0 2)).1.length : Int) = fld (s.drop pos.toNat) 2 2 ∧ (get s pos).1 = zip (s.drop pos.toNat) (Co.get s (pos + fld (s.drop pos.toNat) 0 2)).1 := by
  unfold get at *
  by_cases c1 : pos < 0
  · rw [if_pos c1] at h; cases h
  · rw [if_neg c1] at h ⊢
    by_cases c2 : (s.length : Int) < pos ∨ (s.length : Int) - pos < 4
    · rw [if_pos c2] at h; cases h
    · rw [if_neg c2] at h ⊢
      by_cases c3 : (s.length : Int) - pos < 4 + 4 * fld (s.drop pos.toNat) 2 2
      · rw [if_pos c3] at h; cases h
      · rw [if_neg c3] at h ⊢
        by_cases c4 : (Co.get s (pos + fld (s.drop pos.toNat) 0 2)).2 ≠ 0
        · rw [if_pos c4] at h; exact absurd h c4
        · rw [if_neg c4] at h ⊢
          by_cases c5 : ((Co.get s (pos + fld (s.drop pos.toNat) 0 2)).1.length : Int) ≠ fld (s.drop pos.toNat) 2 2
          · rw [if_pos c5] at h; cases h
          · rw [if_neg c5]; exact ⟨by omega, by omega, by omega, by simpa using c4, by simpa using c5, rfl⟩
theorem zip_len (t : List UInt8) (g : List Int) : (zip t g).length = g.length := by simp [zip]
theorem zip_glyphs (t : List UInt8) (g : List Int) : glyphs (zip t g) = g := by
  apply List.ext_getElem
  · simp [glyphs, zip]
  · intro i h1 h2
    simp [glyphs, zip, List.getD, List.getElem?_eq_getElem h2]
theorem get_is {s : List UInt8} {pos : Int} (h : (get s pos).2 = 0) : isP (get s pos).1 = true := by
  obtain ⟨h0, h1, h2, h3, h4, h5⟩ := get_ok h
  rw [h5, isP_iff, zip_glyphs]
  refine ⟨fun x hx => ?_, (Co.get_again h3).1⟩
  unfold zip at hx
  obtain ⟨i, hi, rfl⟩ := List.mem_map.1 hx
  have hi' := List.mem_range.1 hi
  dsimp only
  unfold fld
  exact one_fits _ _ (by decide) (by rw [List.length_take, List.length_drop, List.length_drop]; simp; omega)
theorem find_at {l : List Pair} (h : isP l = true) {i : Nat} {x : Pair} (hx : l[i]? = some x) : find l x.1 = (x.2, true) := by
  obtain ⟨_, hc⟩ := (isP_iff l).1 h
  obtain ⟨hi, he⟩ := List.getElem?_eq_some_iff.1 hx
  unfold find
  rw [if_pos h]
  cases e : l.find? fun y => decide (y.1 = x.1) with
  | none =>
    exfalso
    have := List.find?_eq_none.1 e x (List.mem_of_getElem? hx)
    simp at this
  | some y =>
    have hy := List.find?_some e
    have hm := List.mem_of_find?_eq_some e
    simp only [decide_eq_true_eq] at hy
    obtain ⟨j, hj, hje⟩ := List.mem_iff_getElem.1 hm
    have gi : (glyphs l).getD i 0 = x.1 := by simp [glyphs, List.getD, List.getElem?_eq_getElem hi, he]
    have gj : (glyphs l).getD j 0 = x.1 := by simp [glyphs, List.getD, List.getElem?_eq_getElem hj, hje, hy]
    have hgl : (glyphs l).length = l.length := by simp [glyphs]
    have : j = i := by
      rcases Nat.lt_trichotomy j i with c | c | c
      · have := Co.cov_less hc i j c (by omega); omega
      · exact c
      · have := Co.cov_less hc j i c (by omega); omega
    subst this
    rw [show y = x by rw [← hje, he]]
end Ino
