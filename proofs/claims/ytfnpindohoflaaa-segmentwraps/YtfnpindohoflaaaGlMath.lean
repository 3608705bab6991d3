/-
  Plain functions on bytes (layer 7, glyf), with nothing of the program: extents, got and put; facts on them. No conditions beyond those stated.
-/
import Derived.Test.YtfnpindohoflaaaHmMath
import Derived.Test.YtfnpindohoflaaaSfMath
namespace He
open Bn
/-- Numbers of one size, one behind the other. -/
def flat (size : Int) : List Int → List UInt8
  | [] => []
  | x :: r => bytes x size.natAbs ++ flat size r
theorem flat_len (size : Int) : ∀ xs : List Int, (flat size xs).length = size.natAbs * xs.length
  | [] => rfl
  | x :: r => by rw [flat, List.length_append, bytes_len, flat_len size r, List.length_cons, Nat.mul_succ, Nat.add_comm]
theorem flat_append (size : Int) : ∀ a b : List Int, flat size (a ++ b) = flat size a ++ flat size b
  | [], b => rfl
  | x :: r, b => by rw [List.cons_append, flat, flat, flat_append size r b, List.append_assoc]
theorem flat_at {size : Int} (hz : isSize size = true) {xs : List Int} {i : Nat} (hi : i < xs.length) (hf : fits (xs.getD i 0) size = true) (more : List UInt8) : fld (flat size xs ++ more) (size.natAbs * i) size = xs.getD i 0 := by
  have hl : xs = xs.take i ++ xs.getD i 0 :: xs.drop (i + 1) := by
    rw [show xs.getD i 0 = xs[i] by simp [List.getD, List.getElem?_eq_getElem hi], ← List.drop_eq_getElem_cons hi, List.take_append_drop]
  refine fld_at (flat size (xs.take i)) (flat size (xs.drop (i + 1)) ++ more) _ size _ ?_ ?_ hz hf
  · conv => lhs; rw [hl]
    rw [flat_append, flat]
    simp only [List.append_assoc]
  · rw [flat_len, List.length_take, Nat.min_eq_left (by omega)]
end He
namespace Gl
open Bn He Sf

structure Ext where
  any : Bool
  x0 : Int
  y0 : Int
  x1 : Int
  y1 : Int
def none : Ext := ⟨false, 0, 0, 0, 0⟩
def isExt (x : Ext) : Bool :=
  if x.any = true then short x.x0 && short x.y0 && short x.x1 && short x.y1 && decide (x.x0 ≤ x.x1) && decide (x.y0 ≤ x.y1)
  else decide (x.x0 = 0) && decide (x.y0 = 0) && decide (x.x1 = 0) && decide (x.y1 = 0)
theorem short_iff (n : Int) : short n = true ↔ -32768 ≤ n ∧ n ≤ 32767 := by unfold short; simp
theorem isExt_any {x : Ext} (h : isExt x = true) (ha : x.any = true) : (-32768 ≤ x.x0 ∧ x.x0 ≤ 32767) ∧ (-32768 ≤ x.y0 ∧ x.y0 ≤ 32767) ∧ (-32768 ≤ x.x1 ∧ x.x1 ≤ 32767) ∧ (-32768 ≤ x.y1 ∧ x.y1 ≤ 32767) ∧ x.x0 ≤ x.x1 ∧ x.y0 ≤ x.y1 := by
  unfold isExt at h
  rw [if_pos ha] at h
  simp only [Bool.and_eq_true, short_iff, decide_eq_true_eq, and_assoc] at h
  omega
theorem isExt_none {x : Ext} (h : isExt x = true) (ha : x.any = false) : x = none := by
  unfold isExt at h
  rw [if_neg (by rw [ha]; simp)] at h
  simp only [Bool.and_eq_true, decide_eq_true_eq, and_assoc] at h
  cases x
  simp only at ha h
  simp [none, ha, h.1, h.2.1, h.2.2.1, h.2.2.2]
def place (loca : List UInt8) (i : Nat) (long : Bool) : Int := if long = true then fld loca (4 * i) 4 else 2 * fld loca (2 * i) 2
def read (s : List UInt8) : Ext := ⟨true, fld s 2 (-2), fld s 4 (-2), fld s 6 (-2), fld s 8 (-2)⟩
/-- A glyph's extent. -/
def ext (s : List UInt8) : Ext × Int :=
  if s.length = 0 then (none, 0) else if s.length < 10 then (none, 4) else if isExt (read s) = false then (none, 5) else (read s, 0)
def step (loca glyf : List UInt8) (long : Bool) (i : Nat) : Ext × Int :=
  if place loca (i + 1) long < place loca i long then (none, 5)
  else if (glyf.length : Int) < place loca (i + 1) long then (none, 4)
  else ext ((glyf.drop (place loca i long).toNat).take ((place loca (i + 1) long).toNat - (place loca i long).toNat))
def wid (long : Bool) : Nat := if long = true then 4 else 2
def get (loca glyf : List UInt8) (glyphs : Int) (long : Bool) : List Ext × Int :=
  if glyphs < 1 ∨ 65535 < glyphs then ([], 1)
  else if (loca.length : Int) < wid long * (glyphs + 1) then ([], 4)
  else if scan (fun i => (step loca glyf long i).2) 0 glyphs.toNat ≠ 0 then ([], scan (fun i => (step loca glyf long i).2) 0 glyphs.toNat)
  else ((List.range glyphs.toNat).map fun i => (step loca glyf long i).1, 0)
/-- A glyph's bytes. -/
def body (x : Ext) : List UInt8 := if x.any = true then [0, 0] ++ bytes x.x0 2 ++ bytes x.y0 2 ++ bytes x.x1 2 ++ bytes x.y1 2 ++ [0, 0] else []
def bodies : List Ext → List UInt8
  | [] => []
  | x :: r => body x ++ bodies r
def off (l : List Ext) (i : Nat) : Nat := (bodies (l.take i)).length
def places (l : List Ext) (long : Bool) : List Int := (List.range (l.length + 1)).map fun i => if long = true then ((off l i : Nat) : Int) else ((off l i / 2 : Nat) : Int)
def loca (l : List Ext) (long : Bool) : List UInt8 := flat (wid long : Nat) (places l long)
def outlines (l : List Ext) : Nat := (l.filter Ext.any).length
def put (l : List Ext) (long : Bool) : List UInt8 × List UInt8 × Int :=
  if l.length < 1 ∨ 65535 < l.length ∨ l.all isExt = false then ([], [], 1)
  else if long = false ∧ 10922 < outlines l then ([], [], 7)
  else (loca l long, bodies l, 0)

theorem body_len (x : Ext) : (body x).length = if x.any = true then 12 else 0 := by
  unfold body
  by_cases h : x.any = true
  · rw [if_pos h, if_pos h]; simp [bytes_len]
  · rw [if_neg h, if_neg h]; rfl
theorem bodies_append : ∀ a b : List Ext, bodies (a ++ b) = bodies a ++ bodies b
  | [], b => rfl
  | x :: r, b => by rw [List.cons_append, bodies, bodies, bodies_append r b, List.append_assoc]
theorem bodies_len : ∀ l : List Ext, (bodies l).length = 12 * outlines l
  | [] => rfl
  | x :: r => by
    rw [bodies, List.length_append, body_len, bodies_len r]
    unfold outlines
    by_cases h : x.any = true
    · rw [if_pos h, List.filter_cons_of_pos h, List.length_cons]; omega
    · rw [if_neg h, List.filter_cons_of_neg h]; omega
theorem outlines_take (l : List Ext) (i : Nat) : outlines (l.take i) ≤ outlines l := by
  conv => rhs; rw [← List.take_append_drop i l]
  unfold outlines
  rw [List.filter_append, List.length_append]; omega
theorem outlines_le (l : List Ext) : outlines l ≤ l.length := List.length_filter_le _ _
theorem off_le (l : List Ext) (i : Nat) : off l i ≤ 12 * outlines l := by
  unfold off; rw [bodies_len]; have := outlines_take l i; omega
theorem off_even (l : List Ext) (i : Nat) : off l i % 2 = 0 := by unfold off; rw [bodies_len]; omega
theorem split_at {l : List Ext} {i : Nat} (hi : i < l.length) : l = l.take i ++ l.getD i none :: l.drop (i + 1) := by
  rw [show l.getD i none = l[i] by simp [List.getD, List.getElem?_eq_getElem hi], ← List.drop_eq_getElem_cons hi, List.take_append_drop]
theorem off_step {l : List Ext} {i : Nat} (hi : i < l.length) : off l (i + 1) = off l i + (body (l.getD i none)).length := by
  unfold off
  rw [List.take_succ_eq_append_getElem hi, bodies_append, List.length_append]
  simp [bodies, List.getD, List.getElem?_eq_getElem hi]
theorem places_len (l : List Ext) (long : Bool) : (places l long).length = l.length + 1 := by simp [places]
theorem places_at {l : List Ext} {long : Bool} {i : Nat} (hi : i ≤ l.length) : (places l long).getD i 0 = if long = true then ((off l i : Nat) : Int) else ((off l i / 2 : Nat) : Int) := by
  simp [places, List.getD, show i < l.length + 1 by omega]
theorem wid_size (long : Bool) : isSize ((wid long : Nat) : Int) = true := by cases long <;> decide
theorem wid_abs (long : Bool) : ((wid long : Nat) : Int).natAbs = wid long := by cases long <;> rfl
theorem loca_len (l : List Ext) (long : Bool) : (loca l long).length = wid long * (l.length + 1) := by
  unfold loca; rw [flat_len, places_len, wid_abs]
/-- What loca tells of what was put. -/
theorem place_put {l : List Ext} {long : Bool} (ho : outlines l ≤ if long = true then 65535 else 10922) (more : List UInt8) {i : Nat} (hi : i ≤ l.length) : place (loca l long ++ more) i long = ((off l i : Nat) : Int) := by
  have hle := off_le l i
  have hev := off_even l i
  cases long with
  | true =>
    simp only [if_true] at ho
    have := flat_at (size := 4) (by decide) (xs := places l true) (i := i) (by rw [places_len]; omega) (by rw [places_at hi, if_pos rfl]; unfold fits; rw [if_neg (by omega)]; simp; omega) more
    rw [places_at hi, if_pos rfl] at this
    exact this
  | false =>
    simp only [Bool.false_eq_true, if_false] at ho
    have := flat_at (size := 2) (by decide) (xs := places l false) (i := i) (by rw [places_len]; omega) (by rw [places_at hi, if_neg (by simp)]; unfold fits; rw [if_neg (by omega)]; simp; omega) more
    rw [places_at hi, if_neg (by simp)] at this
    show 2 * fld (flat 2 (places l false) ++ more) (2 * i) 2 = _
    rw [show fld (flat 2 (places l false) ++ more) (2 * i) 2 = ((off l i / 2 : Nat) : Int) from this]
    omega
theorem ext_body {x : Ext} (h : isExt x = true) : ext (body x) = (x, 0) := by
  by_cases ha : x.any = true
  · have hb : body x = [0, 0] ++ bytes x.x0 2 ++ bytes x.y0 2 ++ bytes x.x1 2 ++ bytes x.y1 2 ++ [0, 0] := by unfold body; rw [if_pos ha]
    obtain ⟨⟨a1, a2⟩, ⟨b1, b2⟩, ⟨c1, c2⟩, ⟨d1, d2⟩, _⟩ := isExt_any h ha
    have e1 : fld (body x) 2 (-2) = x.x0 := fld_at [0, 0] (bytes x.y0 2 ++ bytes x.x1 2 ++ bytes x.y1 2 ++ [0, 0]) _ (-2) 2 (by rw [hb]; simp only [List.append_assoc]; rfl) rfl (by decide) (fits2s a1 a2)
    have e2 : fld (body x) 4 (-2) = x.y0 := fld_at ([0, 0] ++ bytes x.x0 2) (bytes x.x1 2 ++ bytes x.y1 2 ++ [0, 0]) _ (-2) 4 (by rw [hb]; simp only [List.append_assoc]; rfl) (by simp [bytes_len]) (by decide) (fits2s b1 b2)
    have e3 : fld (body x) 6 (-2) = x.x1 := fld_at ([0, 0] ++ bytes x.x0 2 ++ bytes x.y0 2) (bytes x.y1 2 ++ [0, 0]) _ (-2) 6 (by rw [hb]; simp only [List.append_assoc]; rfl) (by simp [bytes_len]) (by decide) (fits2s c1 c2)
    have e4 : fld (body x) 8 (-2) = x.y1 := fld_at ([0, 0] ++ bytes x.x0 2 ++ bytes x.y0 2 ++ bytes x.x1 2) [0, 0] _ (-2) 8 (by rw [hb]; simp only [List.append_assoc]; rfl) (by simp [bytes_len]) (by decide) (fits2s d1 d2)
    have hr : read (body x) = x := by
      unfold read
      rw [e1, e2, e3, e4]
      cases x
      simp only at ha
      rw [ha]
    unfold ext
    rw [hr, h, body_len, if_pos ha, if_neg (by omega), if_neg (by omega), if_neg (by simp)]
  · have ha' : x.any = false := by simpa using ha
    rw [isExt_none h ha']
    rfl
theorem step_put {l : List Ext} {long : Bool} (ho : outlines l ≤ if long = true then 65535 else 10922) (hall : l.all isExt = true) (more more2 : List UInt8) {i : Nat} (hi : i < l.length) : step (loca l long ++ more) (bodies l ++ more2) long i = (l.getD i none, 0) := by
  have hst := off_step hi
  have hx : isExt (l.getD i none) = true := List.all_eq_true.1 hall _ (by simp [List.getD, List.getElem?_eq_getElem hi])
  have hb : bodies l = bodies (l.take i) ++ (body (l.getD i none) ++ bodies (l.drop (i + 1))) := by
    conv => lhs; rw [split_at hi]
    rw [bodies_append, bodies]
  have hlen : off l (i + 1) ≤ (bodies l).length := by
    rw [hb, List.length_append, List.length_append, hst]; unfold off; omega
  unfold step
  rw [place_put ho more (i := i) (by omega), place_put ho more (i := i + 1) (by omega), if_neg (by omega), if_neg (by rw [List.length_append]; omega), Int.toNat_natCast, Int.toNat_natCast]
  have hs : ((bodies l ++ more2).drop (off l i)).take (off l (i + 1) - off l i) = body (l.getD i none) := by
    rw [hst, Nat.add_sub_cancel_left, hb]
    simp only [List.append_assoc]
    unfold off
    rw [List.drop_left, List.take_left]
  rw [hs, ext_body hx]
theorem put_ok {l : List Ext} {long : Bool} (h : (put l long).2.2 = 0) : (1 ≤ l.length ∧ l.length ≤ 65535) ∧ l.all isExt = true ∧ (outlines l ≤ if long = true then 65535 else 10922) ∧ (put l long).1 = loca l long ∧ (put l long).2.1 = bodies l := by
  unfold put at *
  by_cases c1 : l.length < 1 ∨ 65535 < l.length ∨ l.all isExt = false
  · rw [if_pos c1] at h; cases h
  · rw [if_neg c1] at h ⊢
    by_cases c2 : long = false ∧ 10922 < outlines l
    · rw [if_pos c2] at h; cases h
    · rw [if_neg c2]
      have := outlines_le l
      refine ⟨by omega, ?_, ?_, rfl, rfl⟩
      · cases e : l.all isExt with
        | true => rfl
        | false => exact absurd (.inr (.inr e)) c1
      · cases long with
        | true => simp only [if_true]; omega
        | false => simp only [Bool.false_eq_true, if_false]; simp at c2; omega
theorem put_refused {l : List Ext} {long : Bool} (h : (put l long).2.2 ≠ 0) : (put l long).1 = [] ∧ (put l long).2.1 = [] := by
  unfold put at *
  by_cases c1 : l.length < 1 ∨ 65535 < l.length ∨ l.all isExt = false
  · rw [if_pos c1]; exact ⟨rfl, rfl⟩
  · rw [if_neg c1] at h ⊢
    by_cases c2 : long = false ∧ 10922 < outlines l
    · rw [if_pos c2]; exact ⟨rfl, rfl⟩
    · rw [if_neg c2] at h; exact absurd rfl h
/-- What is put is got, whatever stands behind. -/
theorem get_put {l : List Ext} {long : Bool} (h : (put l long).2.2 = 0) (more more2 : List UInt8) : get ((put l long).1 ++ more) ((put l long).2.1 ++ more2) l.length long = (l, 0) := by
  obtain ⟨⟨h1, h2⟩, hall, ho, e1, e2⟩ := put_ok h
  rw [e1, e2]
  have hz : scan (fun i => (step (loca l long ++ more) (bodies l ++ more2) long i).2) 0 l.length = 0 :=
    scan_zero _ _ _ fun j _ hj => by rw [step_put ho hall more more2 (by omega)]
  have hlen : (((loca l long ++ more).length : Nat) : Int) ≥ wid long * ((l.length : Nat) + 1 : Int) := by
    rw [List.length_append, loca_len]
    have : ((wid long * (l.length + 1) : Nat) : Int) = (wid long : Int) * ((l.length : Nat) + 1 : Int) := by simp
    omega
  unfold get
  rw [if_neg (by omega), if_neg (by omega), Int.toNat_natCast, hz, if_neg (by simp)]
  congr 1
  apply List.ext_getElem
  · simp
  · intro j h3 h4
    simp only [List.getElem_map, List.getElem_range]
    rw [step_put ho hall more more2 h4]
    simp [List.getD, List.getElem?_eq_getElem h4]
/-- Few extents are put both ways, or neither. -/
theorem put_both {l : List Ext} (h : l.length ≤ 300) : (put l true).2.2 = (put l false).2.2 ∧ ((put l true).2.2 = 0 → (put l true).1.length = 2 * (put l false).1.length ∧ (put l true).2.1 = (put l false).2.1) := by
  have := outlines_le l
  unfold put
  by_cases c1 : l.length < 1 ∨ 65535 < l.length ∨ l.all isExt = false
  · rw [if_pos c1, if_pos c1]; exact ⟨rfl, fun _ => ⟨rfl, rfl⟩⟩
  · rw [if_neg c1, if_neg c1, if_neg (by simp), if_neg (by simp; omega)]
    refine ⟨rfl, fun _ => ⟨?_, rfl⟩⟩
    show (loca l true).length = 2 * (loca l false).length
    rw [loca_len, loca_len]
    show 4 * (l.length + 1) = 2 * (2 * (l.length + 1))
    omega
theorem ext_ok {s : List UInt8} (h : (ext s).2 = 0) : isExt (ext s).1 = true := by
  unfold ext at *
  by_cases c1 : s.length = 0
  · rw [if_pos c1]; rfl
  · rw [if_neg c1] at h ⊢
    by_cases c2 : s.length < 10
    · rw [if_pos c2] at h; cases h
    · rw [if_neg c2] at h ⊢
      by_cases c3 : isExt (read s) = false
      · rw [if_pos c3] at h; cases h
      · rw [if_neg c3]; simpa using c3
theorem step_ok {a b : List UInt8} {long : Bool} {i : Nat} (h : (step a b long i).2 = 0) : isExt (step a b long i).1 = true := by
  unfold step at *
  by_cases c1 : place a (i + 1) long < place a i long
  · rw [if_pos c1] at h; cases h
  · rw [if_neg c1] at h ⊢
    by_cases c2 : (b.length : Int) < place a (i + 1) long
    · rw [if_pos c2] at h; cases h
    · rw [if_neg c2] at h ⊢; exact ext_ok h
theorem get_ok {a b : List UInt8} {glyphs : Int} {long : Bool} (h : (get a b glyphs long).2 = 0) : (1 ≤ glyphs ∧ glyphs ≤ 65535) ∧ wid long * (glyphs + 1) ≤ a.length ∧ (get a b glyphs long).1.length = glyphs.toNat ∧ (get a b glyphs long).1.all isExt = true := by
  unfold get at *
  by_cases c1 : glyphs < 1 ∨ 65535 < glyphs
  · rw [if_pos c1] at h; cases h
  · rw [if_neg c1] at h ⊢
    by_cases c2 : (a.length : Int) < wid long * (glyphs + 1)
    · rw [if_pos c2] at h; cases h
    · rw [if_neg c2] at h ⊢
      by_cases c3 : scan (fun i => (step a b long i).2) 0 glyphs.toNat ≠ 0
      · rw [if_pos c3] at h; exact absurd h c3
      · rw [if_neg c3]
        refine ⟨by omega, by omega, by simp, ?_⟩
        rw [List.all_eq_true]
        intro x hx
        obtain ⟨i, hi, rfl⟩ := List.mem_map.1 hx
        exact step_ok (scan_all _ _ _ (by simpa using c3) i (by omega) (by have := List.mem_range.1 hi; omega))
theorem get_none {a b : List UInt8} {glyphs : Int} {long : Bool} (h : (get a b glyphs long).2 ≠ 0) : (get a b glyphs long).1 = [] := by
  unfold get at *
  by_cases c1 : glyphs < 1 ∨ 65535 < glyphs
  · rw [if_pos c1]
  · rw [if_neg c1] at h ⊢
    by_cases c2 : (a.length : Int) < wid long * (glyphs + 1)
    · rw [if_pos c2]
    · rw [if_neg c2] at h ⊢
      by_cases c3 : scan (fun i => (step a b long i).2) 0 glyphs.toNat ≠ 0
      · rw [if_pos c3]
      · rw [if_neg c3] at h; exact absurd rfl h
/-- What is got from short tables is put, and got again as it was. -/
theorem get_again {a b : List UInt8} {g : Nat} {long : Bool} (hs : a.length ≤ 4000) (h : (get a b g long).2 = 0) : (put (get a b g long).1 long).2.2 = 0 ∧ get (put (get a b g long).1 long).1 (put (get a b g long).1 long).2.1 g long = ((get a b g long).1, 0) := by
  obtain ⟨⟨g1, g2⟩, hw, hlen, hall⟩ := get_ok h
  rw [Int.toNat_natCast] at hlen
  have hol := outlines_le (get a b g long).1
  have hp : (put (get a b g long).1 long).2.2 = 0 := by
    unfold put
    rw [if_neg (by rw [hlen, hall]; simp; omega)]
    rw [if_neg (by
      rintro ⟨rfl, hbig⟩
      have : (wid false : Int) = 2 := rfl
      rw [this] at hw
      omega)]
  refine ⟨hp, ?_⟩
  have := get_put hp [] []
  rw [List.append_nil, List.append_nil, hlen] at this
  exact this
end Gl
