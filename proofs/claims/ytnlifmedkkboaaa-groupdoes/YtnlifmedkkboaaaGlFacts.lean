/-
  Plain facts (layer 7, glyf), further: rows of one size, the steps by offsets, what is laid; heights as the program tells them. No conditions beyond those stated.
-/
import Derived.Test.YtnlifmedkkboaaaGlHigh
namespace Gl
open Bn He Sf

theorem rep_many (size : Int) : ∀ n, many (List.replicate n size) = size.natAbs * n
  | 0 => by simp [many]
  | n + 1 => by rw [List.replicate_succ, many_cons, rep_many size n, Nat.mul_succ]; omega
theorem rep_sizes {size : Int} (h : isSize size = true) (n : Nat) : allSizes (List.replicate n size) = true := by
  unfold allSizes
  rw [List.all_eq_true]
  intro x hx
  rw [(List.mem_replicate.1 hx).2]; exact h
theorem rep_fields (size : Int) (s : List UInt8) : ∀ n, fields s (List.replicate n size) = (List.range n).map fun i => fld s (size.natAbs * i) size
  | 0 => rfl
  | n + 1 => by
    rw [List.replicate_succ', fields_append, rep_fields size s n, rep_many, List.range_succ, List.map_append]
    rfl

/-- Of how many bytes an offset counts. -/
def unit (long : Bool) : Int := if long = true then 1 else 2
def offs (s : List UInt8) (n : Nat) (long : Bool) : List Int := (List.range n).map fun i => fld s (wid long * i) ((wid long : Nat) : Int)
theorem offs_len (s : List UInt8) (n : Nat) (long : Bool) : (offs s n long).length = n := by simp [offs]
theorem offs_at {s : List UInt8} {n : Nat} {long : Bool} {i : Nat} (h : i < n) : (offs s n long).getD i 0 = fld s (wid long * i) ((wid long : Nat) : Int) := by
  simp [offs, List.getD, h]
theorem get_loca (s : List UInt8) (n : Nat) (long : Bool) : Bn.get s 0 (List.replicate n ((wid long : Nat) : Int)) = if s.length < wid long * n then ([], 4) else (offs s n long, 0) := by
  unfold Bn.get
  rw [rep_sizes (wid_size long), rep_many, rep_fields, wid_abs, if_neg (by simp)]
  by_cases h : s.length < wid long * n
  · rw [if_pos (by omega), if_pos h]
  · rw [if_neg (by omega), if_neg h]; rfl
theorem place_fld (s : List UInt8) (i : Nat) (long : Bool) : place s i long = fld s (wid long * i) ((wid long : Nat) : Int) * unit long := by
  cases long with
  | true => show fld s (4 * i) 4 = fld s (4 * i) 4 * 1; omega
  | false => show 2 * fld s (2 * i) 2 = fld s (2 * i) 2 * 2; omega
theorem fld_bd (s : List UInt8) (pos : Nat) (long : Bool) : 0 ≤ fld s pos ((wid long : Nat) : Int) ∧ fld s pos ((wid long : Nat) : Int) ≤ 4294967295 := by
  unfold fld one
  rw [if_neg (by omega), wid_abs]
  have h1 := be_lt ((s.drop pos).take (wid long))
  have h2 : ((s.drop pos).take (wid long)).length ≤ 4 := by
    rw [List.length_take]
    cases long
    · show min 2 _ ≤ 4; omega
    · show min 4 _ ≤ 4; omega
  have h3 := Nat.pow_le_pow_right (show 0 < 256 by omega) h2
  omega

/-- One glyph, by its offset and the next one. -/
def stepO (g : List UInt8) (a b : Int) : Ext × Int :=
  if b < a then (none, 5) else if (g.length : Int) < b then (none, 4) else ext ((g.drop a.toNat).take (b.toNat - a.toNat))
def fO (g : List UInt8) (os : List Int) (u : Int) (i : Nat) : Ext × Int := stepO g (os.getD i 0 * u) (os.getD (i + 1) 0 * u)
def gets (g : List UInt8) (os : List Int) (u : Int) (n : Nat) : List Ext × Int :=
  if scan (fun i => (fO g os u i).2) 0 n ≠ 0 then ([], scan (fun i => (fO g os u i).2) 0 n) else ((List.range n).map fun i => (fO g os u i).1, 0)
theorem scan_same (f h : Nat → Int) : ∀ (m k : Nat), (∀ j, k ≤ j → j < k + m → f j = h j) → scan f k m = scan h k m
  | 0, _, _ => rfl
  | m + 1, k, e => by rw [scan, scan, e k (Nat.le_refl _) (by omega), scan_same f h m (k + 1) fun j h1 h2 => e j (by omega) (by omega)]
theorem step_fO (s g : List UInt8) (n : Nat) (long : Bool) {i : Nat} (h : i < n) : step s g long i = fO g (offs s (n + 1) long) (unit long) i := by
  unfold fO
  rw [offs_at (by omega), offs_at (by omega), ← place_fld, ← place_fld]
  rfl
/-- Get, by layer 3's. -/
theorem get_by (s g : List UInt8) (n : Nat) (long : Bool) (h1 : 1 ≤ n) (h2 : n ≤ 65535) (h3 : wid long * (n + 1) ≤ s.length) : get s g n long = gets g (offs s (n + 1) long) (unit long) n := by
  have h4 : ((wid long * (n + 1) : Nat) : Int) = (wid long : Int) * ((n : Int) + 1) := by simp
  unfold get gets
  rw [if_neg (by omega), if_neg (by omega), Int.toNat_natCast]
  have e : scan (fun i => (step s g long i).2) 0 n = scan (fun i => (fO g (offs s (n + 1) long) (unit long) i).2) 0 n := scan_same _ _ _ _ fun j _ hj => by rw [step_fO s g n long (by omega)]
  rw [e]
  have e2 : ((List.range n).map fun i => (step s g long i).1) = ((List.range n).map fun i => (fO g (offs s (n + 1) long) (unit long) i).1) := List.map_congr_left fun i hi => by rw [step_fO s g n long (List.mem_range.1 hi)]
  rw [e2]
theorem get_few (s g : List UInt8) (n : Nat) (long : Bool) (h1 : 1 ≤ n) (h2 : n ≤ 65535) (h3 : s.length < wid long * (n + 1)) : get s g n long = ([], 4) := by
  have h4 : ((wid long * (n + 1) : Nat) : Int) = (wid long : Int) * ((n : Int) + 1) := by simp
  unfold get
  rw [if_neg (by omega), if_pos (by omega)]
theorem get_arg (s g : List UInt8) {n : Int} (long : Bool) (h : n < 1 ∨ 65535 < n) : get s g n long = ([], 1) := by unfold get; rw [if_pos h]
/-- The scan behind k steps that are right. -/
theorem gets_wrong {g : List UInt8} {os : List Int} {u : Int} {n k : Nat} (hk : k < n) (h : ∀ i, i < k → (fO g os u i).2 = 0) (hw : (fO g os u k).2 ≠ 0) : gets g os u n = ([], (fO g os u k).2) := by
  have e := scan_first (fun i => (fO g os u i).2) n 0 k (by omega) (by omega) (fun i _ hi => h i hi) hw
  unfold gets
  rw [e, if_pos hw]
theorem gets_right {g : List UInt8} {os : List Int} {u : Int} {n : Nat} (h : ∀ i, i < n → (fO g os u i).2 = 0) : gets g os u n = ((List.range n).map fun i => (fO g os u i).1, 0) := by
  have e := scan_zero (fun i => (fO g os u i).2) n 0 (fun i _ hi => h i (by omega))
  unfold gets
  rw [e, if_neg (by simp)]
theorem gets_bd (g : List UInt8) (os : List Int) (u : Int) (n : Nat) : (gets g os u n).1.length ≤ n := by
  unfold gets
  split
  · simp
  · simp
theorem ext_two (s : List UInt8) : Bn.get s 2 [-2, -2, -2, -2] = if s.length < 10 then ([], 4) else ([fld s 2 (-2), fld s 4 (-2), fld s 6 (-2), fld s 8 (-2)], 0) := by
  unfold Bn.get
  rw [show allSizes [-2, -2, -2, -2] = true by decide, show many [-2, -2, -2, -2] = 8 by decide, if_neg (by simp)]
  by_cases h : s.length < 10
  · rw [if_pos (by omega), if_pos h]
  · rw [if_neg (by omega), if_neg h]
    simp [fields, fld, List.drop_drop]
theorem ext_more {s : List UInt8} (h0 : s.length ≠ 0) (h : s.length < 10) : ext s = (none, 4) := by unfold ext; rw [if_neg h0, if_pos h]
theorem ext_form {s : List UInt8} (h : 10 ≤ s.length) (hx : isExt (read s) = false) : ext s = (none, 5) := by unfold ext; rw [if_neg (by omega), if_neg (by omega), if_pos hx]
theorem ext_right {s : List UInt8} (h : 10 ≤ s.length) (hx : isExt (read s) = true) : ext s = (read s, 0) := by unfold ext; rw [if_neg (by omega), if_neg (by omega), if_neg (by rw [hx]; simp)]

/-- The fields of outlines. -/
def vals1 (x : Ext) : List Int := if x.any = true then [0, x.x0, x.y0, x.x1, x.y1, 0] else []
def vals : List Ext → List Int
  | [] => []
  | x :: r => vals1 x ++ vals r
theorem vals_append : ∀ a b : List Ext, vals (a ++ b) = vals a ++ vals b
  | [], b => rfl
  | x :: r, b => by rw [List.cons_append, vals, vals, vals_append r b, List.append_assoc]
theorem vals_snoc (l : List Ext) (x : Ext) : vals (l ++ [x]) = vals l ++ vals1 x := by rw [vals_append, vals, vals, List.append_nil]
theorem flat_vals : ∀ l : List Ext, flat (-2) (vals l) = bodies l
  | [] => rfl
  | x :: r => by
    rw [vals, bodies, flat_append, flat_vals r]
    congr 1
    unfold vals1 body
    by_cases h : x.any = true
    · rw [if_pos h, if_pos h]
      simp only [flat, List.append_nil]
      rw [show bytes 0 (-2 : Int).natAbs = [0, 0] by decide]
      simp only [List.append_assoc]
      rfl
    · rw [if_neg h, if_neg h]; rfl
theorem vals_len (l : List Ext) : 2 * (vals l).length = (bodies l).length := by rw [← flat_vals, flat_len]; rfl
theorem vals_many (l : List Ext) : (vals l).length = 6 * outlines l := by
  have h1 := vals_len l
  have h2 := bodies_len l
  omega
def ends (l : List Ext) (u : Nat) (n : Nat) : List Int := (List.range (n + 1)).map fun i => ((2 * (vals (l.take i)).length / u : Nat) : Int)
theorem ends_len (l : List Ext) (u n : Nat) : (ends l u n).length = n + 1 := by simp [ends]
theorem ends_zero (l : List Ext) (u : Nat) : ends l u 0 = [0] := by simp [ends, vals]
theorem ends_succ (l : List Ext) (u n : Nat) : ends l u (n + 1) = ends l u n ++ [((2 * (vals (l.take (n + 1))).length / u : Nat) : Int)] := by
  unfold ends
  rw [List.range_succ, List.map_append]; rfl
def unitN (long : Bool) : Nat := if long = true then 1 else 2
theorem unit_nat (long : Bool) : unit long = ((unitN long : Nat) : Int) := by cases long <;> rfl
theorem ends_places (l : List Ext) (long : Bool) : ends l (unitN long) l.length = places l long := by
  unfold ends places
  refine List.map_congr_left fun i _ => ?_
  have h := vals_len (l.take i)
  unfold off
  cases long with
  | true => rw [if_pos rfl, ← h]; simp [unitN]
  | false => rw [if_neg (by simp), ← h]; rfl
theorem join_rep (size : Int) : ∀ xs : List Int, join (List.replicate xs.length size) xs = flat size xs
  | [] => rfl
  | x :: r => by rw [List.length_cons, List.replicate_succ, join, join_rep size r, flat]
theorem allFit_rep (size : Int) : ∀ xs : List Int, allFit (List.replicate xs.length size) xs = xs.all fun v => fits v size
  | [] => rfl
  | x :: r => by rw [List.length_cons, List.replicate_succ, allFit, allFit_rep size r, List.all_cons]
theorem put_rep {size : Int} (hz : isSize size = true) {xs : List Int} (h : ∀ v ∈ xs, fits v size = true) : Bn.put (List.replicate xs.length size) xs = (flat size xs, 0) := by
  unfold Bn.put
  rw [rep_sizes hz, allFit_rep, join_rep, if_neg (by simp), if_neg (by rw [List.all_eq_true.2 h]; simp)]
theorem put_loca {l : List Ext} {long : Bool} (ho : outlines l ≤ if long = true then 65535 else 10922) : Bn.put (List.replicate (l.length + 1) ((wid long : Nat) : Int)) (places l long) = (loca l long, 0) := by
  have := put_rep (wid_size long) (xs := places l long) (by
    intro v hv
    unfold places at hv
    obtain ⟨i, _, rfl⟩ := List.mem_map.1 hv
    have hle := off_le l i
    cases long with
    | true => simp only [if_true] at *; unfold fits wid; simp; omega
    | false => simp only [Bool.false_eq_true, if_false] at *; unfold fits wid; simp; omega)
  rwa [places_len] at this
theorem vals_fit : ∀ {l : List Ext}, l.all isExt = true → ∀ v ∈ vals l, fits v (-2) = true
  | [], _, v, hv => by simp [vals] at hv
  | x :: r, h, v, hv => by
    rw [List.all_cons, Bool.and_eq_true] at h
    rw [vals, List.mem_append] at hv
    rcases hv with hv | hv
    · unfold vals1 at hv
      by_cases ha : x.any = true
      · rw [if_pos ha] at hv
        have hb := isExt_any h.1 ha
        simp only [List.mem_cons, List.not_mem_nil, or_false] at hv
        rcases hv with rfl | rfl | rfl | rfl | rfl | rfl <;> exact fits2s (by omega) (by omega)
      · rw [if_neg ha] at hv; simp at hv
    · exact vals_fit h.2 v hv
theorem put_bodies {l : List Ext} (h : l.all isExt = true) : Bn.put (List.replicate (vals l).length (-2)) (vals l) = (bodies l, 0) := by
  rw [put_rep (by decide) (vals_fit h), flat_vals]
theorem put_arg {l : List Ext} (long : Bool) (h : l.length < 1 ∨ 65535 < l.length ∨ l.all isExt = false) : put l long = ([], [], 1) := by unfold put; rw [if_pos h]
theorem put_long {l : List Ext} (h1 : 1 ≤ l.length) (h2 : l.length ≤ 65535) (h : l.all isExt = true) (ho : 10922 < outlines l) : put l false = ([], [], 7) := by
  unfold put; rw [if_neg (by rintro (c | c | c); omega; omega; rw [h] at c; cases c), if_pos ⟨rfl, ho⟩]
theorem put_right {l : List Ext} {long : Bool} (h1 : 1 ≤ l.length) (h2 : l.length ≤ 65535) (h : l.all isExt = true) (ho : outlines l ≤ if long = true then 65535 else 10922) : put l long = (loca l long, bodies l, 0) := by
  unfold put; rw [if_neg (by rintro (c | c | c); omega; omega; rw [h] at c; cases c), if_neg (by rintro ⟨rfl, hb⟩; simp at ho; omega)]
theorem take_snocE {l : List Ext} {k : Nat} (h : k < l.length) : l.take (k + 1) = l.take k ++ [l.getD k none] := by
  rw [List.take_succ_eq_append_getElem h]
  simp [List.getD, List.getElem?_eq_getElem h]
theorem getD_some {l : List Ext} {k : Nat} (h : k < l.length) : l[k]? = some (l.getD k none) := by
  simp [List.getD, List.getElem?_eq_getElem h]
theorem all_upto {l : List Ext} {k : Nat} (h : k < l.length) : (l.take (k + 1)).all isExt = ((l.take k).all isExt && isExt (l.getD k none)) := by
  rw [take_snocE h, List.all_append]; simp
theorem all_no {l : List Ext} {k : Nat} (h : k < l.length) (hx : isExt (l.getD k none) = false) : l.all isExt = false := by
  rw [List.all_eq_false]
  refine ⟨l.getD k none, ?_, by rw [hx]; simp⟩
  rw [show l.getD k none = l[k] by simp [List.getD, List.getElem?_eq_getElem h]]; exact List.getElem_mem _
theorem outlines_snoc {l : List Ext} {k : Nat} (h : k < l.length) : outlines (l.take (k + 1)) = outlines (l.take k) + if (l.getD k none).any = true then 1 else 0 := by
  rw [take_snocE h]
  unfold outlines
  rw [List.filter_append, List.length_append]
  congr 1
  by_cases ha : (l.getD k none).any = true
  · rw [if_pos ha, List.filter_cons_of_pos ha]; rfl
  · rw [if_neg ha, List.filter_cons_of_neg ha]; rfl

/-- Height, depth, error: 0 and 0 without an outline. -/
def highP (h : He.Head) (l : List Ext) (g : Int) : Int × Int × Int :=
  if isHead h = false then (0, 0, 1)
  else if g < 0 ∨ h.glyphs ≤ g ∨ (0 < l.length ∧ (l.length : Int) ≤ g) then (0, 0, 10)
  else if l.length = 0 then (h.asc, 0 - h.desc, 0)
  else if (l.getD g.toNat none).any = false then (0, 0, 0)
  else ((l.getD g.toNat none).y1, 0 - (l.getD g.toNat none).y0, 0)
theorem highP_eq {h : He.Head} {l : List Ext} {g : Int} (hall : l.all isExt = true) : highP h l g = high h l g := by
  unfold highP high
  by_cases c1 : isHead h = false
  · rw [if_pos c1, if_pos c1]
  · rw [if_neg c1, if_neg c1]
    by_cases c2 : g < 0 ∨ h.glyphs ≤ g ∨ (0 < l.length ∧ (l.length : Int) ≤ g)
    · rw [if_pos c2, if_pos c2]
    · rw [if_neg c2, if_neg c2]
      by_cases c3 : l.length = 0
      · rw [if_pos c3, if_pos c3]
      · rw [if_neg c3, if_neg c3]
        have hlt : g.toNat < l.length := by omega
        have hm : l.getD g.toNat none ∈ l := by simp [List.getD, List.getElem?_eq_getElem hlt]
        have hx := List.all_eq_true.1 hall _ hm
        generalize l.getD g.toNat none = x at *
        by_cases c4 : x.any = false
        · rw [if_pos c4, isExt_none hx c4]; rfl
        · rw [if_neg c4]
end Gl
