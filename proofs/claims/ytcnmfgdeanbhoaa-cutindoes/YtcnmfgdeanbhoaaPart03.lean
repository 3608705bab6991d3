/-
  Facts that the walks rest on: CuMath, CuPut, CuRep. No conditions beyond those stated.
-/
import Derived.Test.YtcnmfgdeanbhoaaPart02
import Derived.Test.YtcnmfgdeanbhoaaPart01
/-
  Plain functions on bytes (layer 15, cutin), with nothing of the program: stairs and the kerns of glyphs, got and put, and found; facts on them. No conditions beyond those stated.
-/
namespace Cu
open Bn He

/-- Heights and kerns. -/
abbrev Stair := List Int × List Int
abbrev Kern := Int × List Stair
def inc : List Int → Bool
  | [] => true
  | a :: r => (r.isEmpty || decide (a < r.getD 0 0)) && inc r
def isS (x : Stair) : Bool := (x.1.isEmpty && x.2.isEmpty) || (decide (x.1.length ≤ 64) && decide (x.2.length = x.1.length + 1) && (x.1.all fun v => fits v (-2)) && (x.2.all fun v => fits v (-2)) && inc x.1)
def cnt (v : Int) (h : List Int) : Nat := (h.filter fun y => decide (y ≤ v)).length
def ht (x : Stair) (v : Int) : Int := if isS x = true then x.2.getD (cnt v x.1) 0 else 0
theorem inc_cons {a : Int} {r : List Int} (h : inc (a :: r) = true) : inc r = true ∧ (0 < r.length → a < r.getD 0 0) := by
  rw [inc, Bool.and_eq_true] at h
  refine ⟨h.2, fun hr => ?_⟩
  cases r with
  | nil => simp at hr
  | cons b q => simpa using h.1
theorem inc_less : ∀ {h : List Int}, inc h = true → ∀ (j i : Nat), i < j → j < h.length → h.getD i 0 < h.getD j 0
  | [], _, _, _, _, hj => by simp at hj
  | a :: r, hi, 0, i, h1, _ => by omega
  | a :: r, hi, j + 1, 0, _, h2 => by
    obtain ⟨q1, q2⟩ := inc_cons hi
    have hj : j < r.length := by simpa using h2
    have := q2 (by omega)
    rw [List.getD_cons_zero, List.getD_cons_succ]
    by_cases e : j = 0
    · rw [e]; exact this
    · have := inc_less q1 j 0 (by omega) hj
      omega
  | a :: r, hi, j + 1, i + 1, h1, h2 => by
    rw [List.getD_cons_succ, List.getD_cons_succ]
    exact inc_less (inc_cons hi).1 j i (by omega) (by simpa using h2)
/-- By place: as the document says it. -/
theorem inc_at : ∀ {h : List Int}, inc h = true ↔ ∀ i, i + 1 < h.length → h.getD i 0 < h.getD (i + 1) 0
  | [] => by simp [inc]
  | a :: r => by
    constructor
    · intro h i hi
      exact inc_less h (i + 1) i (by omega) hi
    · intro h
      rw [inc, Bool.and_eq_true]
      refine ⟨?_, inc_at.2 fun i hi => ?_⟩
      · cases r with
        | nil => rfl
        | cons b q => simpa using h 0 (by simp)
      · simpa using h (i + 1) (by simpa using hi)
theorem isS_iff (x : Stair) : isS x = true ↔ (x.1 = [] ∧ x.2 = []) ∨ (x.1.length ≤ 64 ∧ x.2.length = x.1.length + 1 ∧ (∀ v ∈ x.1, fits v (-2) = true) ∧ (∀ v ∈ x.2, fits v (-2) = true) ∧ inc x.1 = true) := by
  unfold isS
  simp only [Bool.or_eq_true, Bool.and_eq_true, List.isEmpty_iff, decide_eq_true_eq, List.all_eq_true, and_assoc]
theorem isS_has {x : Stair} (h : isS x = true) (hk : x.2 ≠ []) : x.1.length ≤ 64 ∧ x.2.length = x.1.length + 1 ∧ (∀ v ∈ x.1, fits v (-2) = true) ∧ (∀ v ∈ x.2, fits v (-2) = true) ∧ inc x.1 = true := by
  rcases (isS_iff x).1 h with c | c
  · exact absurd c.2 hk
  · exact c
theorem isS_none {x : Stair} (h : isS x = true) (hk : x.2 = []) : x = ([], []) := by
  obtain ⟨a, b⟩ := x
  rcases (isS_iff _).1 h with c | c
  · exact Prod.ext c.1 c.2
  · rw [hk] at c; simp at c
theorem fits_s {v : Int} : fits v (-2) = true ↔ -32768 ≤ v ∧ v ≤ 32767 := by
  unfold fits
  rw [if_pos (by omega)]
  simp only [Bool.and_eq_true, decide_eq_true_eq]
  simp
  omega
theorem cnt_is : ∀ (h : List Int) (v : Int) (i : Nat), i ≤ h.length → (∀ j, j < i → h.getD j 0 ≤ v) → (∀ j, i ≤ j → j < h.length → v < h.getD j 0) → cnt v h = i
  | [], v, i, hi, _, _ => by simp at hi; subst hi; rfl
  | a :: r, v, 0, _, _, h2 => by
    have ih := cnt_is r v 0 (by omega) (fun j hj => by omega) (fun j _ hj => by simpa using h2 (j + 1) (by omega) (by simpa using hj))
    have ha := h2 0 (by omega) (by simp)
    rw [List.getD_cons_zero] at ha
    unfold cnt at *
    rw [List.filter_cons, if_neg (by simp; omega), ih]
  | a :: r, v, i + 1, hi, h1, h2 => by
    have ih := cnt_is r v i (by simpa using hi) (fun j hj => by simpa using h1 (j + 1) (by omega)) (fun j hij hj => by simpa using h2 (j + 1) (by omega) (by simpa using hj))
    have ha := h1 0 (by omega)
    rw [List.getD_cons_zero] at ha
    unfold cnt at *
    rw [List.filter_cons, if_pos (by simp; omega), List.length_cons, ih]
theorem cnt_le (v : Int) (h : List Int) : cnt v h ≤ h.length := List.length_filter_le _ _
/-- From each height on, up to the next one. -/
theorem cnt_from {h : List Int} (hi : inc h = true) {v : Int} {i : Nat} (hl : i < h.length) (h1 : h.getD i 0 ≤ v) (h2 : i + 1 < h.length → v < h.getD (i + 1) 0) : cnt v h = i + 1 := by
  refine cnt_is h v (i + 1) hl (fun j hj => ?_) (fun j hij hj => ?_)
  · by_cases e : j = i
    · rw [e]; exact h1
    · have := inc_less hi i j (by omega) hl
      omega
  · have := h2 (by omega)
    by_cases e : j = i + 1
    · rw [e]; exact this
    · have := inc_less hi j (i + 1) (by omega) hj
      omega
theorem cnt_under {h : List Int} (hi : inc h = true) {i : Nat} (hl : i < h.length) : cnt (h.getD i 0 - 1) h = i := by
  refine cnt_is h _ i (by omega) (fun j hj => ?_) (fun j hij hj => ?_)
  · have := inc_less hi i j hj hl
    omega
  · by_cases e : j = i
    · rw [e]; omega
    · have := inc_less hi j i (by omega) hj
      omega
theorem getD_all {h : List Int} {p : Int → Prop} (hp : ∀ v ∈ h, p v) {j : Nat} (hj : j < h.length) : p (h.getD j 0) := by
  rw [List.getD_eq_getElem?_getD, List.getElem?_eq_getElem hj]
  exact hp _ (List.getElem_mem hj)
theorem cnt_low {h : List Int} (hf : ∀ v ∈ h, fits v (-2) = true) {v : Int} (hv : v < -32768) : cnt v h = 0 := by
  refine cnt_is h v 0 (by omega) (fun j hj => by omega) (fun j _ hj => ?_)
  have := fits_s.1 (getD_all hf hj)
  omega
theorem cnt_high {h : List Int} (hf : ∀ v ∈ h, fits v (-2) = true) {v : Int} (hv : 32767 ≤ v) : cnt v h = h.length := by
  refine cnt_is h v h.length (by omega) (fun j hj => ?_) (fun j _ hj => by omega)
  have := fits_s.1 (getD_all hf hj)
  omega

/-- What a stair tells: below the first height, from each on, and over the last. -/
theorem ht_flat {x : Stair} (h : isS x = true) (hk : x.2 ≠ []) : x.2.length = x.1.length + 1 ∧ (∀ v, v < -32768 → ht x v = x.2.getD 0 0) ∧ (∀ v, 32767 ≤ v → ht x v = x.2.getD x.1.length 0) ∧
    (∀ i, i < x.1.length → ht x (x.1.getD i 0 - 1) = x.2.getD i 0) ∧ (∀ i v, i < x.1.length → x.1.getD i 0 ≤ v → (i + 1 < x.1.length → v < x.1.getD (i + 1) 0) → ht x v = x.2.getD (i + 1) 0) := by
  obtain ⟨_, hl, hf, _, hi⟩ := isS_has h hk
  unfold ht
  simp only [if_pos h]
  exact ⟨hl, fun v hv => by rw [cnt_low hf hv], fun v hv => by rw [cnt_high hf hv], fun i hl => by rw [cnt_under hi hl], fun i v hl h1 h2 => by rw [cnt_from hi hl h1 h2]⟩
theorem ht_none {x : Stair} (h : isS x = true) (hk : x.2 = []) (v : Int) : ht x v = 0 := by
  unfold ht
  rw [if_pos h, hk]; simp

def glyphs (l : List Kern) : List Int := l.map Prod.fst
def isK (l : List Kern) : Bool := (l.all fun x => decide (x.2.length = 4) && x.2.all isS) && Co.isCov (glyphs l)
theorem isK_iff (l : List Kern) : isK l = true ↔ (∀ x ∈ l, x.2.length = 4 ∧ ∀ y ∈ x.2, isS y = true) ∧ Co.isCov (glyphs l) = true := by
  unfold isK
  simp only [Bool.and_eq_true, List.all_eq_true, decide_eq_true_eq]
def find (l : List Kern) (g corner v : Int) : Int :=
  if isK l = true ∧ 0 ≤ corner ∧ corner ≤ 3 then match l.find? fun x => decide (x.1 = g) with | some x => ht (x.2.getD corner.toNat ([], [])) v | none => 0 else 0
theorem find_at {l : List Kern} (h : isK l = true) {i : Nat} {x : Kern} (hx : l[i]? = some x) (k : Nat) (hk : k < x.2.length) (v : Int) : find l x.1 k v = ht (x.2.getD k ([], [])) v := by
  obtain ⟨ha, hc⟩ := (isK_iff l).1 h
  obtain ⟨hi, he⟩ := List.getElem?_eq_some_iff.1 hx
  have h4 := (ha x (List.mem_of_getElem? hx)).1
  unfold find
  rw [if_pos ⟨h, by omega, by omega⟩]
  cases e : l.find? fun y => decide (y.1 = x.1) with
  | none =>
    exfalso
    have := List.find?_eq_none.1 e x (List.mem_of_getElem? hx)
    simp at this
  | some y =>
    have hy := List.find?_some e
    have hm := List.mem_of_find?_eq_some e
    simp only [decide_eq_true_eq] at hy
    obtain ⟨j, hj, hje⟩ := List.mem_iff_getElem.1 hm
    have gi : (glyphs l).getD i 0 = x.1 := by simp [glyphs, List.getD, List.getElem?_eq_getElem hi, he]
    have gj : (glyphs l).getD j 0 = x.1 := by simp [glyphs, List.getD, List.getElem?_eq_getElem hj, hje, hy]
    have hgl : (glyphs l).length = l.length := by simp [glyphs]
    have : j = i := by
      rcases Nat.lt_trichotomy j i with c | c | c
      · have := Co.cov_less hc i j c (by omega); omega
      · exact c
      · have := Co.cov_less hc j i c (by omega); omega
    subst this
    rw [show y = x by rw [← hje, he]]
    simp
end Cu
/-
  Plain functions on bytes (layer 15, cutin), further: tables of kerns, got and put; facts on them. No conditions beyond those stated.
-/
namespace Cu
open Bn He

/-- Numbers, each with two bytes behind it. -/
def nums : List Int → List UInt8
  | [] => []
  | x :: r => bytes x 2 ++ [0, 0] ++ nums r
def sb (x : Stair) : List UInt8 := if x.2 = [] then [] else bytes x.1.length 2 ++ nums (x.1 ++ x.2)
def sbs : List Stair → List UInt8
  | [] => []
  | x :: r => sb x ++ sbs r
def offs : Nat → List Stair → List Int
  | _, [] => []
  | p, x :: r => (if x.2 = [] then 0 else (p : Int)) :: offs (p + (sb x).length) r
def stairs : List Kern → List Stair
  | [] => []
  | x :: r => x.2 ++ stairs r
def rdS (t : List UInt8) (n : Nat) : Stair := ((List.range n).map fun i => fld t (2 + 4 * i) (-2), (List.range (n + 1)).map fun i => fld t (2 + 4 * (n + i)) (-2))
def gst (t : List UInt8) : Stair × Int :=
  if t.length < 2 then (([], []), 4)
  else if t.length < 6 + 8 * (fld t 0 2).toNat then (([], []), 4)
  else if 64 < (fld t 0 2).toNat then (([], []), 7)
  else if isS (rdS t (fld t 0 2).toNat) = true then (rdS t (fld t 0 2).toNat, 0) else (([], []), 5)
def gone (t : List UInt8) (o : Int) : Stair × Int := if o = 0 then (([], []), 0) else gst (t.drop o.toNat)
def gall (t : List UInt8) : List Int → List Stair × Int
  | [] => ([], 0)
  | o :: r => if (gone t o).2 ≠ 0 then ([], (gone t o).2) else if (gall t r).2 ≠ 0 then ([], (gall t r).2) else ((gone t o).1 :: (gall t r).1, 0)
def four : List Int → List Stair → List Kern
  | [], _ => []
  | g :: r, q => (g, q.take 4) :: four r (q.drop 4)
/-- What stands behind the offsets' check. -/
def rest (t : List UInt8) (c : List Int × Int) : List Kern × Int :=
  if c.2 ≠ 0 then ([], c.2)
  else if (c.1.length : Int) ≠ fld t 2 2 then ([], 5)
  else if (gall t (Co.ones t (4 * c.1.length))).2 ≠ 0 then ([], (gall t (Co.ones t (4 * c.1.length))).2)
  else (four c.1 (gall t (Co.ones t (4 * c.1.length))).1, 0)
def get (s : List UInt8) (pos : Int) : List Kern × Int :=
  if pos < 0 then ([], 1)
  else if (s.length : Int) < pos ∨ (s.length : Int) - pos < 4 then ([], 4)
  else if (s.length : Int) - pos < 4 + 8 * fld (s.drop pos.toNat) 2 2 then ([], 4)
  else rest (s.drop pos.toNat) (Co.get s (pos + fld (s.drop pos.toNat) 0 2))
def base (l : List Kern) : Nat := 4 + 8 * l.length + (Co.put (glyphs l)).1.length
def out (l : List Kern) : List UInt8 := bytes (4 + 8 * l.length : Nat) 2 ++ bytes l.length 2 ++ Co.flat (offs (base l) (stairs l)) ++ (Co.put (glyphs l)).1 ++ sbs (stairs l)
def put (l : List Kern) : List UInt8 × Int :=
  if isK l = false then ([], 1) else if 65535 < 4 + 8 * l.length ∨ (offs (base l) (stairs l)).any (fun o => decide (65535 < o)) = true then ([], 7) else (out l, 0)

theorem nums_len : ∀ l : List Int, (nums l).length = 4 * l.length
  | [] => rfl
  | x :: r => by rw [nums, List.length_append, List.length_append, bytes_len, nums_len r, List.length_cons]; simp; omega
theorem nums_at : ∀ (l : List Int) (a b : List UInt8) (i : Nat), i < l.length → (∀ x ∈ l, fits x (-2) = true) → fld (a ++ nums l ++ b) (a.length + 4 * i) (-2) = l.getD i 0
  | [], _, _, i, hi, _ => by simp at hi
  | x :: r, a, b, 0, _, h => by
    refine fld_at a ([0, 0] ++ (nums r ++ b)) x (-2) _ ?_ (by omega) (by decide) (h x (by simp))
    rw [nums]; simp only [List.append_assoc]; rfl
  | x :: r, a, b, i + 1, hi, h => by
    have := nums_at r (a ++ bytes x 2 ++ [0, 0]) b i (by simpa using hi) (fun y hy => h y (List.mem_cons_of_mem _ hy))
    rw [List.length_append, List.length_append, bytes_len] at this
    rw [show a.length + 4 * (i + 1) = a.length + 2 + [(0 : UInt8), 0].length + 4 * i by simp; omega, nums]
    simp only [List.append_assoc] at this ⊢
    simpa using this
theorem flat_at : ∀ (l : List Int) (a b : List UInt8) (i : Nat), i < l.length → (∀ x ∈ l, 0 ≤ x ∧ x ≤ 65535) → Co.word (a ++ Co.flat l ++ b) (a.length + 2 * i) = l.getD i 0
  | [], _, _, i, hi, _ => by simp at hi
  | x :: r, a, b, 0, _, h => by
    have hx := h x (by simp)
    refine Co.word_at a (Co.flat r ++ b) x _ ?_ (by omega) hx.1 (by omega)
    rw [Co.flat]; simp only [List.append_assoc]
  | x :: r, a, b, i + 1, hi, h => by
    have := flat_at r (a ++ bytes x 2) b i (by simpa using hi) (fun y hy => h y (List.mem_cons_of_mem _ hy))
    rw [List.length_append, bytes_len] at this
    rw [show a.length + 2 * (i + 1) = a.length + 2 + 2 * i by omega, Co.flat]
    simp only [List.append_assoc] at this ⊢
    simpa using this
theorem offs_len : ∀ (q : List Stair) (p : Nat), (offs p q).length = q.length
  | [], _ => rfl
  | x :: r, p => by rw [offs, List.length_cons, offs_len r, List.length_cons]
theorem offs_pos : ∀ (q : List Stair) (p : Nat), ∀ o ∈ offs p q, 0 ≤ o
  | [], _, o, h => by simp [offs] at h
  | x :: r, p, o, h => by
    rw [offs] at h
    rcases List.mem_cons.1 h with rfl | h
    · by_cases c : x.2 = []
      · rw [if_pos c]; omega
      · rw [if_neg c]; omega
    · exact offs_pos r _ o h
theorem gst_sb {x : Stair} (h : isS x = true) (hk : x.2 ≠ []) (back : List UInt8) : gst (sb x ++ back) = (x, 0) := by
  obtain ⟨h1, h2, h3, h4, _⟩ := isS_has h hk
  have e : sb x ++ back = bytes x.1.length 2 ++ nums (x.1 ++ x.2) ++ back := by unfold sb; rw [if_neg hk]
  have hlen : (sb x ++ back).length = 2 + 4 * (x.1.length + x.2.length) + back.length := by rw [e]; simp only [List.length_append, bytes_len, nums_len]
  have w : fld (sb x ++ back) 0 2 = (x.1.length : Int) := Co.word_at [] (nums (x.1 ++ x.2) ++ back) _ 0 (by rw [e]; simp only [List.append_assoc, List.nil_append]) rfl (by omega) (by omega)
  have hall : ∀ v ∈ x.1 ++ x.2, fits v (-2) = true := fun v hv => (List.mem_append.1 hv).elim (h3 v) (h4 v)
  have at' : ∀ i, i < x.1.length + x.2.length → fld (sb x ++ back) (2 + 4 * i) (-2) = (x.1 ++ x.2).getD i 0 := fun i hi => by
    have := nums_at (x.1 ++ x.2) (bytes x.1.length 2) back i (by simpa using hi) hall
    rw [bytes_len] at this
    rw [e, this]
  have r : rdS (sb x ++ back) x.1.length = x := by
    unfold rdS
    refine Prod.ext ?_ ?_
    · apply List.ext_getElem
      · simp
      · intro i g1 g2
        simp only [List.getElem_map, List.getElem_range]
        rw [at' i (by omega), List.getD_eq_getElem?_getD, List.getElem?_append_left g2, List.getElem?_eq_getElem g2]; rfl
    · apply List.ext_getElem
      · simp; omega
      · intro i g1 g2
        simp only [List.getElem_map, List.getElem_range]
        rw [at' (x.1.length + i) (by omega), List.getD_eq_getElem?_getD, List.getElem?_append_right (by omega), Nat.add_sub_cancel_left, List.getElem?_eq_getElem g2]; rfl
  unfold gst
  rw [w, Int.toNat_natCast, if_neg (by omega), if_neg (by omega), if_neg (by omega), r, if_pos h]
theorem gall_offs : ∀ (q : List Stair) (a back : List UInt8), (∀ y ∈ q, isS y = true) → 0 < a.length → gall (a ++ sbs q ++ back) (offs a.length q) = (q, 0)
  | [], _, _, _, _ => rfl
  | x :: r, a, back, h, ha => by
    have hx := h x (by simp)
    have ih := gall_offs r (a ++ sb x) back (fun y hy => h y (List.mem_cons_of_mem _ hy)) (by rw [List.length_append]; omega)
    rw [List.length_append] at ih
    have e : a ++ sbs (x :: r) ++ back = a ++ sb x ++ sbs r ++ back := by rw [sbs]; simp only [List.append_assoc]
    have g : gone (a ++ sb x ++ sbs r ++ back) (if x.2 = [] then 0 else (a.length : Int)) = (x, 0) := by
      unfold gone
      by_cases c : x.2 = []
      · rw [if_pos c, if_pos rfl, isS_none hx c]
      · rw [if_neg c, if_neg (by omega), Int.toNat_natCast, List.append_assoc, List.append_assoc, List.drop_left]
        exact gst_sb hx c _
    rw [e, offs, gall, g, ih]
    simp
theorem stairs_len : ∀ l : List Kern, (∀ x ∈ l, x.2.length = 4) → (stairs l).length = 4 * l.length
  | [], _ => rfl
  | x :: r, h => by
    rw [stairs, List.length_append, h x (by simp), stairs_len r (fun y hy => h y (List.mem_cons_of_mem _ hy)), List.length_cons]; omega
theorem stairs_mem : ∀ (l : List Kern) (y : Stair), y ∈ stairs l → ∃ x ∈ l, y ∈ x.2
  | [], y, h => by simp [stairs] at h
  | x :: r, y, h => by
    rw [stairs] at h
    rcases List.mem_append.1 h with h | h
    · exact ⟨x, by simp, h⟩
    · obtain ⟨z, hz, hy⟩ := stairs_mem r y h
      exact ⟨z, List.mem_cons_of_mem _ hz, hy⟩
theorem four_stairs : ∀ l : List Kern, (∀ x ∈ l, x.2.length = 4) → four (glyphs l) (stairs l) = l
  | [], _ => rfl
  | x :: r, h => by
    have hx := h x (by simp)
    have ih := four_stairs r fun y hy => h y (List.mem_cons_of_mem _ hy)
    show four (x.1 :: glyphs r) (x.2 ++ stairs r) = _
    rw [four, List.take_left' hx, List.drop_left' hx, ih]
theorem four_glyphs : ∀ (g : List Int) (q : List Stair), glyphs (four g q) = g
  | [], _ => rfl
  | x :: r, q => by
    show x :: glyphs (four r (q.drop 4)) = _
    rw [four_glyphs r]
theorem four_mem : ∀ (g : List Int) (q : List Stair), q.length = 4 * g.length → ∀ x ∈ four g q, x.2.length = 4 ∧ ∀ y ∈ x.2, y ∈ q
  | [], q, _, x, hx => by simp [four] at hx
  | a :: r, q, hq, x, hx => by
    rw [List.length_cons] at hq
    rw [four] at hx
    rcases List.mem_cons.1 hx with rfl | hx
    · exact ⟨by simp; omega, fun y hy => List.mem_of_mem_take hy⟩
    · obtain ⟨h1, h2⟩ := four_mem r (q.drop 4) (by rw [List.length_drop]; omega) x hx
      exact ⟨h1, fun y hy => List.mem_of_mem_drop (h2 y hy)⟩
theorem gst_is {t : List UInt8} (h : (gst t).2 = 0) : isS (gst t).1 = true := by
  unfold gst at *
  by_cases c1 : t.length < 2
  · rw [if_pos c1] at h; cases h
  · rw [if_neg c1] at h ⊢
    by_cases c2 : t.length < 6 + 8 * (fld t 0 2).toNat
    · rw [if_pos c2] at h; cases h
    · rw [if_neg c2] at h ⊢
      by_cases c3 : 64 < (fld t 0 2).toNat
      · rw [if_pos c3] at h; cases h
      · rw [if_neg c3] at h ⊢
        by_cases c4 : isS (rdS t (fld t 0 2).toNat) = true
        · rw [if_pos c4]; exact c4
        · rw [if_neg c4] at h; cases h
theorem gone_is {t : List UInt8} {o : Int} (h : (gone t o).2 = 0) : isS (gone t o).1 = true := by
  unfold gone at *
  by_cases c : o = 0
  · rw [if_pos c]; decide
  · rw [if_neg c] at h ⊢; exact gst_is h
theorem gall_is {t : List UInt8} : ∀ {r : List Int}, (gall t r).2 = 0 → (gall t r).1.length = r.length ∧ ∀ y ∈ (gall t r).1, isS y = true
  | [], _ => by simp [gall]
  | o :: r, h => by
    rw [gall] at h ⊢
    by_cases c1 : (gone t o).2 ≠ 0
    · rw [if_pos c1] at h; exact absurd h c1
    · rw [if_neg c1] at h ⊢
      by_cases c2 : (gall t r).2 ≠ 0
      · rw [if_pos c2] at h; exact absurd h c2
      · rw [if_neg c2]
        obtain ⟨h1, h2⟩ := gall_is (r := r) (by simpa using c2)
        refine ⟨by simp [h1], fun y hy => ?_⟩
        rcases List.mem_cons.1 hy with rfl | hy
        · exact gone_is (by simpa using c1)
        · exact h2 y hy
theorem put_ok {l : List Kern} (h : (put l).2 = 0) : isK l = true ∧ 4 + 8 * l.length ≤ 65535 ∧ (∀ o ∈ offs (base l) (stairs l), o ≤ 65535) ∧ (put l).1 = out l := by
  unfold put at *
  by_cases c1 : isK l = false
  · rw [if_pos c1] at h; cases h
  · rw [if_neg c1] at h ⊢
    by_cases c2 : 65535 < 4 + 8 * l.length ∨ (offs (base l) (stairs l)).any (fun o => decide (65535 < o)) = true
    · rw [if_pos c2] at h; cases h
    · rw [if_neg c2]
      refine ⟨by simpa using c1, by omega, fun o ho => ?_, rfl⟩
      rcases Int.lt_or_le 65535 o with q | q
      · exact absurd (Or.inr (List.any_eq_true.2 ⟨o, ho, by simpa using q⟩)) c2
      · exact q
theorem put_no {l : List Kern} (h : (put l).2 ≠ 0) : (put l).1 = [] ∧ ((isK l = false ∧ (put l).2 = 1) ∨ (isK l = true ∧ (put l).2 = 7)) := by
  unfold put at *
  by_cases c1 : isK l = false
  · rw [if_pos c1]; exact ⟨rfl, Or.inl ⟨c1, rfl⟩⟩
  · rw [if_neg c1] at h ⊢
    by_cases c2 : 65535 < 4 + 8 * l.length ∨ (offs (base l) (stairs l)).any (fun o => decide (65535 < o)) = true
    · rw [if_pos c2]; exact ⟨rfl, Or.inr ⟨by simpa using c1, rfl⟩⟩
    · rw [if_neg c2] at h; exact absurd rfl h
/-- What is put is got, wherever it stands. -/
theorem get_put {l : List Kern} (h : (put l).2 = 0) (front back : List UInt8) : get (front ++ (put l).1 ++ back) front.length = (l, 0) := by
  obtain ⟨hp, hl, ho, e⟩ := put_ok h
  obtain ⟨hf, hc⟩ := (isK_iff l).1 hp
  have h4 : ∀ x ∈ l, x.2.length = 4 := fun x hx => (hf x hx).1
  have hS : ∀ y ∈ stairs l, isS y = true := fun y hy => by
    obtain ⟨x, hx, hy⟩ := stairs_mem l y hy
    exact (hf x hx).2 y hy
  rw [e]
  obtain ⟨pc1, _, _, pc4, _⟩ := Co.put_cov hc
  have hgl : (glyphs l).length = l.length := by simp [glyphs]
  have hsl := stairs_len l h4
  have hol := offs_len (stairs l) (base l)
  have hd : (front ++ out l ++ back).drop front.length = out l ++ back := by rw [List.append_assoc, List.drop_left]
  have w0 : fld (out l ++ back) 0 2 = ((4 + 8 * l.length : Nat) : Int) := Co.word_at [] (bytes l.length 2 ++ (Co.flat (offs (base l) (stairs l)) ++ ((Co.put (glyphs l)).1 ++ (sbs (stairs l) ++ back)))) _ 0 (by unfold out; simp only [List.append_assoc, List.nil_append]) rfl (by omega) (by omega)
  have w2 : fld (out l ++ back) 2 2 = (l.length : Int) := Co.word_at (bytes (4 + 8 * l.length : Nat) 2) (Co.flat (offs (base l) (stairs l)) ++ ((Co.put (glyphs l)).1 ++ (sbs (stairs l) ++ back))) _ 2 (by unfold out; simp only [List.append_assoc]) (bytes_len _ _) (by omega) (by omega)
  have hlen : (front ++ out l ++ back).length = front.length + (4 + 8 * l.length + (Co.put (glyphs l)).1.length + (sbs (stairs l)).length) + back.length := by unfold out; simp only [List.length_append, bytes_len, Co.flat_len, hol, hsl]; omega
  have hcov : Co.get (front ++ out l ++ back) ((front.length : Int) + ((4 + 8 * l.length : Nat) : Int)) = (glyphs l, 0) := by
    have := (Co.get_put pc1 (front ++ (bytes (4 + 8 * l.length : Nat) 2 ++ bytes l.length 2 ++ Co.flat (offs (base l) (stairs l)))) (sbs (stairs l) ++ back)).1
    rw [show ((front ++ (bytes (4 + 8 * l.length : Nat) 2 ++ bytes l.length 2 ++ Co.flat (offs (base l) (stairs l)))).length : Int) = (front.length : Int) + ((4 + 8 * l.length : Nat) : Int) by simp only [List.length_append, bytes_len, Co.flat_len, hol, hsl]; omega] at this
    rw [← this]
    unfold out
    simp only [List.append_assoc]
  have hones : Co.ones (out l ++ back) (4 * l.length) = offs (base l) (stairs l) := by
    apply List.ext_getElem
    · simp [Co.ones, hol, hsl]
    · intro i g1 g2
      have := flat_at (offs (base l) (stairs l)) (bytes (4 + 8 * l.length : Nat) 2 ++ bytes l.length 2) ((Co.put (glyphs l)).1 ++ sbs (stairs l) ++ back) i g2 (fun o h => ⟨offs_pos _ _ o h, ho o h⟩)
      rw [List.length_append, bytes_len, bytes_len] at this
      simp only [Co.ones, List.getElem_map, List.getElem_range]
      rw [show out l ++ back = bytes (4 + 8 * l.length : Nat) 2 ++ bytes l.length 2 ++ Co.flat (offs (base l) (stairs l)) ++ ((Co.put (glyphs l)).1 ++ sbs (stairs l) ++ back) by unfold out; simp only [List.append_assoc], show 4 + 2 * i = 2 + 2 + 2 * i by omega, this]
      rw [List.getD_eq_getElem?_getD, List.getElem?_eq_getElem g2]; rfl
  have hall : gall (out l ++ back) (offs (base l) (stairs l)) = (stairs l, 0) := by
    have := gall_offs (stairs l) (bytes (4 + 8 * l.length : Nat) 2 ++ bytes l.length 2 ++ Co.flat (offs (base l) (stairs l)) ++ (Co.put (glyphs l)).1) back hS (by simp only [List.length_append, bytes_len]; omega)
    rw [show (bytes (4 + 8 * l.length : Nat) 2 ++ bytes l.length 2 ++ Co.flat (offs (base l) (stairs l)) ++ (Co.put (glyphs l)).1).length = base l by unfold base; simp only [List.length_append, bytes_len, Co.flat_len, offs_len, hsl]; omega] at this
    exact this
  unfold get
  rw [if_neg (by omega), if_neg (by rw [hlen]; omega), Int.toNat_natCast, hd, w0, w2, if_neg (by rw [hlen]; omega), hcov]
  unfold rest
  rw [w2, if_neg (by simp), if_neg (by simp [hgl])]
  dsimp only
  rw [hgl, hones, hall, if_neg (by simp), four_stairs l h4]
theorem rest_none {t : List UInt8} {c : List Int × Int} (h : (rest t c).2 ≠ 0) : (rest t c).1 = [] := by
  unfold rest at *
  by_cases c1 : c.2 ≠ 0
  · rw [if_pos c1]
  · rw [if_neg c1] at h ⊢
    by_cases c2 : (c.1.length : Int) ≠ fld t 2 2
    · rw [if_pos c2]
    · rw [if_neg c2] at h ⊢
      by_cases c3 : (gall t (Co.ones t (4 * c.1.length))).2 ≠ 0
      · rw [if_pos c3]
      · rw [if_neg c3] at h; exact absurd rfl h
theorem get_none {s : List UInt8} {pos : Int} (h : (get s pos).2 ≠ 0) : (get s pos).1 = [] := by
  unfold get at *
  by_cases c1 : pos < 0
  · rw [if_pos c1]
  · rw [if_neg c1] at h ⊢
    by_cases c2 : (s.length : Int) < pos ∨ (s.length : Int) - pos < 4
    · rw [if_pos c2]
    · rw [if_neg c2] at h ⊢
      by_cases c3 : (s.length : Int) - pos < 4 + 8 * fld (s.drop pos.toNat) 2 2
      · rw [if_pos c3]
      · rw [if_neg c3] at h ⊢; exact rest_none h
theorem rest_is {t : List UInt8} {c : List Int × Int} (hc : c.2 = 0 → Co.isCov c.1 = true) (h : (rest t c).2 = 0) : isK (rest t c).1 = true := by
  unfold rest at *
  by_cases c1 : c.2 ≠ 0
  · rw [if_pos c1] at h; exact absurd h c1
  · rw [if_neg c1] at h ⊢
    by_cases c2 : (c.1.length : Int) ≠ fld t 2 2
    · rw [if_pos c2] at h; cases h
    · rw [if_neg c2] at h ⊢
      by_cases c3 : (gall t (Co.ones t (4 * c.1.length))).2 ≠ 0
      · rw [if_pos c3] at h; exact absurd h c3
      · rw [if_neg c3]
        obtain ⟨g1, g2⟩ := gall_is (t := t) (r := Co.ones t (4 * c.1.length)) (by simpa using c3)
        rw [isK_iff, four_glyphs]
        refine ⟨fun x hx => ?_, hc (by simpa using c1)⟩
        obtain ⟨m1, m2⟩ := four_mem _ _ (by rw [g1]; simp [Co.ones]) x hx
        exact ⟨m1, fun y hy => g2 y (m2 y hy)⟩
/-- What is got is right. -/
theorem get_is {s : List UInt8} {pos : Int} (h : (get s pos).2 = 0) : isK (get s pos).1 = true := by
  unfold get at *
  by_cases c1 : pos < 0
  · rw [if_pos c1] at h; cases h
  · rw [if_neg c1] at h ⊢
    by_cases c2 : (s.length : Int) < pos ∨ (s.length : Int) - pos < 4
    · rw [if_pos c2] at h; cases h
    · rw [if_neg c2] at h ⊢
      by_cases c3 : (s.length : Int) - pos < 4 + 8 * fld (s.drop pos.toNat) 2 2
      · rw [if_pos c3] at h; cases h
      · rw [if_neg c3] at h ⊢
        exact rest_is (fun e => (Co.get_again e).1) h
end Cu
/-
  Stairs and kerns in memory (layer 15, cutin): a stair's two rows, a kern's row of stairs. No conditions beyond those stated.
-/
namespace Go.Proofs.Ytcnmfgdeanbhoaa
open Go.RowKit

/-- A stair's cells. -/
def RS (w : World) (cs : List Value) (x : Cu.Stair) : Prop := ∃ u v, cs = [u, v] ∧ Row w u x.1 ∧ Row w v x.2
theorem agr_row {w w' : World} {v : Value} {l : List Int} (h : Row w v l) (a : Agr No w w') : Row w' v l := h.ind_no w' a
theorem rs_stays : Stays RS := by
  rintro w w' cs x a ⟨u, v, rfl, h1, h2⟩
  exact ⟨u, v, rfl, agr_row h1 a, agr_row h2 a⟩
abbrev SRowC (w : World) (v : Value) (l : List Cu.Stair) : Prop := RowR RS 2 w v l
/-- A kern's cells. -/
def RK (w : World) (cs : List Value) (x : Cu.Kern) : Prop := ∃ u, cs = [.int .i64 x.1, u] ∧ SRowC w u x.2
theorem rk_stays : Stays RK := by
  rintro w w' cs x a ⟨u, rfl, h⟩
  exact ⟨u, rfl, RowR.stays rs_stays h a⟩
abbrev KRowC (w : World) (v : Value) (l : List Cu.Kern) : Prop := RowR RK 2 w v l
theorem SRowC.lo {w w' : World} {v : Value} {l : List Cu.Stair} (h : SRowC w v l) (k : Lo w w') : SRowC w' v l := RowR.lo rs_stays h k
theorem KRowC.lo {w w' : World} {v : Value} {l : List Cu.Kern} (h : KRowC w v l) (k : Lo w w') : KRowC w' v l := RowR.lo rk_stays h k
theorem SRowC.at2 {w : World} {p : Option Addr} {n c : Nat} {l : List Cu.Stair} (h : SRowC w (.slice p n c) l) {i : Nat} {x : Cu.Stair} (hx : l[i]? = some x) :
    ∃ b off u v, p = some ⟨b, off, none⟩ ∧ w.cell? ⟨b, off + i * 2, none⟩ = some u ∧ w.cell? ⟨b, off + i * 2 + 1, none⟩ = some v ∧ Row w u x.1 ∧ Row w v x.2 := by
  obtain ⟨b, off, cs, h1, _, _, ⟨u, v, rfl, r1, r2⟩, hc⟩ := h.at_ hx
  exact ⟨b, off, u, v, h1, hc 0 (by omega), hc 1 (by omega), r1, r2⟩
theorem KRowC.at2 {w : World} {p : Option Addr} {n c : Nat} {l : List Cu.Kern} (h : KRowC w (.slice p n c) l) {i : Nat} {x : Cu.Kern} (hx : l[i]? = some x) :
    ∃ b off u, p = some ⟨b, off, none⟩ ∧ w.cell? ⟨b, off + i * 2, none⟩ = some (.int .i64 x.1) ∧ w.cell? ⟨b, off + i * 2 + 1, none⟩ = some u ∧ SRowC w u x.2 := by
  obtain ⟨b, off, cs, h1, _, _, ⟨u, rfl, r⟩, hc⟩ := h.at_ hx
  exact ⟨b, off, u, h1, hc 0 (by omega), hc 1 (by omega), r⟩
theorem stair_info : (Try.prog.info? 35).map (fun i => (i.zero, i.size, i.bytes)) = some (some (.agg #[.slice none 0 0, .slice none 0 0]), 2, 48) := by kernel_rfl
theorem kern_info : (Try.prog.info? 42).map (fun i => (i.zero, i.size, i.bytes)) = some (some (.agg #[.int .i64 0, .slice none 0 0]), 2, 32) := by kernel_rfl
end Go.Proofs.Ytcnmfgdeanbhoaa
namespace Cu
open Bn He
def zS : Stair := ([], [])
def zK : Kern := (0, [])
theorem getS_some {l : List Stair} {i : Nat} (h : i < l.length) : l[i]? = some (l.getD i zS) := by simp [List.getD, h]
theorem getK_some {l : List Kern} {i : Nat} (h : i < l.length) : l[i]? = some (l.getD i zK) := by simp [List.getD, h]
theorem getK_mem {l : List Kern} {i : Nat} (h : i < l.length) : l.getD i zK ∈ l := List.mem_of_getElem? (getK_some h)
theorem getS_mem {l : List Stair} {i : Nat} (h : i < l.length) : l.getD i zS ∈ l := List.mem_of_getElem? (getS_some h)
theorem getI_mem {l : List Int} {i : Nat} (h : i < l.length) : l.getD i 0 ∈ l := by
  simp only [List.getD, List.getElem?_eq_getElem h, Option.getD_some]; exact List.getElem_mem h
theorem takeK_snoc {l : List Kern} {k : Nat} (h : k < l.length) : l.take (k + 1) = l.take k ++ [l.getD k zK] := by
  rw [List.take_add_one, getK_some h]; rfl
theorem takeS_snoc {l : List Stair} {k : Nat} (h : k < l.length) : l.take (k + 1) = l.take k ++ [l.getD k zS] := by
  rw [List.take_add_one, getS_some h]; rfl
theorem takeI_snoc {l : List Int} {k : Nat} (h : k < l.length) : l.take (k + 1) = l.take k ++ [l.getD k 0] := by
  rw [List.take_add_one]; simp [List.getD, h]
theorem glyphs_len (l : List Kern) : (glyphs l).length = l.length := by simp [glyphs]
theorem glyphs_snoc {l : List Kern} {k : Nat} (h : k < l.length) : glyphs (l.take (k + 1)) = glyphs (l.take k) ++ [(l.getD k zK).1] := by
  rw [takeK_snoc h]; simp [glyphs]
theorem fits_in {v : Int} : fits v (-2) = (decide (-32768 ≤ v) && decide (v ≤ 32767)) := by
  rw [Bool.eq_iff_iff, fits_s]; simp
/-- Are all numbers such as two bytes hold? -/
def allS (l : List Int) : Bool := l.all fun v => fits v (-2)
theorem allS_bad {l : List Int} {k : Nat} (h : k < l.length) (hf : fits (l.getD k 0) (-2) = false) : allS l = false := by
  rw [Bool.eq_false_iff]
  intro hc
  have := (List.all_eq_true.1 hc) _ (getI_mem h)
  rw [hf] at this; cases this
theorem allS_all {l : List Int} (h : ∀ i, i < l.length → fits (l.getD i 0) (-2) = true) : allS l = true := by
  unfold allS
  rw [List.all_eq_true]
  intro x hx
  obtain ⟨i, hi, rfl⟩ := List.mem_iff_getElem.1 hx
  have := h i hi
  simpa [List.getD, List.getElem?_eq_getElem hi] using this
theorem inc_bad {l : List Int} {k : Nat} (h : k + 1 < l.length) (hf : l.getD (k + 1) 0 ≤ l.getD k 0) : inc l = false := by
  rw [Bool.eq_false_iff]
  intro hc
  have := inc_at.1 hc k h
  omega
/-- What the program asks of a stair. -/
theorem isS_none2 {x : Stair} (h1 : x.1.length = 0) (h2 : x.2.length = 0) : isS x = true := by
  rw [isS_iff]; exact .inl ⟨List.length_eq_zero_iff.1 h1, List.length_eq_zero_iff.1 h2⟩
theorem isS_long {x : Stair} (h : 64 < x.1.length) : isS x = false := by
  rw [Bool.eq_false_iff, ne_eq, isS_iff]
  rintro (⟨h1, _⟩ | ⟨h1, _⟩)
  · rw [h1] at h; simp at h
  · omega
theorem isS_other {x : Stair} (h0 : ¬ (x.1.length = 0 ∧ x.2.length = 0)) (h : x.2.length ≠ x.1.length + 1) : isS x = false := by
  rw [Bool.eq_false_iff, ne_eq, isS_iff]
  rintro (⟨h1, h2⟩ | ⟨_, h1, _⟩)
  · apply h0; rw [h1, h2]; exact ⟨rfl, rfl⟩
  · exact h h1
theorem isS_all {x : Stair} (h1 : x.1.length ≤ 64) (h : x.2.length = x.1.length + 1) : isS x = ((allS x.1 && allS x.2) && inc x.1) := by
  unfold isS allS
  rw [decide_eq_true h1, decide_eq_true h]
  have : x.2.isEmpty = false := by
    cases e : x.2 with
    | nil => rw [e] at h; simp at h
    | cons a r => rfl
  rw [this]; simp [Bool.and_assoc]
end Cu
