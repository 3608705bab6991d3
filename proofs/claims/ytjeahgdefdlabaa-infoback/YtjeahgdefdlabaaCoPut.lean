/-
  Plain functions on bytes (layer 12, cover), further: tables of glyphs, got and put; facts on them. No conditions beyond those stated.
-/
import Derived.Test.YtjeahgdefdlabaaCoMath
namespace Co
open Bn He

def word (s : List UInt8) (p : Nat) : Int := fld s p 2
/-- Ranges as they are read: first, last, how many before. -/
def rd (t : List UInt8) (n : Nat) : List (Int × Int × Int) := (List.range n).map fun i => (word t (4 + 6 * i), word t (4 + 6 * i + 2), word t (4 + 6 * i + 4))
def ones (t : List UInt8) (n : Nat) : List Int := (List.range n).map fun i => word t (4 + 2 * i)
def join2 : List (Int × Int × Int) → List Int → Option (List Int)
  | [], out => some out
  | (a, b, f) :: r, out => if b < a ∨ f ≠ (out.length : Int) then none else join2 r (out ++ rng a b)
def told (o : List Int) : List Int × Int := if isCov o = true then (o, 0) else ([], 5)
def wid (t : List UInt8) : Nat := if word t 0 = 2 then 6 else 2
def got (t : List UInt8) : List Int × Int :=
  if word t 0 ≠ 1 ∧ word t 0 ≠ 2 then ([], 5)
  else if t.length < 4 + wid t * (word t 2).toNat then ([], 4)
  else if word t 0 = 1 then told (ones t (word t 2).toNat)
  else match join2 (rd t (word t 2).toNat) [] with | none => ([], 5) | some o => told o
def get (s : List UInt8) (pos : Int) : List Int × Int :=
  if pos < 0 then ([], 1)
  else if (s.length : Int) < pos ∨ (s.length : Int) - pos < 4 then ([], 4)
  else got (s.drop pos.toNat)
def flat : List Int → List UInt8
  | [] => []
  | x :: r => bytes x 2 ++ flat r
def recs : Nat → List (Int × Int) → List UInt8
  | _, [] => []
  | k, (a, b) :: q => bytes a 2 ++ bytes b 2 ++ bytes k 2 ++ recs (k + (b - a + 1).toNat) q
def one (l : List Int) : List UInt8 := bytes 1 2 ++ bytes l.length 2 ++ flat l
def two (l : List Int) : List UInt8 := bytes 2 2 ++ bytes (runs l).length 2 ++ recs 0 (runs l)
def put (l : List Int) : List UInt8 × Int :=
  if isCov l = false then ([], 1) else if 6 * (runs l).length < 2 * l.length then (two l, 0) else (one l, 0)
def find (l : List Int) (g : Int) : Nat × Bool := if isCov l = true ∧ g ∈ l then (l.idxOf g, true) else (0, false)

theorem flat_len : ∀ l : List Int, (flat l).length = 2 * l.length
  | [] => rfl
  | x :: r => by rw [flat, List.length_append, bytes_len, flat_len r, List.length_cons]; omega
theorem recs_len : ∀ (q : List (Int × Int)) (k : Nat), (recs k q).length = 6 * q.length
  | [], _ => rfl
  | (a, b) :: q, k => by rw [recs, List.length_append, List.length_append, List.length_append, bytes_len, bytes_len, bytes_len, recs_len q, List.length_cons]; omega
theorem fits2 {x : Int} (h0 : 0 ≤ x) (h1 : x < 65536) : fits x 2 = true := by
  unfold fits
  rw [if_neg (by omega)]
  simp only [Bool.and_eq_true, decide_eq_true_eq]
  exact ⟨h0, by simpa using h1⟩
theorem word_at {s : List UInt8} (a b : List UInt8) (v : Int) (pos : Nat) (hs : s = a ++ bytes v 2 ++ b) (hp : a.length = pos) (h0 : 0 ≤ v) (h1 : v < 65536) : word s pos = v :=
  fld_at a b v 2 pos hs hp (by decide) (fits2 h0 h1)
theorem flat_at : ∀ (l : List Int) (a b : List UInt8) (i : Nat), i < l.length → (∀ x ∈ l, 0 ≤ x ∧ x ≤ 65534) → word (a ++ flat l ++ b) (a.length + 2 * i) = l.getD i 0
  | [], _, _, i, hi, _ => by simp at hi
  | x :: r, a, b, 0, _, h => by
    have hx := h x (by simp)
    refine word_at a (flat r ++ b) x _ ?_ (by omega) hx.1 (by omega)
    rw [flat]; simp only [List.append_assoc]
  | x :: r, a, b, i + 1, hi, h => by
    have := flat_at r (a ++ bytes x 2) b i (by simpa using hi) (fun y hy => h y (List.mem_cons_of_mem _ hy))
    rw [List.length_append, bytes_len] at this
    rw [show a.length + 2 * (i + 1) = a.length + 2 + 2 * i by omega, flat]
    simp only [List.append_assoc] at this ⊢
    simpa using this
/-- How many glyphs are in the ranges before. -/
def before : List (Int × Int) → Nat → Nat
  | _, 0 => 0
  | [], _ + 1 => 0
  | (a, b) :: q, i + 1 => (b - a + 1).toNat + before q i
theorem recs_at : ∀ (q : List (Int × Int)) (k : Nat) (a b : List UInt8) (i : Nat), i < q.length → (∀ p ∈ q, (0 ≤ p.1 ∧ p.1 ≤ 65534) ∧ (0 ≤ p.2 ∧ p.2 ≤ 65534)) → k + before q i < 65536 →
    word (a ++ recs k q ++ b) (a.length + 6 * i) = (q.getD i (0, 0)).1 ∧ word (a ++ recs k q ++ b) (a.length + 6 * i + 2) = (q.getD i (0, 0)).2 ∧ word (a ++ recs k q ++ b) (a.length + 6 * i + 4) = ((k + before q i : Nat) : Int)
  | [], _, _, _, i, hi, _, _ => by simp at hi
  | (x, y) :: r, k, a, b, 0, _, h, hk => by
    have hx := h (x, y) (by simp)
    dsimp only at hx
    rw [before, Nat.add_zero] at hk
    refine ⟨?_, ?_, ?_⟩
    · exact word_at a (bytes y 2 ++ (bytes k 2 ++ (recs (k + (y - x + 1).toNat) r ++ b))) x _ (by rw [recs]; simp only [List.append_assoc]) (by omega) hx.1.1 (by omega)
    · exact word_at (a ++ bytes x 2) (bytes k 2 ++ (recs (k + (y - x + 1).toNat) r ++ b)) y _ (by rw [recs]; simp only [List.append_assoc]) (by rw [List.length_append, bytes_len]) hx.2.1 (by omega)
    · rw [before, Nat.add_zero]
      exact word_at (a ++ bytes x 2 ++ bytes y 2) (recs (k + (y - x + 1).toNat) r ++ b) k _ (by rw [recs]; simp only [List.append_assoc]) (by rw [List.length_append, List.length_append, bytes_len, bytes_len]) (by omega) (by omega)
  | (x, y) :: r, k, a, b, i + 1, hi, h, hk => by
    rw [before] at hk ⊢
    have := recs_at r (k + (y - x + 1).toNat) (a ++ bytes x 2 ++ bytes y 2 ++ bytes k 2) b i (by simpa using hi) (fun p hp => h p (List.mem_cons_of_mem _ hp)) (by omega)
    rw [List.length_append, List.length_append, List.length_append, bytes_len, bytes_len, bytes_len] at this
    rw [show a.length + 6 * (i + 1) = a.length + 2 + 2 + 2 + 6 * i by omega, recs]
    simp only [List.append_assoc] at this ⊢
    rw [show k + ((y - x + 1).toNat + before r i) = k + (y - x + 1).toNat + before r i by omega]
    simpa using this
theorem expand_len : ∀ (q : List (Int × Int)) (i : Nat), i ≤ q.length → before q i ≤ (expand q).length ∧ before q i = (expand (q.take i)).length
  | q, 0, _ => by cases q <;> simp [before, expand]
  | [], i + 1, h => by simp at h
  | (a, b) :: q, i + 1, h => by
    have := expand_len q i (by simpa using h)
    rw [before, expand, List.length_append, rng_len, List.take_succ_cons, expand, List.length_append, rng_len]
    omega
/-- Ranges that are told right are joined. -/
theorem join2_ok : ∀ (q : List (Int × Int)) (k : Nat) (out : List Int), out.length = k → (∀ p ∈ q, p.1 ≤ p.2) → join2 ((List.range q.length).map fun i => ((q.getD i (0, 0)).1, (q.getD i (0, 0)).2, ((k + before q i : Nat) : Int))) out = some (out ++ expand q)
  | [], k, out, _, _ => by simp [join2, expand]
  | (a, b) :: q, k, out, hk, h => by
    have hab := h (a, b) (by simp)
    dsimp only at hab
    rw [List.length_cons, List.range_succ_eq_map, List.map_cons, List.map_map]
    have e : (List.range q.length).map ((fun i => ((((a, b) :: q).getD i (0, 0)).1, (((a, b) :: q).getD i (0, 0)).2, ((k + before ((a, b) :: q) i : Nat) : Int))) ∘ Nat.succ) = (List.range q.length).map fun i => ((q.getD i (0, 0)).1, (q.getD i (0, 0)).2, (((k + (b - a + 1).toNat) + before q i : Nat) : Int)) := by
      refine List.map_congr_left fun i _ => ?_
      simp only [Function.comp, Nat.succ_eq_add_one, List.getD_cons_succ, before]
      rw [Nat.add_assoc]
    rw [e]
    show join2 ((a, b, ((k + before ((a, b) :: q) 0 : Nat) : Int)) :: _) out = _
    rw [join2, if_neg (by rw [before]; omega)]
    rw [join2_ok q (k + (b - a + 1).toNat) (out ++ rng a b) (by rw [List.length_append, rng_len, hk]) (fun p hp => h p (List.mem_cons_of_mem _ hp))]
    rw [expand, List.append_assoc]

theorem runs_len : ∀ l : List Int, (runs l).length ≤ l.length
  | [] => by simp [runs]
  | x :: r => by
    have h1 := runs_len r
    have h2 := more_len x (runs r)
    rw [runs, List.length_cons]; omega
theorem told_cov {l : List Int} (h : isCov l = true) : told l = (l, 0) := by unfold told; rw [if_pos h]
theorem got_one {l : List Int} (h : isCov l = true) (back : List UInt8) : got (one l ++ back) = (l, 0) := by
  have hl := cov_len h
  have hm := cov_mem h
  have w0 : word (one l ++ back) 0 = 1 := word_at [] (bytes l.length 2 ++ (flat l ++ back)) 1 0 (by unfold one; simp only [List.append_assoc, List.nil_append]) rfl (by omega) (by omega)
  have w2 : word (one l ++ back) 2 = (l.length : Int) := word_at (bytes 1 2) (flat l ++ back) l.length 2 (by unfold one; simp only [List.append_assoc]) (bytes_len _ _) (by omega) (by omega)
  have hlen : (one l ++ back).length = 4 + 2 * l.length + back.length := by unfold one; simp only [List.length_append, bytes_len, flat_len]
  have e : ones (one l ++ back) l.length = l := by
    apply List.ext_getElem
    · simp [ones]
    · intro j h1 h2
      have := flat_at l (bytes 1 2 ++ bytes l.length 2) back j h2 hm
      rw [List.length_append, bytes_len, bytes_len] at this
      simp only [ones, List.getElem_map, List.getElem_range]
      rw [show one l ++ back = bytes 1 2 ++ bytes l.length 2 ++ flat l ++ back from rfl, show 4 + 2 * j = 2 + 2 + 2 * j by omega, this]
      simp [List.getD, List.getElem?_eq_getElem h2]
  unfold got wid
  rw [w0, w2, if_neg (by omega), if_neg (by rw [hlen, Int.toNat_natCast, if_neg (by omega)]; omega), if_pos rfl, Int.toNat_natCast, e, told_cov h]
theorem got_two {l : List Int} (h : isCov l = true) (back : List UInt8) : got (two l ++ back) = (l, 0) := by
  have hl := cov_len h
  have hm := cov_mem h
  have hr := runs_len l
  have w0 : word (two l ++ back) 0 = 2 := word_at [] (bytes (runs l).length 2 ++ (recs 0 (runs l) ++ back)) 2 0 (by unfold two; simp only [List.append_assoc, List.nil_append]) rfl (by omega) (by omega)
  have w2 : word (two l ++ back) 2 = ((runs l).length : Int) := word_at (bytes 2 2) (recs 0 (runs l) ++ back) (runs l).length 2 (by unfold two; simp only [List.append_assoc]) (bytes_len _ _) (by omega) (by omega)
  have hlen : (two l ++ back).length = 4 + 6 * (runs l).length + back.length := by unfold two; simp only [List.length_append, bytes_len, recs_len]
  have hex := expand_runs l
  have e : rd (two l ++ back) (runs l).length = (List.range (runs l).length).map fun i => (((runs l).getD i (0, 0)).1, ((runs l).getD i (0, 0)).2, ((0 + before (runs l) i : Nat) : Int)) := by
    refine List.map_congr_left fun i hi => ?_
    have hi' := List.mem_range.1 hi
    have hb := (expand_len (runs l) i (by omega)).2
    have hlt : before (runs l) i < 65536 := by
      have := (expand_len (runs l) i (by omega)).1
      rw [hex] at this
      omega
    have := recs_at (runs l) 0 (bytes 2 2 ++ bytes (runs l).length 2) back i hi' (fun p hp => by
      obtain ⟨_, m1, m2⟩ := runs_ok l p hp
      exact ⟨hm _ m1, hm _ m2⟩) (by omega)
    rw [List.length_append, bytes_len, bytes_len] at this
    rw [show two l ++ back = bytes 2 2 ++ bytes (runs l).length 2 ++ recs 0 (runs l) ++ back from rfl, show 4 + 6 * i = 2 + 2 + 6 * i by omega, this.1, this.2.1, this.2.2]
  unfold got wid
  rw [w0, w2, if_neg (by omega), if_neg (by rw [hlen, Int.toNat_natCast, if_pos rfl]; omega), if_neg (by omega), Int.toNat_natCast, e, join2_ok (runs l) 0 [] rfl (fun p hp => (runs_ok l p hp).1)]
  rw [List.nil_append, hex]
  exact told_cov h
theorem put_ok {l : List Int} (h : (put l).2 = 0) : isCov l = true := by
  unfold put at h
  cases e : isCov l with
  | true => rfl
  | false => rw [if_pos e] at h; cases h
theorem put_no {l : List Int} (h : (put l).2 ≠ 0) : isCov l = false ∧ put l = ([], 1) := by
  cases e : isCov l with
  | false => exact ⟨rfl, by unfold put; rw [if_pos e]⟩
  | true =>
    exfalso
    apply h
    unfold put
    rw [if_neg (by rw [e]; simp)]
    by_cases c : 6 * (runs l).length < 2 * l.length
    · rw [if_pos c]
    · rw [if_neg c]
theorem put_cov {l : List Int} (h : isCov l = true) : (put l).2 = 0 ∧ (put l).1.length ≤ 4 + 2 * l.length ∧ (put l).1.length ≤ 4 + 6 * (runs l).length ∧ 4 ≤ (put l).1.length ∧ ∀ back, got ((put l).1 ++ back) = (l, 0) := by
  unfold put
  rw [if_neg (by rw [h]; simp)]
  by_cases c : 6 * (runs l).length < 2 * l.length
  · rw [if_pos c]
    have e : (two l).length = 4 + 6 * (runs l).length := by unfold two; simp only [List.length_append, bytes_len, recs_len]
    exact ⟨rfl, by dsimp only; omega, by dsimp only; omega, by dsimp only; omega, fun back => got_two h back⟩
  · rw [if_neg c]
    have e : (one l).length = 4 + 2 * l.length := by unfold one; simp only [List.length_append, bytes_len, flat_len]
    exact ⟨rfl, by dsimp only; omega, by dsimp only; omega, by dsimp only; omega, fun back => got_one h back⟩
/-- What is put is got, wherever it stands. -/
theorem get_put {l : List Int} (h : (put l).2 = 0) (front back : List UInt8) : get (front ++ (put l).1 ++ back) front.length = (l, 0) ∧ (put l).1.length ≤ 4 + 2 * l.length := by
  obtain ⟨_, h2, _, h4, h5⟩ := put_cov (put_ok h)
  refine ⟨?_, h2⟩
  unfold get
  rw [if_neg (by omega), if_neg (by simp only [List.length_append]; omega), Int.toNat_natCast, List.append_assoc, List.drop_left]
  exact h5 back
theorem join2_some : ∀ (r : List (Int × Int × Int)) (out o : List Int), join2 r out = some o → o = out ++ expand (r.map fun x => (x.1, x.2.1)) ∧ ∀ x ∈ r, x.1 ≤ x.2.1
  | [], out, o, h => by
    rw [join2] at h
    cases h
    simp [expand]
  | (a, b, f) :: r, out, o, h => by
    rw [join2] at h
    by_cases c : b < a ∨ f ≠ (out.length : Int)
    · rw [if_pos c] at h; cases h
    · rw [if_neg c] at h
      obtain ⟨h1, h2⟩ := join2_some r _ o h
      refine ⟨by rw [h1, List.map_cons, expand, List.append_assoc], fun x hx => ?_⟩
      rcases List.mem_cons.1 hx with rfl | hx
      · dsimp only; omega
      · exact h2 x hx
theorem told_ok {o l : List Int} (h : told o = (l, 0)) : o = l ∧ isCov l = true := by
  unfold told at h
  by_cases c : isCov o = true
  · rw [if_pos c] at h
    simp only [Prod.mk.injEq, and_true] at h
    exact ⟨h, by rw [← h]; exact c⟩
  · rw [if_neg c] at h; simp at h
/-- What is got is right, and put in no more bytes. -/
theorem got_ok {t : List UInt8} {l : List Int} (h : got t = (l, 0)) : isCov l = true ∧ (put l).1.length ≤ t.length := by
  unfold got at h
  by_cases c1 : word t 0 ≠ 1 ∧ word t 0 ≠ 2
  · rw [if_pos c1] at h; simp at h
  · rw [if_neg c1] at h
    by_cases c2 : t.length < 4 + wid t * (word t 2).toNat
    · rw [if_pos c2] at h; simp at h
    · rw [if_neg c2] at h
      by_cases c3 : word t 0 = 1
      · rw [if_pos c3] at h
        obtain ⟨e, hc⟩ := told_ok h
        have := (put_cov hc).2.1
        have hl : l.length = (word t 2).toNat := by rw [← e]; simp [ones]
        have hw : wid t = 2 := by unfold wid; rw [if_neg (by omega)]
        rw [hw] at c2
        exact ⟨hc, by omega⟩
      · rw [if_neg c3] at h
        cases e : join2 (rd t (word t 2).toNat) [] with
        | none => rw [e] at h; simp at h
        | some o =>
          rw [e] at h
          obtain ⟨rfl, hc⟩ := told_ok h
          obtain ⟨e1, e2⟩ := join2_some _ _ _ e
          have hr := runs_expand ((rd t (word t 2).toNat).map fun x => (x.1, x.2.1)) (fun p hp => by
            obtain ⟨x, hx, rfl⟩ := List.mem_map.1 hp
            exact e2 x hx)
          rw [List.nil_append] at e1
          rw [← e1, List.length_map] at hr
          have hn : (rd t (word t 2).toNat).length = (word t 2).toNat := by simp [rd]
          have := (put_cov hc).2.2.1
          have hw : wid t = 6 := by unfold wid; rw [if_pos (by omega)]
          rw [hw] at c2
          exact ⟨hc, by omega⟩
theorem get_ok {s : List UInt8} {pos : Int} (h : (get s pos).2 = 0) : 0 ≤ pos ∧ pos + 4 ≤ s.length ∧ got (s.drop pos.toNat) = ((get s pos).1, 0) := by
  unfold get at *
  by_cases c1 : pos < 0
  · rw [if_pos c1] at h; cases h
  · rw [if_neg c1] at h ⊢
    by_cases c2 : (s.length : Int) < pos ∨ (s.length : Int) - pos < 4
    · rw [if_pos c2] at h; cases h
    · rw [if_neg c2] at h ⊢
      refine ⟨by omega, by omega, ?_⟩
      rw [← h]
theorem get_again {s : List UInt8} {pos : Int} (h : (get s pos).2 = 0) : isCov (get s pos).1 = true ∧ (put (get s pos).1).2 = 0 ∧ get (put (get s pos).1).1 0 = ((get s pos).1, 0) ∧ ((put (get s pos).1).1.length : Int) ≤ s.length - pos := by
  obtain ⟨h0, h1, h2⟩ := get_ok h
  obtain ⟨hc, hl⟩ := got_ok h2
  have hp := (put_cov hc).1
  have := (get_put hp [] []).1
  rw [List.nil_append, List.append_nil] at this
  exact ⟨hc, hp, this, by rw [List.length_drop] at hl; omega⟩
theorem got_none {t : List UInt8} (h : (got t).2 ≠ 0) : (got t).1 = [] := by
  unfold got told at *
  by_cases c1 : word t 0 ≠ 1 ∧ word t 0 ≠ 2
  · rw [if_pos c1]
  · rw [if_neg c1] at h ⊢
    by_cases c2 : t.length < 4 + wid t * (word t 2).toNat
    · rw [if_pos c2]
    · rw [if_neg c2] at h ⊢
      by_cases c3 : word t 0 = 1
      · rw [if_pos c3] at h ⊢
        by_cases c4 : isCov (ones t (word t 2).toNat) = true
        · rw [if_pos c4] at h; exact absurd rfl h
        · rw [if_neg c4]
      · rw [if_neg c3] at h ⊢
        cases e : join2 (rd t (word t 2).toNat) [] with
        | none => rfl
        | some o =>
          rw [e] at h
          dsimp only at h ⊢
          by_cases c4 : isCov o = true
          · rw [if_pos c4] at h; exact absurd rfl h
          · rw [if_neg c4]
theorem get_none {s : List UInt8} {pos : Int} (h : (get s pos).2 ≠ 0) : (get s pos).1 = [] := by
  unfold get at *
  by_cases c1 : pos < 0
  · rw [if_pos c1]
  · rw [if_neg c1] at h ⊢
    by_cases c2 : (s.length : Int) < pos ∨ (s.length : Int) - pos < 4
    · rw [if_pos c2]
    · rw [if_neg c2] at h ⊢; exact got_none h
/-- Each glyph is found at its place. -/
theorem find_at {l : List Int} (h : isCov l = true) {i : Nat} (hi : i < l.length) : find l (l.getD i 0) = (i, true) := by
  have hm : l.getD i 0 = l[i] := by simp [List.getD, List.getElem?_eq_getElem hi]
  have hmem : l.getD i 0 ∈ l := by rw [hm]; exact List.getElem_mem hi
  unfold find
  rw [if_pos ⟨h, hmem⟩]
  have hj := List.idxOf_lt_length_of_mem hmem
  have he : l.getD (l.idxOf (l.getD i 0)) 0 = l.getD i 0 := by
    have := List.getElem_idxOf hj
    rw [List.getD, List.getElem?_eq_getElem hj]
    exact this
  rcases Nat.lt_trichotomy (l.idxOf (l.getD i 0)) i with c | c | c
  · have := cov_less h i _ c hi; omega
  · rw [c]
  · have := cov_less h _ i c hj; omega
theorem find_no {l : List Int} {g : Int} (h : isCov l = false ∨ g ∉ l) : find l g = (0, false) := by
  unfold find
  rw [if_neg ?_]
  rintro ⟨a, b⟩
  rcases h with h | h
  · rw [h] at a; cases a
  · exact h b
end Co
