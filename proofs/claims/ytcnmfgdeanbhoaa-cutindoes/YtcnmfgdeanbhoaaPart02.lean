/-
  Facts that the walks rest on: CoMath, CoPut, InMath. No conditions beyond those stated.
-/
import Derived.Test.YtcnmfgdeanbhoaaPlain
/-
  Plain functions on bytes (layer 12, cover), with nothing of the program: glyphs that are covered, got and put, and found; facts on them. No conditions beyond those stated.
-/
namespace Co
open Bn He

/-- Each is greater than the one before, and none is over 65534. -/
def asc : Int → List Int → Bool
  | _, [] => true
  | lo, x :: r => decide (lo < x) && decide (x ≤ 65534) && asc x r
def isCov (l : List Int) : Bool := asc (-1) l
theorem asc_cons {lo x : Int} {r : List Int} (h : asc lo (x :: r) = true) : lo < x ∧ x ≤ 65534 ∧ asc x r = true := by
  rw [asc] at h
  simp only [Bool.and_eq_true, decide_eq_true_eq] at h
  exact ⟨h.1.1, h.1.2, h.2⟩
theorem asc_mem : ∀ {l : List Int} {lo : Int}, asc lo l = true → ∀ x ∈ l, lo < x ∧ x ≤ 65534
  | [], _, _, x, hx => by simp at hx
  | y :: r, lo, h, x, hx => by
    obtain ⟨h1, h2, h3⟩ := asc_cons h
    rcases List.mem_cons.1 hx with rfl | hx
    · exact ⟨h1, h2⟩
    · have := asc_mem h3 x hx
      omega
theorem asc_len : ∀ {l : List Int} {lo : Int}, asc lo l = true → -1 ≤ lo → lo ≤ 65534 → (l.length : Int) ≤ 65534 - lo
  | [], lo, _, _, h => by simp; omega
  | x :: r, lo, h, h0, _ => by
    obtain ⟨h1, h2, h3⟩ := asc_cons h
    have := asc_len h3 (by omega) h2
    rw [List.length_cons]; omega
theorem cov_len {l : List Int} (h : isCov l = true) : l.length ≤ 65535 := by
  have := asc_len h (by omega) (by omega)
  omega
theorem cov_mem {l : List Int} (h : isCov l = true) : ∀ x ∈ l, 0 ≤ x ∧ x ≤ 65534 := fun x hx => by
  have := asc_mem h x hx
  omega
/-- By place: as the document says it. -/
theorem asc_at : ∀ {l : List Int} {lo : Int}, asc lo l = true ↔ ∀ i, i < l.length → l.getD i 0 ≤ 65534 ∧ (i = 0 → lo < l.getD i 0) ∧ (0 < i → l.getD (i - 1) 0 < l.getD i 0)
  | [], lo => by simp [asc]
  | x :: r, lo => by
    constructor
    · intro h
      obtain ⟨h1, h2, h3⟩ := asc_cons h
      intro i hi
      cases i with
      | zero => exact ⟨h2, fun _ => h1, by omega⟩
      | succ j =>
        have hj : j < r.length := by simpa using hi
        obtain ⟨q1, q2, q3⟩ := (asc_at.1 h3) j hj
        refine ⟨by simpa using q1, by omega, fun _ => ?_⟩
        cases j with
        | zero => simpa using q2 rfl
        | succ k => simpa using q3 (by omega)
    · intro h
      rw [asc]
      simp only [Bool.and_eq_true, decide_eq_true_eq]
      have h0 := h 0 (by simp)
      refine ⟨⟨by simpa using h0.2.1 rfl, by simpa using h0.1⟩, asc_at.2 fun j hj => ?_⟩
      have q := h (j + 1) (by simpa using hj)
      refine ⟨by simpa using q.1, fun e => ?_, fun e => ?_⟩
      · subst e; simpa using q.2.2 (by omega)
      · obtain ⟨k, rfl⟩ : ∃ k, j = k + 1 := ⟨j - 1, by omega⟩
        simpa using q.2.2 (by omega)
theorem cov_less {l : List Int} (h : isCov l = true) : ∀ (j i : Nat), i < j → j < l.length → l.getD i 0 < l.getD j 0
  | 0, i, h1, _ => by omega
  | j + 1, i, h1, h2 => by
    have q := ((asc_at.1 h) (j + 1) h2).2.2 (by omega)
    rw [Nat.add_sub_cancel] at q
    by_cases e : i = j
    · rw [e]; exact q
    · have := cov_less h j i (by omega) (by omega)
      omega

/-- The glyphs from a to b. -/
def rng (a b : Int) : List Int := (List.range (b - a + 1).toNat).map fun i => a + (i : Nat)
theorem rng_len (a b : Int) : (rng a b).length = (b - a + 1).toNat := by simp [rng]
theorem rng_one (a : Int) : rng a a = [a] := by simp [rng]
theorem rng_cons {a b : Int} (h : a ≤ b) : rng a b = a :: rng (a + 1) b := by
  unfold rng
  rw [show (b - a + 1).toNat = (b - (a + 1) + 1).toNat + 1 by omega, List.range_succ_eq_map, List.map_cons, List.map_map]
  simp only [List.cons.injEq]
  refine ⟨by simp, List.map_congr_left fun i _ => ?_⟩
  simp; omega
theorem rng_nil {a b : Int} (h : b < a) : rng a b = [] := by simp [rng, show (b - a + 1).toNat = 0 by omega]
theorem rng_snoc {a b : Int} (h : a ≤ b + 1) : rng a (b + 1) = rng a b ++ [b + 1] := by
  unfold rng
  rw [show (b + 1 - a + 1).toNat = (b - a + 1).toNat + 1 by omega, List.range_succ, List.map_append]
  simp; omega

def expand : List (Int × Int) → List Int
  | [] => []
  | (a, b) :: q => rng a b ++ expand q
/-- Runs that are as long as can be. -/
def more (x : Int) : List (Int × Int) → List (Int × Int)
  | [] => [(x, x)]
  | (a, b) :: q => if a = x + 1 then (x, b) :: q else (x, x) :: (a, b) :: q
def runs : List Int → List (Int × Int)
  | [] => []
  | x :: r => more x (runs r)
theorem runs_ok : ∀ l : List Int, ∀ p ∈ runs l, p.1 ≤ p.2 ∧ p.1 ∈ l ∧ p.2 ∈ l
  | [], p, h => by simp [runs] at h
  | x :: r, p, h => by
    have ih := runs_ok r
    rw [runs] at h
    cases e : runs r with
    | nil =>
      rw [e, more] at h
      simp at h; subst h; simp
    | cons q s =>
      obtain ⟨a, b⟩ := q
      rw [e] at ih
      rw [e, more] at h
      have ha := ih (a, b) (by simp)
      dsimp only at ha
      by_cases hc : a = x + 1
      · rw [if_pos hc] at h
        rcases List.mem_cons.1 h with rfl | h
        · exact ⟨by dsimp only; omega, by simp, List.mem_cons_of_mem _ ha.2.2⟩
        · have := ih p (List.mem_cons_of_mem _ h)
          exact ⟨this.1, List.mem_cons_of_mem _ this.2.1, List.mem_cons_of_mem _ this.2.2⟩
      · rw [if_neg hc] at h
        rcases List.mem_cons.1 h with rfl | h
        · simp
        · have := ih p h
          exact ⟨this.1, List.mem_cons_of_mem _ this.2.1, List.mem_cons_of_mem _ this.2.2⟩
theorem expand_more (x : Int) (q : List (Int × Int)) (h : ∀ p ∈ q, p.1 ≤ p.2) : expand (more x q) = x :: expand q := by
  cases q with
  | nil => simp [more, expand, rng_one]
  | cons p s =>
    obtain ⟨a, b⟩ := p
    have hab := h (a, b) (by simp)
    dsimp only at hab
    rw [more]
    by_cases hc : a = x + 1
    · rw [if_pos hc, expand, expand, rng_cons (show x ≤ b by omega), hc]; rfl
    · rw [if_neg hc, expand, rng_one]; rfl
theorem expand_runs : ∀ l : List Int, expand (runs l) = l
  | [] => rfl
  | x :: r => by rw [runs, expand_more x _ (fun p hp => (runs_ok r p hp).1), expand_runs r]
theorem more_len (x : Int) (q : List (Int × Int)) : (more x q).length ≤ q.length + 1 := by
  cases q with
  | nil => simp [more]
  | cons p s =>
    obtain ⟨a, b⟩ := p
    rw [more]
    by_cases hc : a = x + 1
    · rw [if_pos hc]; simp
    · rw [if_neg hc]; simp
/-- A run ahead of others is one more at most. -/
theorem runs_rng (t : List Int) : ∀ (n : Nat) (a b : Int), (b - a + 1).toNat = n → 1 ≤ n → (runs (rng a b ++ t)).length ≤ (runs t).length + 1
  | 0, _, _, _, h => by omega
  | 1, a, b, h, _ => by
    obtain rfl : a = b := by omega
    rw [rng_one]
    exact more_len a (runs t)
  | n + 2, a, b, h, _ => by
    have ih := runs_rng t (n + 1) (a + 1) b (by omega) (by omega)
    rw [rng_cons (show a ≤ b by omega), List.cons_append, runs]
    rw [rng_cons (show a + 1 ≤ b by omega), List.cons_append] at ih ⊢
    cases e : runs ((a + 1) :: (rng (a + 1 + 1) b ++ t)) with
    | nil =>
      rw [runs] at e
      generalize runs (rng (a + 1 + 1) b ++ t) = q at e
      cases q with
      | nil => simp [more] at e
      | cons p s =>
        obtain ⟨c, d⟩ := p
        rw [more] at e
        by_cases hc : c = a + 1 + 1
        · rw [if_pos hc] at e; simp at e
        · rw [if_neg hc] at e; simp at e
    | cons p s =>
      obtain ⟨c, d⟩ := p
      have hc : c = a + 1 := by
        rw [runs] at e
        generalize runs (rng (a + 1 + 1) b ++ t) = q at e
        cases q with
        | nil => simp [more] at e; omega
        | cons p' s' =>
          obtain ⟨c', d'⟩ := p'
          rw [more] at e
          by_cases hc : c' = a + 1 + 1
          · rw [if_pos hc] at e; simp at e; omega
          · rw [if_neg hc] at e; simp at e; omega
      rw [e] at ih
      rw [more, if_pos hc]
      simpa using ih
theorem runs_expand : ∀ (q : List (Int × Int)), (∀ p ∈ q, p.1 ≤ p.2) → (runs (expand q)).length ≤ q.length
  | [], _ => by simp [expand, runs]
  | (a, b) :: q, h => by
    have ih := runs_expand q fun p hp => h p (List.mem_cons_of_mem _ hp)
    have hab := h (a, b) (by simp)
    dsimp only at hab
    have := runs_rng (expand q) (b - a + 1).toNat a b rfl (by omega)
    rw [expand, List.length_cons]
    omega
end Co
/-
  Plain functions on bytes (layer 12, cover), further: tables of glyphs, got and put; facts on them. No conditions beyond those stated.
-/
namespace Co
open Bn He

def word (s : List UInt8) (p : Nat) : Int := fld s p 2
/-- Ranges as they are read: first, last, how many before. -/
def rd (t : List UInt8) (n : Nat) : List (Int × Int × Int) := (List.range n).map fun i => (word t (4 + 6 * i), word t (4 + 6 * i + 2), word t (4 + 6 * i + 4))
def ones (t : List UInt8) (n : Nat) : List Int := (List.range n).map fun i => word t (4 + 2 * i)
def join2 : List (Int × Int × Int) → List Int → Option (List Int)
  | [], out => some out
  | (a, b, f) :: r, out => if b < a ∨ f ≠ (out.length : Int) then none else join2 r (out ++ rng a b)
def told (o : List Int) : List Int × Int := if isCov o = true then (o, 0) else ([], 5)
def wid (t : List UInt8) : Nat := if word t 0 = 2 then 6 else 2
def got (t : List UInt8) : List Int × Int :=
  if word t 0 ≠ 1 ∧ word t 0 ≠ 2 then ([], 5)
  else if t.length < 4 + wid t * (word t 2).toNat then ([], 4)
  else if word t 0 = 1 then told (ones t (word t 2).toNat)
  else match join2 (rd t (word t 2).toNat) [] with | none => ([], 5) | some o => told o
def get (s : List UInt8) (pos : Int) : List Int × Int :=
  if pos < 0 then ([], 1)
  else if (s.length : Int) < pos ∨ (s.length : Int) - pos < 4 then ([], 4)
  else got (s.drop pos.toNat)
def flat : List Int → List UInt8
  | [] => []
  | x :: r => bytes x 2 ++ flat r
def recs : Nat → List (Int × Int) → List UInt8
  | _, [] => []
  | k, (a, b) :: q => bytes a 2 ++ bytes b 2 ++ bytes k 2 ++ recs (k + (b - a + 1).toNat) q
def one (l : List Int) : List UInt8 := bytes 1 2 ++ bytes l.length 2 ++ flat l
def two (l : List Int) : List UInt8 := bytes 2 2 ++ bytes (runs l).length 2 ++ recs 0 (runs l)
def put (l : List Int) : List UInt8 × Int :=
  if isCov l = false then ([], 1) else if 6 * (runs l).length < 2 * l.length then (two l, 0) else (one l, 0)
def find (l : List Int) (g : Int) : Nat × Bool := if isCov l = true ∧ g ∈ l then (l.idxOf g, true) else (0, false)

theorem flat_len : ∀ l : List Int, (flat l).length = 2 * l.length
  | [] => rfl
  | x :: r => by rw [flat, List.length_append, bytes_len, flat_len r, List.length_cons]; omega
theorem recs_len : ∀ (q : List (Int × Int)) (k : Nat), (recs k q).length = 6 * q.length
  | [], _ => rfl
  | (a, b) :: q, k => by rw [recs, List.length_append, List.length_append, List.length_append, bytes_len, bytes_len, bytes_len, recs_len q, List.length_cons]; omega
theorem fits2 {x : Int} (h0 : 0 ≤ x) (h1 : x < 65536) : fits x 2 = true := by
  unfold fits
  rw [if_neg (by omega)]
  simp only [Bool.and_eq_true, decide_eq_true_eq]
  exact ⟨h0, by simpa using h1⟩
theorem word_at {s : List UInt8} (a b : List UInt8) (v : Int) (pos : Nat) (hs : s = a ++ bytes v 2 ++ b) (hp : a.length = pos) (h0 : 0 ≤ v) (h1 : v < 65536) : word s pos = v :=
  fld_at a b v 2 pos hs hp (by decide) (fits2 h0 h1)
theorem flat_at : ∀ (l : List Int) (a b : List UInt8) (i : Nat), i < l.length → (∀ x ∈ l, 0 ≤ x ∧ x ≤ 65534) → word (a ++ flat l ++ b) (a.length + 2 * i) = l.getD i 0
  | [], _, _, i, hi, _ => by simp at hi
  | x :: r, a, b, 0, _, h => by
    have hx := h x (by simp)
    refine word_at a (flat r ++ b) x _ ?_ (by omega) hx.1 (by omega)
    rw [flat]; simp only [List.append_assoc]
  | x :: r, a, b, i + 1, hi, h => by
    have := flat_at r (a ++ bytes x 2) b i (by simpa using hi) (fun y hy => h y (List.mem_cons_of_mem _ hy))
    rw [List.length_append, bytes_len] at this
    rw [show a.length + 2 * (i + 1) = a.length + 2 + 2 * i by omega, flat]
    simp only [List.append_assoc] at this ⊢
    simpa using this
/-- How many glyphs are in the ranges before. -/
def before : List (Int × Int) → Nat → Nat
  | _, 0 => 0
  | [], _ + 1 => 0
  | (a, b) :: q, i + 1 => (b - a + 1).toNat + before q i
theorem recs_at : ∀ (q : List (Int × Int)) (k : Nat) (a b : List UInt8) (i : Nat), i < q.length → (∀ p ∈ q, (0 ≤ p.1 ∧ p.1 ≤ 65534) ∧ (0 ≤ p.2 ∧ p.2 ≤ 65534)) → k + before q i < 65536 →
    word (a ++ recs k q ++ b) (a.length + 6 * i) = (q.getD i (0, 0)).1 ∧ word (a ++ recs k q ++ b) (a.length + 6 * i + 2) = (q.getD i (0, 0)).2 ∧ word (a ++ recs k q ++ b) (a.length + 6 * i + 4) = ((k + before q i : Nat) : Int)
  | [], _, _, _, i, hi, _, _ => by simp at hi
  | (x, y) :: r, k, a, b, 0, _, h, hk => by
    have hx := h (x, y) (by simp)
    dsimp only at hx
    rw [before, Nat.add_zero] at hk
    refine ⟨?_, ?_, ?_⟩
    · exact word_at a (bytes y 2 ++ (bytes k 2 ++ (recs (k + (y - x + 1).toNat) r ++ b))) x _ (by rw [recs]; simp only [List.append_assoc]) (by omega) hx.1.1 (by omega)
    · exact word_at (a ++ bytes x 2) (bytes k 2 ++ (recs (k + (y - x + 1).toNat) r ++ b)) y _ (by rw [recs]; simp only [List.append_assoc]) (by rw [List.length_append, bytes_len]) hx.2.1 (by omega)
    · rw [before, Nat.add_zero]
      exact word_at (a ++ bytes x 2 ++ bytes y 2) (recs (k + (y - x + 1).toNat) r ++ b) k _ (by rw [recs]; simp only [List.append_assoc]) (by rw [List.length_append, List.length_append, bytes_len, bytes_len]) (by omega) (by omega)
  | (x, y) :: r, k, a, b, i + 1, hi, h, hk => by
    rw [before] at hk ⊢
    have := recs_at r (k + (y - x + 1).toNat) (a ++ bytes x 2 ++ bytes y 2 ++ bytes k 2) b i (by simpa using hi) (fun p hp => h p (List.mem_cons_of_mem _ hp)) (by omega)
    rw [List.length_append, List.length_append, List.length_append, bytes_len, bytes_len, bytes_len] at this
    rw [show a.length + 6 * (i + 1) = a.length + 2 + 2 + 2 + 6 * i by omega, recs]
    simp only [List.append_assoc] at this ⊢
    rw [show k + ((y - x + 1).toNat + before r i) = k + (y - x + 1).toNat + before r i by omega]
    simpa using this
theorem expand_len : ∀ (q : List (Int × Int)) (i : Nat), i ≤ q.length → before q i ≤ (expand q).length ∧ before q i = (expand (q.take i)).length
  | q, 0, _ => by cases q <;> simp [before, expand]
  | [], i + 1, h => by simp at h
  | (a, b) :: q, i + 1, h => by
    have := expand_len q i (by simpa using h)
    rw [before, expand, List.length_append, rng_len, List.take_succ_cons, expand, List.length_append, rng_len]
    omega
/-- Ranges that are told right are joined. -/
theorem join2_ok : ∀ (q : List (Int × Int)) (k : Nat) (out : List Int), out.length = k → (∀ p ∈ q, p.1 ≤ p.2) → join2 ((List.range q.length).map fun i => ((q.getD i (0, 0)).1, (q.getD i (0, 0)).2, ((k + before q i : Nat) : Int))) out = some (out ++ expand q)
  | [], k, out, _, _ => by simp [join2, expand]
  | (a, b) :: q, k, out, hk, h => by
    have hab := h (a, b) (by simp)
    dsimp only at hab
    rw [List.length_cons, List.range_succ_eq_map, List.map_cons, List.map_map]
    have e : (List.range q.length).map ((fun i => ((((a, b) :: q).getD i (0, 0)).1, (((a, b) :: q).getD i (0, 0)).2, ((k + before ((a, b) :: q) i : Nat) : Int))) ∘ Nat.succ) = (List.range q.length).map fun i => ((q.getD i (0, 0)).1, (q.getD i (0, 0)).2, (((k + (b - a + 1).toNat) + before q i : Nat) : Int)) := by
      refine List.map_congr_left fun i _ => ?_
      simp only [Function.comp, Nat.succ_eq_add_one, List.getD_cons_succ, before]
      rw [Nat.add_assoc]
    rw [e]
    show join2 ((a, b, ((k + before ((a, b) :: q) 0 : Nat) : Int)) :: _) out = _
    rw [join2, if_neg (by rw [before]; omega)]
    rw [join2_ok q (k + (b - a + 1).toNat) (out ++ rng a b) (by rw [List.length_append, rng_len, hk]) (fun p hp => h p (List.mem_cons_of_mem _ hp))]
    rw [expand, List.append_assoc]

theorem runs_len : ∀ l : List Int, (runs l).length ≤ l.length
  | [] => by simp [runs]
  | x :: r => by
    have h1 := runs_len r
    have h2 := more_len x (runs r)
    rw [runs, List.length_cons]; omega
theorem told_cov {l : List Int} (h : isCov l = true) : told l = (l, 0) := by unfold told; rw [if_pos h]
theorem got_one {l : List Int} (h : isCov l = true) (back : List UInt8) : got (one l ++ back) = (l, 0) := by
  have hl := cov_len h
  have hm := cov_mem h
  have w0 : word (one l ++ back) 0 = 1 := word_at [] (bytes l.length 2 ++ (flat l ++ back)) 1 0 (by unfold one; simp only [List.append_assoc, List.nil_append]) rfl (by omega) (by omega)
  have w2 : word (one l ++ back) 2 = (l.length : Int) := word_at (bytes 1 2) (flat l ++ back) l.length 2 (by unfold one; simp only [List.append_assoc]) (bytes_len _ _) (by omega) (by omega)
  have hlen : (one l ++ back).length = 4 + 2 * l.length + back.length := by unfold one; simp only [List.length_append, bytes_len, flat_len]
  have e : ones (one l ++ back) l.length = l := by
    apply List.ext_getElem
    · simp [ones]
    · intro j h1 h2
      have := flat_at l (bytes 1 2 ++ bytes l.length 2) back j h2 hm
      rw [List.length_append, bytes_len, bytes_len] at this
      simp only [ones, List.getElem_map, List.getElem_range]
      rw [show one l ++ back = bytes 1 2 ++ bytes l.length 2 ++ flat l ++ back from rfl, show 4 + 2 * j = 2 + 2 + 2 * j by omega, this]
      simp [List.getD, List.getElem?_eq_getElem h2]
  unfold got wid
  rw [w0, w2, if_neg (by omega), if_neg (by rw [hlen, Int.toNat_natCast, if_neg (by omega)]; omega), if_pos rfl, Int.toNat_natCast, e, told_cov h]
theorem got_two {l : List Int} (h : isCov l = true) (back : List UInt8) : got (two l ++ back) = (l, 0) := by
  have hl := cov_len h
  have hm := cov_mem h
  have hr := runs_len l
  have w0 : word (two l ++ back) 0 = 2 := word_at [] (bytes (runs l).length 2 ++ (recs 0 (runs l) ++ back)) 2 0 (by unfold two; simp only [List.append_assoc, List.nil_append]) rfl (by omega) (by omega)
  have w2 : word (two l ++ back) 2 = ((runs l).length : Int) := word_at (bytes 2 2) (recs 0 (runs l) ++ back) (runs l).length 2 (by unfold two; simp only [List.append_assoc]) (bytes_len _ _) (by omega) (by omega)
  have hlen : (two l ++ back).length = 4 + 6 * (runs l).length + back.length := by unfold two; simp only [List.length_append, bytes_len, recs_len]
  have hex := expand_runs l
  have e : rd (two l ++ back) (runs l).length = (List.range (runs l).length).map fun i => (((runs l).getD i (0, 0)).1, ((runs l).getD i (0, 0)).2, ((0 + before (runs l) i : Nat) : Int)) := by
    refine List.map_congr_left fun i hi => ?_
    have hi' := List.mem_range.1 hi
    have hb := (expand_len (runs l) i (by omega)).2
    have hlt : before (runs l) i < 65536 := by
      have := (expand_len (runs l) i (by omega)).1
      rw [hex] at this
      omega
    have := recs_at (runs l) 0 (bytes 2 2 ++ bytes (runs l).length 2) back i hi' (fun p hp => by
      obtain ⟨_, m1, m2⟩ := runs_ok l p hp
      exact ⟨hm _ m1, hm _ m2⟩) (by omega)
    rw [List.length_append, bytes_len, bytes_len] at this
    rw [show two l ++ back = bytes 2 2 ++ bytes (runs l).length 2 ++ recs 0 (runs l) ++ back from rfl, show 4 + 6 * i = 2 + 2 + 6 * i by omega, this.1, this.2.1, this.2.2]
  unfold got wid
  rw [w0, w2, if_neg (by omega), if_neg (by rw [hlen, Int.toNat_natCast, if_pos rfl]; omega), if_neg (by omega), Int.toNat_natCast, e, join2_ok (runs l) 0 [] rfl (fun p hp => (runs_ok l p hp).1)]
  rw [List.nil_append, hex]
  exact told_cov h
theorem put_ok {l : List Int} (h : (put l).2 = 0) : isCov l = true := by
  unfold put at h
  cases e : isCov l with
  | true => rfl
  | false => rw [if_pos e] at h; cases h
theorem put_no {l : List Int} (h : (put l).2 ≠ 0) : isCov l = false ∧ put l = ([], 1) := by
  cases e : isCov l with
  | false => exact ⟨rfl, by unfold put; rw [if_pos e]⟩
  | true =>
    exfalso
    apply h
    unfold put
    rw [if_neg (by rw [e]; simp)]
    by_cases c : 6 * (runs l).length < 2 * l.length
    · rw [if_pos c]
    · rw [if_neg c]
theorem put_cov {l : List Int} (h : isCov l = true) : (put l).2 = 0 ∧ (put l).1.length ≤ 4 + 2 * l.length ∧ (put l).1.length ≤ 4 + 6 * (runs l).length ∧ 4 ≤ (put l).1.length ∧ ∀ back, got ((put l).1 ++ back) = (l, 0) := by
  unfold put
  rw [if_neg (by rw [h]; simp)]
  by_cases c : 6 * (runs l).length < 2 * l.length
  · rw [if_pos c]
    have e : (two l).length = 4 + 6 * (runs l).length := by unfold two; simp only [List.length_append, bytes_len, recs_len]
    exact ⟨rfl, by dsimp only; omega, by dsimp only; omega, by dsimp only; omega, fun back => got_two h back⟩
  · rw [if_neg c]
    have e : (one l).length = 4 + 2 * l.length := by unfold one; simp only [List.length_append, bytes_len, flat_len]
    exact ⟨rfl, by dsimp only; omega, by dsimp only; omega, by dsimp only; omega, fun back => got_one h back⟩
/-- What is put is got, wherever it stands. -/
theorem get_put {l : List Int} (h : (put l).2 = 0) (front back : List UInt8) : get (front ++ (put l).1 ++ back) front.length = (l, 0) ∧ (put l).1.length ≤ 4 + 2 * l.length := by
  obtain ⟨_, h2, _, h4, h5⟩ := put_cov (put_ok h)
  refine ⟨?_, h2⟩
  unfold get
  rw [if_neg (by omega), if_neg (by simp only [List.length_append]; omega), Int.toNat_natCast, List.append_assoc, List.drop_left]
  exact h5 back
theorem join2_some : ∀ (r : List (Int × Int × Int)) (out o : List Int), join2 r out = some o → o = out ++ expand (r.map fun x => (x.1, x.2.1)) ∧ ∀ x ∈ r, x.1 ≤ x.2.1
  | [], out, o, h => by
    rw [join2] at h
    cases h
    simp [expand]
  | (a, b, f) :: r, out, o, h => by
    rw [join2] at h
    by_cases c : b < a ∨ f ≠ (out.length : Int)
    · rw [if_pos c] at h; cases h
    · rw [if_neg c] at h
      obtain ⟨h1, h2⟩ := join2_some r _ o h
      refine ⟨by rw [h1, List.map_cons, expand, List.append_assoc], fun x hx => ?_⟩
      rcases List.mem_cons.1 hx with rfl | hx
      · dsimp only; omega
      · exact h2 x hx
theorem told_ok {o l : List Int} (h : told o = (l, 0)) : o = l ∧ isCov l = true := by
  unfold told at h
  by_cases c : isCov o = true
  · rw [if_pos c] at h
    simp only [Prod.mk.injEq, and_true] at h
    exact ⟨h, by rw [← h]; exact c⟩
  · rw [if_neg c] at h; simp at h
/-- What is got is right, and put in no more bytes. -/
theorem got_ok {t : List UInt8} {l : List Int} (h : got t = (l, 0)) : isCov l = true ∧ (put l).1.length ≤ t.length := by
  unfold got at h
  by_cases c1 : word t 0 ≠ 1 ∧ word t 0 ≠ 2
  · rw [if_pos c1] at h; simp at h
  · rw [if_neg c1] at h
    by_cases c2 : t.length < 4 + wid t * (word t 2).toNat
    · rw [if_pos c2] at h; simp at h
    · rw [if_neg c2] at h
      by_cases c3 : word t 0 = 1
      · rw [if_pos c3] at h
        obtain ⟨e, hc⟩ := told_ok h
        have := (put_cov hc).2.1
        have hl : l.length = (word t 2).toNat := by rw [← e]; simp [ones]
        have hw : wid t = 2 := by unfold wid; rw [if_neg (by omega)]
        rw [hw] at c2
        exact ⟨hc, by omega⟩
      · rw [if_neg c3] at h
        cases e : join2 (rd t (word t 2).toNat) [] with
        | none => rw [e] at h; simp at h
        | some o =>
          rw [e] at h
          obtain ⟨rfl, hc⟩ := told_ok h
          obtain ⟨e1, e2⟩ := join2_some _ _ _ e
          have hr := runs_expand ((rd t (word t 2).toNat).map fun x => (x.1, x.2.1)) (fun p hp => by
            obtain ⟨x, hx, rfl⟩ := List.mem_map.1 hp
            exact e2 x hx)
          rw [List.nil_append] at e1
          rw [← e1, List.length_map] at hr
          have hn : (rd t (word t 2).toNat).length = (word t 2).toNat := by simp [rd]
          have := (put_cov hc).2.2.1
          have hw : wid t = 6 := by unfold wid; rw [if_pos (by omega)]
          rw [hw] at c2
          exact ⟨hc, by omega⟩
theorem get_ok {s : List UInt8} {pos : Int} (h : (get s pos).2 = 0) : 0 ≤ pos ∧ pos + 4 ≤ s.length ∧ got (s.drop pos.toNat) = ((get s pos).1, 0) := by
  unfold get at *
  by_cases c1 : pos < 0
  · rw [if_pos c1] at h; cases h
  · rw [if_neg c1] at h ⊢
    by_cases c2 : (s.length : Int) < pos ∨ (s.length : Int) - pos < 4
    · rw [if_pos c2] at h; cases h
    · rw [if_neg c2] at h ⊢
      refine ⟨by omega, by omega, ?_⟩
      rw [← h]
theorem get_again {s : List UInt8} {pos : Int} (h : (get s pos).2 = 0) : isCov (get s pos).1 = true ∧ (put (get s pos).1).2 = 0 ∧ get (put (get s pos).1).1 0 = ((get s pos).1, 0) ∧ ((put (get s pos).1).1.length : Int) ≤ s.length - pos := by
  obtain ⟨h0, h1, h2⟩ := get_ok h
  obtain ⟨hc, hl⟩ := got_ok h2
  have hp := (put_cov hc).1
  have := (get_put hp [] []).1
  rw [List.nil_append, List.append_nil] at this
  exact ⟨hc, hp, this, by rw [List.length_drop] at hl; omega⟩
theorem got_none {t : List UInt8} (h : (got t).2 ≠ 0) : (got t).1 = [] := by
  unfold got told at *
  by_cases c1 : word t 0 ≠ 1 ∧ word t 0 ≠ 2
  · rw [if_pos c1]
  · rw [if_neg c1] at h ⊢
    by_cases c2 : t.length < 4 + wid t * (word t 2).toNat
    · rw [if_pos c2]
    · rw [if_neg c2] at h ⊢
      by_cases c3 : word t 0 = 1
      · rw [if_pos c3] at h ⊢
        by_cases c4 : isCov (ones t (word t 2).toNat) = true
        · rw [if_pos c4] at h; exact absurd rfl h
        · rw [if_neg c4]
      · rw [if_neg c3] at h ⊢
        cases e : join2 (rd t (word t 2).toNat) [] with
        | none => rfl
        | some o =>
          rw [e] at h
          dsimp only at h ⊢
          by_cases c4 : isCov o = true
          · rw [if_pos c4] at h; exact absurd rfl h
          · rw [if_neg c4]
theorem get_none {s : List UInt8} {pos : Int} (h : (get s pos).2 ≠ 0) : (get s pos).1 = [] := by
  unfold get at *
  by_cases c1 : pos < 0
  · rw [if_pos c1]
  · rw [if_neg c1] at h ⊢
    by_cases c2 : (s.length : Int) < pos ∨ (s.length : Int) - pos < 4
    · rw [if_pos c2]
    · rw [if_neg c2] at h ⊢; exact got_none h
/-- Each glyph is found at its place. -/
theorem find_at {l : List Int} (h : isCov l = true) {i : Nat} (hi : i < l.length) : find l (l.getD i 0) = (i, true) := by
  have hm : l.getD i 0 = l[i] := by simp [List.getD, List.getElem?_eq_getElem hi]
  have hmem : l.getD i 0 ∈ l := by rw [hm]; exact List.getElem_mem hi
  unfold find
  rw [if_pos ⟨h, hmem⟩]
  have hj := List.idxOf_lt_length_of_mem hmem
  have he : l.getD (l.idxOf (l.getD i 0)) 0 = l.getD i 0 := by
    have := List.getElem_idxOf hj
    rw [List.getD, List.getElem?_eq_getElem hj]
    exact this
  rcases Nat.lt_trichotomy (l.idxOf (l.getD i 0)) i with c | c | c
  · have := cov_less h i _ c hi; omega
  · rw [c]
  · have := cov_less h _ i c hj; omega
theorem find_no {l : List Int} {g : Int} (h : isCov l = false ∨ g ∉ l) : find l g = (0, false) := by
  unfold find
  rw [if_neg ?_]
  rintro ⟨a, b⟩
  rcases h with h | h
  · rw [h] at a; cases a
  · exact h b
end Co
/-
  Plain functions on bytes (layer 14, info), with nothing of the program: glyphs' values, got and put, and found; facts on them. No conditions beyond those stated.
-/
namespace Ino
open Bn He

/-- A glyph and its value. -/
abbrev Pair := Int × Int
def glyphs (l : List Pair) : List Int := l.map Prod.fst
def isP (l : List Pair) : Bool := (l.all fun x => fits x.2 (-2)) && Co.isCov (glyphs l)
theorem isP_iff (l : List Pair) : isP l = true ↔ (∀ x ∈ l, fits x.2 (-2) = true) ∧ Co.isCov (glyphs l) = true := by
  unfold isP
  simp only [Bool.and_eq_true, List.all_eq_true]
def zip (t : List UInt8) (g : List Int) : List Pair := (List.range g.length).map fun i => (g.getD i 0, fld t (4 + 4 * i) (-2))
def get (s : List UInt8) (pos : Int) : List Pair × Int :=
  if pos < 0 then ([], 1)
  else if (s.length : Int) < pos ∨ (s.length : Int) - pos < 4 then ([], 4)
  else if (s.length : Int) - pos < 4 + 4 * fld (s.drop pos.toNat) 2 2 then ([], 4)
  else if (Co.get s (pos + fld (s.drop pos.toNat) 0 2)).2 ≠ 0 then ([], (Co.get s (pos + fld (s.drop pos.toNat) 0 2)).2)
  else if ((Co.get s (pos + fld (s.drop pos.toNat) 0 2)).1.length : Int) ≠ fld (s.drop pos.toNat) 2 2 then ([], 5)
  else (zip (s.drop pos.toNat) (Co.get s (pos + fld (s.drop pos.toNat) 0 2)).1, 0)
def vals : List Pair → List UInt8
  | [] => []
  | x :: r => bytes x.2 2 ++ [0, 0] ++ vals r
def out (l : List Pair) : List UInt8 := bytes (4 + 4 * l.length : Nat) 2 ++ bytes l.length 2 ++ vals l ++ (Co.put (glyphs l)).1
def put (l : List Pair) : List UInt8 × Int := if isP l = false then ([], 1) else if 16382 < l.length then ([], 7) else (out l, 0)
def find (l : List Pair) (g : Int) : Int × Bool := if isP l = true then match l.find? fun x => decide (x.1 = g) with | some x => (x.2, true) | none => (0, false) else (0, false)

theorem vals_len : ∀ l : List Pair, (vals l).length = 4 * l.length
  | [] => rfl
  | x :: r => by rw [vals, List.length_append, List.length_append, bytes_len, vals_len r, List.length_cons]; simp; omega
theorem vals_at : ∀ (l : List Pair) (a b : List UInt8) (i : Nat), i < l.length → (∀ x ∈ l, fits x.2 (-2) = true) → fld (a ++ vals l ++ b) (a.length + 4 * i) (-2) = (l.getD i (0, 0)).2
  | [], _, _, i, hi, _ => by simp at hi
  | x :: r, a, b, 0, _, h => by
    refine fld_at a ([0, 0] ++ (vals r ++ b)) x.2 (-2) _ ?_ (by omega) (by decide) (h x (by simp))
    rw [vals]; simp only [List.append_assoc]; rfl
  | x :: r, a, b, i + 1, hi, h => by
    have := vals_at r (a ++ bytes x.2 2 ++ [0, 0]) b i (by simpa using hi) (fun y hy => h y (List.mem_cons_of_mem _ hy))
    rw [List.length_append, List.length_append, bytes_len] at this
    rw [show a.length + 4 * (i + 1) = a.length + 2 + [(0 : UInt8), 0].length + 4 * i by simp; omega, vals]
    simp only [List.append_assoc] at this ⊢
    simpa using this
theorem put_ok {l : List Pair} (h : (put l).2 = 0) : isP l = true ∧ l.length ≤ 16382 ∧ (put l).1 = out l := by
  unfold put at *
  by_cases c1 : isP l = false
  · rw [if_pos c1] at h; cases h
  · rw [if_neg c1] at h ⊢
    by_cases c2 : 16382 < l.length
    · rw [if_pos c2] at h; cases h
    · rw [if_neg c2]; exact ⟨by simpa using c1, by omega, rfl⟩
theorem put_few {l : List Pair} (hl : l.length ≤ 16382) : (put l).2 = 0 ∨ (isP l = false ∧ put l = ([], 1)) := by
  unfold put
  cases e : isP l with
  | false => right; exact ⟨rfl, rfl⟩
  | true => left; rw [if_neg (by simp), if_neg (by omega)]
/-- What is put is got, wherever it stands. -/
theorem get_put {l : List Pair} (h : (put l).2 = 0) (front back : List UInt8) : get (front ++ (put l).1 ++ back) front.length = (l, 0) := by
  obtain ⟨hp, hl, e⟩ := put_ok h
  obtain ⟨hf, hc⟩ := (isP_iff l).1 hp
  rw [e]
  obtain ⟨pc1, _, _, pc4, _⟩ := Co.put_cov hc
  have hgl : (glyphs l).length = l.length := by simp [glyphs]
  have hd : (front ++ out l ++ back).drop front.length = out l ++ back := by rw [List.append_assoc, List.drop_left]
  have w0 : fld (out l ++ back) 0 2 = ((4 + 4 * l.length : Nat) : Int) := Co.word_at [] (bytes l.length 2 ++ (vals l ++ ((Co.put (glyphs l)).1 ++ back))) _ 0 (by unfold out; simp only [List.append_assoc, List.nil_append]) rfl (by omega) (by omega)
  have w2 : fld (out l ++ back) 2 2 = (l.length : Int) := Co.word_at (bytes (4 + 4 * l.length : Nat) 2) (vals l ++ ((Co.put (glyphs l)).1 ++ back)) _ 2 (by unfold out; simp only [List.append_assoc]) (bytes_len _ _) (by omega) (by omega)
  have hlen : (front ++ out l ++ back).length = front.length + (4 + 4 * l.length + (Co.put (glyphs l)).1.length) + back.length := by unfold out; simp only [List.length_append, bytes_len, vals_len]
  have hcov : Co.get (front ++ out l ++ back) ((front.length : Int) + ((4 + 4 * l.length : Nat) : Int)) = (glyphs l, 0) := by
    have := (Co.get_put pc1 (front ++ (bytes (4 + 4 * l.length : Nat) 2 ++ bytes l.length 2 ++ vals l)) back).1
    rw [show ((front ++ (bytes (4 + 4 * l.length : Nat) 2 ++ bytes l.length 2 ++ vals l)).length : Int) = (front.length : Int) + ((4 + 4 * l.length : Nat) : Int) by simp only [List.length_append, bytes_len, vals_len]; omega] at this
    rw [← this]
    unfold out
    simp only [List.append_assoc]
  unfold get
  rw [if_neg (by omega), if_neg (by rw [hlen]; omega), Int.toNat_natCast, hd, w0, w2, if_neg (by rw [hlen]; omega), hcov, if_neg (by simp), if_neg (by simp [hgl])]
  simp only [Prod.mk.injEq, and_true]
  apply List.ext_getElem
  · simp [zip, hgl]
  · intro i h1 h2
    have := vals_at l (bytes (4 + 4 * l.length : Nat) 2 ++ bytes l.length 2) ((Co.put (glyphs l)).1 ++ back) i h2 hf
    rw [List.length_append, bytes_len, bytes_len] at this
    simp only [zip, List.getElem_map, List.getElem_range]
    rw [show out l ++ back = bytes (4 + 4 * l.length : Nat) 2 ++ bytes l.length 2 ++ vals l ++ ((Co.put (glyphs l)).1 ++ back) by unfold out; simp only [List.append_assoc], show 4 + 4 * i = 2 + 2 + 4 * i by omega, this]
    simp [glyphs, List.getD, List.getElem?_eq_getElem h2]
theorem get_none {s : List UInt8} {pos : Int} (h : (get s pos).2 ≠ 0) : (get s pos).1 = [] := by
  unfold get at *
  by_cases c1 : pos < 0
  · rw [if_pos c1]
  · rw [if_neg c1] at h ⊢
    by_cases c2 : (s.length : Int) < pos ∨ (s.length : Int) - pos < 4
    · rw [if_pos c2]
    · rw [if_neg c2] at h ⊢
      by_cases c3 : (s.length : Int) - pos < 4 + 4 * fld (s.drop pos.toNat) 2 2
      · rw [if_pos c3]
      · rw [if_neg c3] at h ⊢
        by_cases c4 : (Co.get s (pos + fld (s.drop pos.toNat) 0 2)).2 ≠ 0
        · rw [if_pos c4]
        · rw [if_neg c4] at h ⊢
          by_cases c5 : ((Co.get s (pos + fld (s.drop pos.toNat) 0 2)).1.length : Int) ≠ fld (s.drop pos.toNat) 2 2
          · rw [if_pos c5]
          · rw [if_neg c5] at h; exact absurd rfl h
/-- What is got. -/
theorem get_ok {s : List UInt8} {pos : Int} (h : (get s pos).2 = 0) : 0 ≤ pos ∧ pos + 4 ≤ s.length ∧ pos + 4 + 4 * fld (s.drop pos.toNat) 2 2 ≤ s.length ∧ (Co.get s (pos + fld (s.drop pos.toNat) 0 2)).2 = 0 ∧
    ((Co.get s (pos + fld (s.drop pos.toNat) 0 2)).1.length : Int) = fld (s.drop pos.toNat) 2 2 ∧ (get s pos).1 = zip (s.drop pos.toNat) (Co.get s (pos + fld (s.drop pos.toNat) 0 2)).1 := by
  unfold get at *
  by_cases c1 : pos < 0
  · rw [if_pos c1] at h; cases h
  · rw [if_neg c1] at h ⊢
    by_cases c2 : (s.length : Int) < pos ∨ (s.length : Int) - pos < 4
    · rw [if_pos c2] at h; cases h
    · rw [if_neg c2] at h ⊢
      by_cases c3 : (s.length : Int) - pos < 4 + 4 * fld (s.drop pos.toNat) 2 2
      · rw [if_pos c3] at h; cases h
      · rw [if_neg c3] at h ⊢
        by_cases c4 : (Co.get s (pos + fld (s.drop pos.toNat) 0 2)).2 ≠ 0
        · rw [if_pos c4] at h; exact absurd h c4
        · rw [if_neg c4] at h ⊢
          by_cases c5 : ((Co.get s (pos + fld (s.drop pos.toNat) 0 2)).1.length : Int) ≠ fld (s.drop pos.toNat) 2 2
          · rw [if_pos c5] at h; cases h
          · rw [if_neg c5]; exact ⟨by omega, by omega, by omega, by simpa using c4, by simpa using c5, rfl⟩
theorem zip_len (t : List UInt8) (g : List Int) : (zip t g).length = g.length := by simp [zip]
theorem zip_glyphs (t : List UInt8) (g : List Int) : glyphs (zip t g) = g := by
  apply List.ext_getElem
  · simp [glyphs, zip]
  · intro i h1 h2
    simp [glyphs, zip, List.getD, List.getElem?_eq_getElem h2]
theorem get_is {s : List UInt8} {pos : Int} (h : (get s pos).2 = 0) : isP (get s pos).1 = true := by
  obtain ⟨h0, h1, h2, h3, h4, h5⟩ := get_ok h
  rw [h5, isP_iff, zip_glyphs]
  refine ⟨fun x hx => ?_, (Co.get_again h3).1⟩
  unfold zip at hx
  obtain ⟨i, hi, rfl⟩ := List.mem_map.1 hx
  have hi' := List.mem_range.1 hi
  dsimp only
  unfold fld
  exact one_fits _ _ (by decide) (by rw [List.length_take, List.length_drop, List.length_drop]; simp; omega)
theorem find_at {l : List Pair} (h : isP l = true) {i : Nat} {x : Pair} (hx : l[i]? = some x) : find l x.1 = (x.2, true) := by
  obtain ⟨_, hc⟩ := (isP_iff l).1 h
  obtain ⟨hi, he⟩ := List.getElem?_eq_some_iff.1 hx
  unfold find
  rw [if_pos h]
  cases e : l.find? fun y => decide (y.1 = x.1) with
  | none =>
    exfalso
    have := List.find?_eq_none.1 e x (List.mem_of_getElem? hx)
    simp at this
  | some y =>
    have hy := List.find?_some e
    have hm := List.mem_of_find?_eq_some e
    simp only [decide_eq_true_eq] at hy
    obtain ⟨j, hj, hje⟩ := List.mem_iff_getElem.1 hm
    have gi : (glyphs l).getD i 0 = x.1 := by simp [glyphs, List.getD, List.getElem?_eq_getElem hi, he]
    have gj : (glyphs l).getD j 0 = x.1 := by simp [glyphs, List.getD, List.getElem?_eq_getElem hj, hje, hy]
    have hgl : (glyphs l).length = l.length := by simp [glyphs]
    have : j = i := by
      rcases Nat.lt_trichotomy j i with c | c | c
      · have := Co.cov_less hc i j c (by omega); omega
      · exact c
      · have := Co.cov_less hc j i c (by omega); omega
    subst this
    rw [show y = x by rw [← hje, he]]
end Ino
