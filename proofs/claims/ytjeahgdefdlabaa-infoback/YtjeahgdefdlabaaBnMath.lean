/-
  Plain functions on bytes (layer 3, bin), with nothing of the program: what Get, Put, Piece, Sum and Pad come to, and facts on them. No conditions.
-/
import Derived.WalkKit
namespace Bn

/-- A size of a field. -/
def isSize (n : Int) : Bool := (decide (1 ≤ n) && decide (n ≤ 4)) || (decide (-4 ≤ n) && decide (n ≤ -1))
theorem isSize_iff (n : Int) : isSize n = true ↔ (1 ≤ n ∧ n ≤ 4) ∨ (-4 ≤ n ∧ n ≤ -1) := by simp [isSize]
theorem isSize_wide {n : Int} (h : isSize n = true) : 1 ≤ n.natAbs ∧ n.natAbs ≤ 4 := by
  rw [isSize_iff] at h; omega

/-- The number that bytes are, the first one greatest. -/
def be (l : List UInt8) : Nat := l.foldl (fun v c => 256 * v + c.toNat) 0
theorem be_snoc (l : List UInt8) (c : UInt8) : be (l ++ [c]) = 256 * be l + c.toNat := by simp [be, List.foldl_append]
theorem fold_lt : ∀ (l : List UInt8) (v : Nat), l.foldl (fun v c => 256 * v + c.toNat) v < (v + 1) * 256 ^ l.length
  | [], v => by simp
  | c :: l, v => by
    have h1 := fold_lt l (256 * v + c.toNat)
    have h2 : c.toNat < 256 := UInt8.toNat_lt c
    rw [List.foldl_cons, List.length_cons, Nat.pow_succ, Nat.mul_comm (256 ^ l.length) 256, ← Nat.mul_assoc]
    exact Nat.lt_of_lt_of_le h1 (Nat.mul_le_mul_right _ (by omega))
theorem be_lt (l : List UInt8) : be l < 256 ^ l.length := by
  have := fold_lt l 0
  simpa [be] using this
theorem be_four (a b c d : UInt8) : be [a, b, c, d] < 4294967296 := by
  have := be_lt [a, b, c, d]
  simpa using this

/-- The number of a field. -/
def one (l : List UInt8) (size : Int) : Int := if size < 0 ∧ 256 ^ l.length / 2 ≤ be l then (be l : Int) - ((256 ^ l.length : Nat) : Int) else (be l : Int)
/-- Does a value fit a size? -/
def fits (v size : Int) : Bool :=
  if size < 0 then decide (-((256 ^ size.natAbs / 2 : Nat) : Int) ≤ v) && decide (v < ((256 ^ size.natAbs / 2 : Nat) : Int)) else decide (0 ≤ v) && decide (v < ((256 ^ size.natAbs : Nat) : Int))
/-- The last n digits of a number, to the base 256. -/
def dig (u j : Nat) : UInt8 := UInt8.ofNat (u / 256 ^ j % 256)
def tail (n u : Nat) : List UInt8 := (List.range n).map fun t => dig u (n - 1 - t)
/-- The bytes of a value, so many. -/
def bytes (v : Int) (n : Nat) : List UInt8 := tail n (if v < 0 then v + ((256 ^ n : Nat) : Int) else v).toNat

theorem dig_toNat (u j : Nat) : (dig u j).toNat = u / 256 ^ j % 256 := by
  unfold dig
  have : u / 256 ^ j % 256 < 256 := Nat.mod_lt _ (by omega)
  rw [UInt8.toNat_ofNat_of_lt' (by simpa [UInt8.size] using this)]
theorem dig_succ (u j : Nat) : dig u (j + 1) = dig (u / 256) j := by
  unfold dig
  rw [Nat.pow_succ, Nat.mul_comm, ← Nat.div_div_eq_div_mul]
theorem tail_len (n u : Nat) : (tail n u).length = n := by simp [tail]
theorem tail_snoc (n u : Nat) : tail (n + 1) u = tail n (u / 256) ++ [dig u 0] := by
  unfold tail
  rw [List.range_succ, List.map_append]
  congr 1
  · apply List.map_congr_left
    intro t ht
    have : t < n := List.mem_range.1 ht
    rw [show n + 1 - 1 - t = (n - 1 - t) + 1 by omega, dig_succ]
  · simp
theorem tail_cons (n u : Nat) : tail (n + 1) u = dig u n :: tail n u := by
  unfold tail
  rw [List.range_succ_eq_map, List.map_cons, List.map_map]
  congr 1
  apply List.map_congr_left
  intro t _
  show dig u (n + 1 - 1 - (t + 1)) = dig u (n - 1 - t)
  congr 1
  omega
theorem be_tail : ∀ (n u : Nat), u < 256 ^ n → be (tail n u) = u
  | 0, u, h => by
    have : u = 0 := by simpa using h
    subst this; rfl
  | n + 1, u, h => by
    rw [tail_snoc, be_snoc, be_tail n (u / 256) (by rw [Nat.pow_succ] at h; omega), dig_toNat]
    simp
    omega
theorem tail_be : ∀ (l : List UInt8), tail l.length (be l) = l := by
  have main : ∀ (n : Nat) (l : List UInt8), l.length = n → tail n (be l) = l := by
    intro n
    induction n with
    | zero => intro l h; rw [List.length_eq_zero_iff.1 h]; rfl
    | succ n ih =>
      intro l h
      have hne : l ≠ [] := by intro h0; rw [h0] at h; simp at h
      have hl := (List.dropLast_concat_getLast hne).symm
      have hlen : l.dropLast.length = n := by rw [List.length_dropLast]; omega
      generalize l.dropLast = a at *
      generalize l.getLast hne = c at *
      subst hl
      have hc : c.toNat < 256 := UInt8.toNat_lt c
      rw [be_snoc, tail_snoc, show (256 * be a + c.toNat) / 256 = be a by omega, ih a hlen]
      congr 2
      unfold dig
      rw [Nat.pow_zero, Nat.div_one, show (256 * be a + c.toNat) % 256 = c.toNat by omega]
      simp
  exact fun l => main _ l rfl

theorem pow_pos' (n : Nat) : 0 < 256 ^ n := Nat.pow_pos (by omega)
theorem pow_half (n : Nat) (h : 1 ≤ n) : 2 * (256 ^ n / 2) = 256 ^ n := by
  obtain ⟨k, rfl⟩ : ∃ k, n = k + 1 := ⟨n - 1, by omega⟩
  rw [Nat.pow_succ]; omega

theorem bytes_len (v : Int) (n : Nat) : (bytes v n).length = n := tail_len _ _
/-- What is put is got. -/
theorem one_bytes (v size : Int) (hs : isSize size = true) (h : fits v size = true) : one (bytes v size.natAbs) size = v := by
  obtain ⟨w1, w2⟩ := isSize_wide hs
  have hh := pow_half size.natAbs w1
  have hp := pow_pos' size.natAbs
  unfold fits at h
  unfold one
  rw [bytes_len]
  unfold bytes
  generalize 256 ^ size.natAbs / 2 = hf at *
  generalize hP : 256 ^ size.natAbs = P at *
  by_cases hn : size < 0
  · rw [if_pos hn] at h
    simp only [Bool.and_eq_true, decide_eq_true_eq] at h
    by_cases hv : v < 0
    · rw [if_pos hv, be_tail _ _ (by rw [hP]; omega), if_pos ⟨hn, by omega⟩]
      omega
    · rw [if_neg hv, be_tail _ _ (by rw [hP]; omega), if_neg (by intro hc; omega)]
      omega
  · rw [if_neg hn] at h
    simp only [Bool.and_eq_true, decide_eq_true_eq] at h
    rw [if_neg (show ¬ v < 0 by omega), be_tail _ _ (by rw [hP]; omega), if_neg (by intro hc; omega)]
    omega
/-- What is got fits, and is put as it stood. -/
theorem one_fits (l : List UInt8) (size : Int) (hs : isSize size = true) (hl : l.length = size.natAbs) : fits (one l size) size = true := by
  obtain ⟨w1, w2⟩ := isSize_wide hs
  have hh := pow_half size.natAbs w1
  have hb := be_lt l
  unfold fits one
  rw [hl] at hb ⊢
  generalize 256 ^ size.natAbs / 2 = hf at *
  generalize 256 ^ size.natAbs = P at *
  by_cases hn : size < 0
  · rw [if_pos hn]
    by_cases hc : hf ≤ be l
    · rw [if_pos ⟨hn, hc⟩]; simp only [Bool.and_eq_true, decide_eq_true_eq]; omega
    · rw [if_neg (fun h => hc h.2)]; simp only [Bool.and_eq_true, decide_eq_true_eq]; omega
  · rw [if_neg hn, if_neg (fun h => hn h.1)]; simp only [Bool.and_eq_true, decide_eq_true_eq]; omega
theorem bytes_one (l : List UInt8) (size : Int) (hs : isSize size = true) (hl : l.length = size.natAbs) : bytes (one l size) size.natAbs = l := by
  obtain ⟨w1, w2⟩ := isSize_wide hs
  have hh := pow_half size.natAbs w1
  have hb := be_lt l
  have ht := tail_be l
  unfold bytes one
  rw [hl] at hb ht ⊢
  generalize 256 ^ size.natAbs / 2 = hf at *
  generalize 256 ^ size.natAbs = P at *
  by_cases hc : size < 0 ∧ hf ≤ be l
  · rw [if_pos hc, if_pos (by omega), show ((be l : Int) - P + P).toNat = be l by omega]
    exact ht
  · rw [if_neg hc, if_neg (by omega), Int.toNat_natCast]
    exact ht

/-! Rows of fields. -/
def many (sizes : List Int) : Nat := (sizes.map Int.natAbs).sum
theorem many_cons (n : Int) (r : List Int) : many (n :: r) = n.natAbs + many r := by simp [many]
theorem many_append (a b : List Int) : many (a ++ b) = many a + many b := by simp [many]
def fields : List UInt8 → List Int → List Int
  | _, [] => []
  | l, n :: r => one (l.take n.natAbs) n :: fields (l.drop n.natAbs) r
def allSizes (sizes : List Int) : Bool := sizes.all isSize
def get (l : List UInt8) (pos : Int) (sizes : List Int) : List Int × Int :=
  if allSizes sizes = false ∨ pos < 0 then ([], 1)
  else if (l.length : Int) < pos ∨ (l.length : Int) - pos < many sizes then ([], 4)
  else (fields (l.drop pos.toNat) sizes, 0)
def allFit : List Int → List Int → Bool
  | n :: r, v :: s => fits v n && allFit r s
  | _, _ => true
def join : List Int → List Int → List UInt8
  | n :: r, v :: s => bytes v n.natAbs ++ join r s
  | _, _ => []
def put (sizes values : List Int) : List UInt8 × Int :=
  if allSizes sizes = false ∨ sizes.length ≠ values.length then ([], 1)
  else if allFit sizes values = false then ([], 2)
  else (join sizes values, 0)
def piece (l : List UInt8) (pos n : Int) : List UInt8 × Int :=
  if pos < 0 ∨ n < 0 then ([], 1)
  else if (l.length : Int) < pos ∨ (l.length : Int) - pos < n then ([], 4)
  else ((l.drop pos.toNat).take n.toNat, 0)

theorem fields_len : ∀ (l : List UInt8) (sizes : List Int), (fields l sizes).length = sizes.length
  | _, [] => rfl
  | l, n :: r => by rw [fields, List.length_cons, fields_len, List.length_cons]
theorem fields_append : ∀ (l : List UInt8) (a b : List Int), fields l (a ++ b) = fields l a ++ fields (l.drop (many a)) b
  | l, [], b => by simp [fields, many]
  | l, n :: r, b => by
    rw [List.cons_append, fields, fields, fields_append, many_cons, List.cons_append, List.drop_drop, Nat.add_comm]
theorem join_len : ∀ (sizes values : List Int), sizes.length = values.length → (join sizes values).length = many sizes
  | [], [], _ => rfl
  | n :: r, v :: s, h => by
    rw [join, List.length_append, bytes_len, join_len r s (by simpa using h), many_cons]
  | [], v :: s, h => by simp at h
  | n :: r, [], h => by simp at h
/-- Put and got. -/
theorem fields_join : ∀ (sizes values : List Int) (back : List UInt8), sizes.length = values.length → allSizes sizes = true → allFit sizes values = true → fields (join sizes values ++ back) sizes = values
  | [], [], _, _, _, _ => rfl
  | n :: r, v :: s, back, h, hs, hf => by
    simp only [allSizes, List.all_cons, Bool.and_eq_true] at hs
    simp only [allFit, Bool.and_eq_true] at hf
    rw [join, fields, List.append_assoc]
    have e1 : (bytes v n.natAbs ++ (join r s ++ back)).take n.natAbs = bytes v n.natAbs := by
      have := List.take_left (l₁ := bytes v n.natAbs) (l₂ := join r s ++ back)
      rwa [bytes_len] at this
    have e2 : (bytes v n.natAbs ++ (join r s ++ back)).drop n.natAbs = join r s ++ back := by
      have := List.drop_left (l₁ := bytes v n.natAbs) (l₂ := join r s ++ back)
      rwa [bytes_len] at this
    rw [e1, e2, one_bytes v n hs.1 hf.1, fields_join r s back (by simpa using h) hs.2 hf.2]
  | [], v :: s, _, h, _, _ => by simp at h
  | n :: r, [], _, h, _, _ => by simp at h
/-- Got and put. -/
theorem join_fields : ∀ (sizes : List Int) (l : List UInt8), allSizes sizes = true → many sizes ≤ l.length → allFit sizes (fields l sizes) = true ∧ join sizes (fields l sizes) = l.take (many sizes)
  | [], l, _, _ => by simp [allFit, join, many]
  | n :: r, l, hs, hl => by
    simp only [allSizes, List.all_cons, Bool.and_eq_true] at hs
    rw [many_cons] at hl
    have ht : (l.take n.natAbs).length = n.natAbs := by rw [List.length_take]; omega
    obtain ⟨h1, h2⟩ := join_fields r (l.drop n.natAbs) hs.2 (by rw [List.length_drop]; omega)
    rw [fields, allFit, join, h1, h2, one_fits _ n hs.1 ht, bytes_one _ n hs.1 ht, many_cons]
    refine ⟨rfl, ?_⟩
    rw [List.take_add]

theorem put_get (sizes values : List Int) (front back : List UInt8) (h : (put sizes values).2 = 0) :
    get (front ++ (put sizes values).1 ++ back) front.length sizes = (values, 0) := by
  unfold put at *
  by_cases c1 : allSizes sizes = false ∨ sizes.length ≠ values.length
  · rw [if_pos c1] at h; cases h
  · rw [if_neg c1] at h ⊢
    have hs : allSizes sizes = true := by
      cases e : allSizes sizes with
      | true => rfl
      | false => exact absurd (.inl e) c1
    have hl : sizes.length = values.length := by
      by_cases e : sizes.length = values.length
      · exact e
      · exact absurd (.inr e) c1
    by_cases c2 : allFit sizes values = false
    · rw [if_pos c2] at h; cases h
    · rw [if_neg c2]
      have hf : allFit sizes values = true := by simpa using c2
      have hj := join_len sizes values hl
      unfold get
      rw [if_neg (by rw [hs]; simp), if_neg (by simp [hj]; omega)]
      rw [Int.toNat_natCast, List.append_assoc, List.drop_left, fields_join sizes values back hl hs hf]
theorem put_refused (sizes values : List Int) (h : (put sizes values).2 ≠ 0) : (put sizes values).1 = [] := by
  unfold put at *
  by_cases c1 : allSizes sizes = false ∨ sizes.length ≠ values.length
  · rw [if_pos c1]
  · rw [if_neg c1] at h ⊢
    by_cases c2 : allFit sizes values = false
    · rw [if_pos c2]
    · rw [if_neg c2] at h; exact absurd rfl h
theorem get_refused (l : List UInt8) (pos : Int) (sizes : List Int) (h : (get l pos sizes).2 ≠ 0) : (get l pos sizes).1 = [] := by
  unfold get at *
  by_cases c1 : allSizes sizes = false ∨ pos < 0
  · rw [if_pos c1]
  · rw [if_neg c1] at h ⊢
    by_cases c2 : (l.length : Int) < pos ∨ (l.length : Int) - pos < many sizes
    · rw [if_pos c2]
    · rw [if_neg c2] at h; exact absurd rfl h

/-- Two rows, one behind the other. -/
theorem get_joins (l : List UInt8) (pos : Int) (a b : List Int) (h : (get l pos (a ++ b)).2 = 0) :
    (get l pos a).2 = 0 ∧ (get l (pos + many a) b).2 = 0 ∧ (get l pos a).1 ++ (get l (pos + many a) b).1 = (get l pos (a ++ b)).1 ∧
    put (a ++ b) (get l pos (a ++ b)).1 = ((l.drop pos.toNat).take (many (a ++ b)), 0) ∧
    piece l pos ((l.drop pos.toNat).take (many (a ++ b))).length = ((l.drop pos.toNat).take (many (a ++ b)), 0) := by
  unfold get at *
  by_cases c1 : allSizes (a ++ b) = false ∨ pos < 0
  · rw [if_pos c1] at h; cases h
  · rw [if_neg c1] at h
    by_cases c2 : (l.length : Int) < pos ∨ (l.length : Int) - pos < many (a ++ b)
    · rw [if_pos c2] at h; cases h
    · have hp : 0 ≤ pos := by omega
      have hs : allSizes (a ++ b) = true := by
        cases e : allSizes (a ++ b) with
        | true => rfl
        | false => exact absurd (.inl e) c1
      have hsab : allSizes a = true ∧ allSizes b = true := by
        simp only [allSizes, List.all_append, Bool.and_eq_true] at hs; exact hs
      have hm := many_append a b
      have hlen : many (a ++ b) ≤ (l.drop pos.toNat).length := by rw [List.length_drop]; omega
      obtain ⟨j1, j2⟩ := join_fields (a ++ b) (l.drop pos.toNat) hs hlen
      have htl : ((l.drop pos.toNat).take (many (a ++ b))).length = many (a ++ b) := by rw [List.length_take]; omega
      rw [if_neg c1, if_neg c2, if_neg (show ¬ (allSizes a = false ∨ pos < 0) by rw [hsab.1]; simp; omega), if_neg (show ¬ ((l.length : Int) < pos ∨ (l.length : Int) - pos < many a) by omega),
        if_neg (show ¬ (allSizes b = false ∨ pos + many a < 0) by rw [hsab.2]; simp; omega), if_neg (show ¬ ((l.length : Int) < pos + many a ∨ (l.length : Int) - (pos + many a) < many b) by omega)]
      refine ⟨rfl, rfl, ?_, ?_, ?_⟩
      · rw [fields_append, List.drop_drop, show (pos + many a).toNat = pos.toNat + many a by omega]
      · unfold put
        rw [if_neg (by rw [hs, fields_len]; simp), if_neg (by rw [j1]; simp), j2]
      · unfold piece
        rw [htl, if_neg (by omega), if_neg (by omega), Int.toNat_natCast]
end Bn
