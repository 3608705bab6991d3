/-
  Facts that the walks rest on: BnMath, BnSums, HeMath. No conditions beyond those stated.
-/
import Derived.WalkKit
/-
  Plain functions on bytes (layer 3, bin), with nothing of the program: what Get, Put, Piece, Sum and Pad come to, and facts on them. No conditions.
-/
namespace Bn

/-- A size of a field. -/
def isSize (n : Int) : Bool := (decide (1 ≤ n) && decide (n ≤ 4)) || (decide (-4 ≤ n) && decide (n ≤ -1))
theorem isSize_iff (n : Int) : isSize n = true ↔ (1 ≤ n ∧ n ≤ 4) ∨ (-4 ≤ n ∧ n ≤ -1) := by simp [isSize]
theorem isSize_wide {n : Int} (h : isSize n = true) : 1 ≤ n.natAbs ∧ n.natAbs ≤ 4 := by
  rw [isSize_iff] at h; omega

/-- The number that bytes are, the first one greatest. -/
def be (l : List UInt8) : Nat := l.foldl (fun v c => 256 * v + c.toNat) 0
theorem be_snoc (l : List UInt8) (c : UInt8) : be (l ++ [c]) = 256 * be l + c.toNat := by simp [be, List.foldl_append]
theorem fold_lt : ∀ (l : List UInt8) (v : Nat), l.foldl (fun v c => 256 * v + c.toNat) v < (v + 1) * 256 ^ l.length
  | [], v => by simp
  | c :: l, v => by
    have h1 := fold_lt l (256 * v + c.toNat)
    have h2 : c.toNat < 256 := UInt8.toNat_lt c
    rw [List.foldl_cons, List.length_cons, Nat.pow_succ, Nat.mul_comm (256 ^ l.length) 256, ← Nat.mul_assoc]
    exact Nat.lt_of_lt_of_le h1 (Nat.mul_le_mul_right _ (by omega))
theorem be_lt (l : List UInt8) : be l < 256 ^ l.length := by
  have := fold_lt l 0
  simpa [be] using this
theorem be_four (a b c d : UInt8) : be [a, b, c, d] < 4294967296 := by
  have := be_lt [a, b, c, d]
  simpa using this

/-- The number of a field. -/
def one (l : List UInt8) (size : Int) : Int := if size < 0 ∧ 256 ^ l.length / 2 ≤ be l then (be l : Int) - ((256 ^ l.length : Nat) : Int) else (be l : Int)
/-- Does a value fit a size? -/
def fits (v size : Int) : Bool :=
  if size < 0 then decide (-((256 ^ size.natAbs / 2 : Nat) : Int) ≤ v) && decide (v < ((256 ^ size.natAbs / 2 : Nat) : Int)) else decide (0 ≤ v) && decide (v < ((256 ^ size.natAbs : Nat) : Int))
/-- The last n digits of a number, to the base 256. -/
def dig (u j : Nat) : UInt8 := UInt8.ofNat (u / 256 ^ j % 256)
def tail (n u : Nat) : List UInt8 := (List.range n).map fun t => dig u (n - 1 - t)
/-- The bytes of a value, so many. -/
def bytes (v : Int) (n : Nat) : List UInt8 := tail n (if v < 0 then v + ((256 ^ n : Nat) : Int) else v).toNat

theorem dig_toNat (u j : Nat) : (dig u j).toNat = u / 256 ^ j % 256 := by
  unfold dig
  have : u / 256 ^ j % 256 < 256 := Nat.mod_lt _ (by omega)
  rw [UInt8.toNat_ofNat_of_lt' (by simpa [UInt8.size] using this)]
theorem dig_succ (u j : Nat) : dig u (j + 1) = dig (u / 256) j := by
  unfold dig
  rw [Nat.pow_succ, Nat.mul_comm, ← Nat.div_div_eq_div_mul]
theorem tail_len (n u : Nat) : (tail n u).length = n := by simp [tail]
theorem tail_snoc (n u : Nat) : tail (n + 1) u = tail n (u / 256) ++ [dig u 0] := by
  unfold tail
  rw [List.range_succ, List.map_append]
  congr 1
  · apply List.map_congr_left
    intro t ht
    have : t < n := List.mem_range.1 ht
    rw [show n + 1 - 1 - t = (n - 1 - t) + 1 by omega, dig_succ]
  · simp
theorem tail_cons (n u : Nat) : tail (n + 1) u = dig u n :: tail n u := by
  unfold tail
  rw [List.range_succ_eq_map, List.map_cons, List.map_map]
  congr 1
  apply List.map_congr_left
  intro t _
  show dig u (n + 1 - 1 - (t + 1)) = dig u (n - 1 - t)
  congr 1
  omega
theorem be_tail : ∀ (n u : Nat), u < 256 ^ n → be (tail n u) = u
  | 0, u, h => by
    have : u = 0 := by simpa using h
    subst this; rfl
  | n + 1, u, h => by
    rw [tail_snoc, be_snoc, be_tail n (u / 256) (by rw [Nat.pow_succ] at h; omega), dig_toNat]
    simp
    omega
theorem tail_be : ∀ (l : List UInt8), tail l.length (be l) = l := by
  have main : ∀ (n : Nat) (l : List UInt8), l.length = n → tail n (be l) = l := by
    intro n
    induction n with
    | zero => intro l h; rw [List.length_eq_zero_iff.1 h]; rfl
    | succ n ih =>
      intro l h
      have hne : l ≠ [] := by intro h0; rw [h0] at h; simp at h
      have hl := (List.dropLast_concat_getLast hne).symm
      have hlen : l.dropLast.length = n := by rw [List.length_dropLast]; omega
      generalize l.dropLast = a at *
      generalize l.getLast hne = c at *
      subst hl
      have hc : c.toNat < 256 := UInt8.toNat_lt c
      rw [be_snoc, tail_snoc, show (256 * be a + c.toNat) / 256 = be a by omega, ih a hlen]
      congr 2
      unfold dig
      rw [Nat.pow_zero, Nat.div_one, show (256 * be a + c.toNat) % 256 = c.toNat by omega]
      simp
  exact fun l => main _ l rfl

theorem pow_pos' (n : Nat) : 0 < 256 ^ n := Nat.pow_pos (by omega)
theorem pow_half (n : Nat) (h : 1 ≤ n) : 2 * (256 ^ n / 2) = 256 ^ n := by
  obtain ⟨k, rfl⟩ : ∃ k, n = k + 1 := ⟨n - 1, by omega⟩
  rw [Nat.pow_succ]; omega

theorem bytes_len (v : Int) (n : Nat) : (bytes v n).length = n := tail_len _ _
/-- What is put is got. -/
theorem one_bytes (v size : Int) (hs : isSize size = true) (h : fits v size = true) : one (bytes v size.natAbs) size = v := by
  obtain ⟨w1, w2⟩ := isSize_wide hs
  have hh := pow_half size.natAbs w1
  have hp := pow_pos' size.natAbs
  unfold fits at h
  unfold one
  rw [bytes_len]
  unfold bytes
  generalize 256 ^ size.natAbs / 2 = hf at *
  generalize hP : 256 ^ size.natAbs = P at *
  by_cases hn : size < 0
  · rw [if_pos hn] at h
    simp only [Bool.and_eq_true, decide_eq_true_eq] at h
    by_cases hv : v < 0
    · rw [if_pos hv, be_tail _ _ (by rw [hP]; omega), if_pos ⟨hn, by omega⟩]
      omega
    · rw [if_neg hv, be_tail _ _ (by rw [hP]; omega), if_neg (by intro hc; omega)]
      omega
  · rw [if_neg hn] at h
    simp only [Bool.and_eq_true, decide_eq_true_eq] at h
    rw [if_neg (show ¬ v < 0 by omega), be_tail _ _ (by rw [hP]; omega), if_neg (by intro hc; omega)]
    omega
/-- What is got fits, and is put as it stood. -/
theorem one_fits (l : List UInt8) (size : Int) (hs : isSize size = true) (hl : l.length = size.natAbs) : fits (one l size) size = true := by
  obtain ⟨w1, w2⟩ := isSize_wide hs
  have hh := pow_half size.natAbs w1
  have hb := be_lt l
  unfold fits one
  rw [hl] at hb ⊢
  generalize 256 ^ size.natAbs / 2 = hf at *
  generalize 256 ^ size.natAbs = P at *
  by_cases hn : size < 0
  · rw [if_pos hn]
    by_cases hc : hf ≤ be l
    · rw [if_pos ⟨hn, hc⟩]; simp only [Bool.and_eq_true, decide_eq_true_eq]; omega
    · rw [if_neg (fun h => hc h.2)]; simp only [Bool.and_eq_true, decide_eq_true_eq]; omega
  · rw [if_neg hn, if_neg (fun h => hn h.1)]; simp only [Bool.and_eq_true, decide_eq_true_eq]; omega
theorem bytes_one (l : List UInt8) (size : Int) (hs : isSize size = true) (hl : l.length = size.natAbs) : bytes (one l size) size.natAbs = l := by
  obtain ⟨w1, w2⟩ := isSize_wide hs
  have hh := pow_half size.natAbs w1
  have hb := be_lt l
  have ht := tail_be l
  unfold bytes one
  rw [hl] at hb ht ⊢
  generalize 256 ^ size.natAbs / 2 = hf at *
  generalize 256 ^ size.natAbs = P at *
  by_cases hc : size < 0 ∧ hf ≤ be l
  · rw [if_pos hc, if_pos (by omega), show ((be l : Int) - P + P).toNat = be l by omega]
    exact ht
  · rw [if_neg hc, if_neg (by omega), Int.toNat_natCast]
    exact ht

/-! Rows of fields. -/
def many (sizes : List Int) : Nat := (sizes.map Int.natAbs).sum
theorem many_cons (n : Int) (r : List Int) : many (n :: r) = n.natAbs + many r := by simp [many]
theorem many_append (a b : List Int) : many (a ++ b) = many a + many b := by simp [many]
def fields : List UInt8 → List Int → List Int
  | _, [] => []
  | l, n :: r => one (l.take n.natAbs) n :: fields (l.drop n.natAbs) r
def allSizes (sizes : List Int) : Bool := sizes.all isSize
def get (l : List UInt8) (pos : Int) (sizes : List Int) : List Int × Int :=
  if allSizes sizes = false ∨ pos < 0 then ([], 1)
  else if (l.length : Int) < pos ∨ (l.length : Int) - pos < many sizes then ([], 4)
  else (fields (l.drop pos.toNat) sizes, 0)
def allFit : List Int → List Int → Bool
  | n :: r, v :: s => fits v n && allFit r s
  | _, _ => true
def join : List Int → List Int → List UInt8
  | n :: r, v :: s => bytes v n.natAbs ++ join r s
  | _, _ => []
def put (sizes values : List Int) : List UInt8 × Int :=
  if allSizes sizes = false ∨ sizes.length ≠ values.length then ([], 1)
  else if allFit sizes values = false then ([], 2)
  else (join sizes values, 0)
def piece (l : List UInt8) (pos n : Int) : List UInt8 × Int :=
  if pos < 0 ∨ n < 0 then ([], 1)
  else if (l.length : Int) < pos ∨ (l.length : Int) - pos < n then ([], 4)
  else ((l.drop pos.toNat).take n.toNat, 0)

theorem fields_len : ∀ (l : List UInt8) (sizes : List Int), (fields l sizes).length = sizes.length
  | _, [] => rfl
  | l, n :: r => by rw [fields, List.length_cons, fields_len, List.length_cons]
theorem fields_append : ∀ (l : List UInt8) (a b : List Int), fields l (a ++ b) = fields l a ++ fields (l.drop (many a)) b
  | l, [], b => by simp [fields, many]
  | l, n :: r, b => by
    rw [List.cons_append, fields, fields, fields_append, many_cons, List.cons_append, List.drop_drop, Nat.add_comm]
theorem join_len : ∀ (sizes values : List Int), sizes.length = values.length → (join sizes values).length = many sizes
  | [], [], _ => rfl
  | n :: r, v :: s, h => by
    rw [join, List.length_append, bytes_len, join_len r s (by simpa using h), many_cons]
  | [], v :: s, h => by simp at h
  | n :: r, [], h => by simp at h
/-- Put and got. -/
theorem fields_join : ∀ (sizes values : List Int) (back : List UInt8), sizes.length = values.length → allSizes sizes = true → allFit sizes values = true → fields (join sizes values ++ back) sizes = values
  | [], [], _, _, _, _ => rfl
  | n :: r, v :: s, back, h, hs, hf => by
    simp only [allSizes, List.all_cons, Bool.and_eq_true] at hs
    simp only [allFit, Bool.and_eq_true] at hf
    rw [join, fields, List.append_assoc]
    have e1 : (bytes v n.natAbs ++ (join r s ++ back)).take n.natAbs = bytes v n.natAbs := by
      have := List.take_left (l₁ := bytes v n.natAbs) (l₂ := join r s ++ back)
      rwa [bytes_len] at this
    have e2 : (bytes v n.natAbs ++ (join r s ++ back)).drop n.natAbs = join r s ++ back := by
      have := List.drop_left (l₁ := bytes v n.natAbs) (l₂ := join r s ++ back)
      rwa [bytes_len] at this
    rw [e1, e2, one_bytes v n hs.1 hf.1, fields_join r s back (by simpa using h) hs.2 hf.2]
  | [], v :: s, _, h, _, _ => by simp at h
  | n :: r, [], _, h, _, _ => by simp at h
/-- Got and put. -/
theorem join_fields : ∀ (sizes : List Int) (l : List UInt8), allSizes sizes = true → many sizes ≤ l.length → allFit sizes (fields l sizes) = true ∧ join sizes (fields l sizes) = l.take (many sizes)
  | [], l, _, _ => by simp [allFit, join, many]
  | n :: r, l, hs, hl => by
    simp only [allSizes, List.all_cons, Bool.and_eq_true] at hs
    rw [many_cons] at hl
    have ht : (l.take n.natAbs).length = n.natAbs := by rw [List.length_take]; omega
    obtain ⟨h1, h2⟩ := join_fields r (l.drop n.natAbs) hs.2 (by rw [List.length_drop]; omega)
    rw [fields, allFit, join, h1, h2, one_fits _ n hs.1 ht, bytes_one _ n hs.1 ht, many_cons]
    refine ⟨rfl, ?_⟩
    rw [List.take_add]

theorem put_get (sizes values : List Int) (front back : List UInt8) (h : (put sizes values).2 = 0) :
    get (front ++ (put sizes values).1 ++ back) front.length sizes = (values, 0) := by
  unfold put at *
  by_cases c1 : allSizes sizes = false ∨ sizes.length ≠ values.length
  · rw [if_pos c1] at h; cases h
  · rw [if_neg c1] at h ⊢
    have hs : allSizes sizes = true := by
      cases e : allSizes sizes with
      | true => rfl
      | false => exact absurd (.inl e) c1
    have hl : sizes.length = values.length := by
      by_cases e : sizes.length = values.length
      · exact e
      · exact absurd (.inr e) c1
    by_cases c2 : allFit sizes values = false
    · rw [if_pos c2] at h; cases h
    · rw [if_neg c2]
      have hf : allFit sizes values = true := by simpa using c2
      have hj := join_len sizes values hl
      unfold get
      rw [if_neg (by rw [hs]; simp), if_neg (by simp [hj]; omega)]
      rw [Int.toNat_natCast, List.append_assoc, List.drop_left, fields_join sizes values back hl hs hf]
theorem put_refused (sizes values : List Int) (h : (put sizes values).2 ≠ 0) : (put sizes values).1 = [] := by
  unfold put at *
  by_cases c1 : allSizes sizes = false ∨ sizes.length ≠ values.length
  · rw [if_pos c1]
  · rw [if_neg c1] at h ⊢
    by_cases c2 : allFit sizes values = false
    · rw [if_pos c2]
    · rw [if_neg c2] at h; exact absurd rfl h
theorem get_refused (l : List UInt8) (pos : Int) (sizes : List Int) (h : (get l pos sizes).2 ≠ 0) : (get l pos sizes).1 = [] := by
  unfold get at *
  by_cases c1 : allSizes sizes = false ∨ pos < 0
  · rw [if_pos c1]
  · rw [if_neg c1] at h ⊢
    by_cases c2 : (l.length : Int) < pos ∨ (l.length : Int) - pos < many sizes
    · rw [if_pos c2]
    · rw [if_neg c2] at h; exact absurd rfl h

/-- Two rows, one behind the other. -/
theorem get_joins (l : List UInt8) (pos : Int) (a b : List Int) (h : (get l pos (a ++ b)).2 = 0) :
    (get l pos a).2 = 0 ∧ (get l (pos + many a) b).2 = 0 ∧ (get l pos a).1 ++ (get l (pos + many a) b).1 = (get l pos (a ++ b)).1 ∧
    put (a ++ b) (get l pos (a ++ b)).1 = ((l.drop pos.toNat).take (many (a ++ b)), 0) ∧
    piece l pos ((l.drop pos.toNat).take (many (a ++ b))).length = ((l.drop pos.toNat).take (many (a ++ b)), 0) := by
  unfold get at *
  by_cases c1 : allSizes (a ++ b) = false ∨ pos < 0
  · rw [if_pos c1] at h; cases h
  · rw [if_neg c1] at h
    by_cases c2 : (l.length : Int) < pos ∨ (l.length : Int) - pos < many (a ++ b)
    · rw [if_pos c2] at h; cases h
    · have hp : 0 ≤ pos := by omega
      have hs : allSizes (a ++ b) = true := by
        cases e : allSizes (a ++ b) with
        | true => rfl
        | false => exact absurd (.inl e) c1
      have hsab : allSizes a = true ∧ allSizes b = true := by
        simp only [allSizes, List.all_append, Bool.and_eq_true] at hs; exact hs
      have hm := many_append a b
      have hlen : many (a ++ b) ≤ (l.drop pos.toNat).length := by rw [List.length_drop]; omega
      obtain ⟨j1, j2⟩ := join_fields (a ++ b) (l.drop pos.toNat) hs hlen
      have htl : ((l.drop pos.toNat).take (many (a ++ b))).length = many (a ++ b) := by rw [List.length_take]; omega
      rw [if_neg c1, if_neg c2, if_neg (show ¬ (allSizes a = false ∨ pos < 0) by rw [hsab.1]; simp; omega), if_neg (show ¬ ((l.length : Int) < pos ∨ (l.length : Int) - pos < many a) by omega),
        if_neg (show ¬ (allSizes b = false ∨ pos + many a < 0) by rw [hsab.2]; simp; omega), if_neg (show ¬ ((l.length : Int) < pos + many a ∨ (l.length : Int) - (pos + many a) < many b) by omega)]
      refine ⟨rfl, rfl, ?_, ?_, ?_⟩
      · rw [fields_append, List.drop_drop, show (pos + many a).toNat = pos.toNat + many a by omega]
      · unfold put
        rw [if_neg (by rw [hs, fields_len]; simp), if_neg (by rw [j1]; simp), j2]
      · unfold piece
        rw [htl, if_neg (by omega), if_neg (by omega), Int.toNat_natCast]
end Bn
/-
  Plain facts on sums of bytes (layer 3, bin): Sum and Pad. No conditions.
-/
namespace Bn

/-- With noughts behind, up to a multiple. -/
def up (l : List UInt8) (n : Nat) : List UInt8 := l ++ List.replicate ((n - l.length % n) % n) 0
/-- Numbers of four bytes, one by one. -/
def chunks : Nat → List UInt8 → Nat
  | v, a :: b :: c :: d :: r => chunks ((v + be [a, b, c, d]) % 4294967296) r
  | v, _ => v
def sum (l : List UInt8) : Nat := chunks 0 (up l 4)
def pad (l : List UInt8) (n : Int) : List UInt8 × Int := if n < 1 ∨ 64 < n then ([], 1) else (up l n.toNat, 0)

theorem up_len (l : List UInt8) (n : Nat) : (up l n).length = l.length + (n - l.length % n) % n := by simp [up]
theorem up_mod (l : List UInt8) (n : Nat) (h : 0 < n) : (up l n).length % n = 0 := by
  rw [up_len]
  have hm := Nat.mod_lt l.length h
  have hd := Nat.div_add_mod l.length n
  by_cases h0 : l.length % n = 0
  · rw [h0, Nat.sub_zero, Nat.mod_self, Nat.add_zero, h0]
  · rw [Nat.mod_eq_of_lt (a := n - l.length % n) (by omega)]
    have : l.length + (n - l.length % n) = n * (l.length / n + 1) := by rw [Nat.mul_add, Nat.mul_one]; omega
    rw [this, Nat.mul_mod_right]
theorem up_done (l : List UInt8) (n : Nat) (h : l.length % n = 0) : up l n = l := by
  unfold up
  rw [h, Nat.sub_zero, Nat.mod_self]
  simp
theorem up_step (l : List UInt8) (n : Nat) (h0 : 0 < n) (h : l.length % n ≠ 0) : up (l ++ [0]) n = up l n := by
  have hm := Nat.mod_lt l.length h0
  have hd := Nat.div_add_mod l.length n
  unfold up
  rw [List.append_assoc, List.length_append, List.length_singleton]
  congr 1
  by_cases he : l.length % n + 1 = n
  · have e1 : (l.length + 1) % n = 0 := by
      have : l.length + 1 = n * (l.length / n + 1) := by rw [Nat.mul_add, Nat.mul_one]; omega
      rw [this, Nat.mul_mod_right]
    rw [e1, Nat.sub_zero, Nat.mod_self, Nat.mod_eq_of_lt (a := n - l.length % n) (by omega), show n - l.length % n = 1 by omega]
    rfl
  · have e1 : (l.length + 1) % n = l.length % n + 1 := by
      have : l.length + 1 = (l.length % n + 1) + n * (l.length / n) := by omega
      rw [this, Nat.add_mul_mod_self_left, Nat.mod_eq_of_lt (by omega)]
    rw [e1, Nat.mod_eq_of_lt (a := n - (l.length % n + 1)) (by omega), Nat.mod_eq_of_lt (a := n - l.length % n) (by omega), show n - l.length % n = (n - (l.length % n + 1)) + 1 by omega]
    rfl

theorem chunks_append : ∀ (A : List UInt8) (v : Nat) (B : List UInt8), A.length % 4 = 0 → chunks v (A ++ B) = chunks (chunks v A) B
  | [], v, B, _ => rfl
  | [_], _, _, h => by simp at h
  | [_, _], _, _, h => by simp at h
  | [_, _, _], _, _, h => by simp at h
  | a :: b :: c :: d :: r, v, B, h => by
    show chunks ((v + be [a, b, c, d]) % 4294967296) (r ++ B) = chunks (chunks ((v + be [a, b, c, d]) % 4294967296) r) B
    exact chunks_append r _ B (by simp at h; omega)
theorem chunks_lt : ∀ (l : List UInt8) (v : Nat), v < 4294967296 → chunks v l < 4294967296
  | [], v, h => h
  | [_], v, h => h
  | [_, _], v, h => h
  | [_, _, _], v, h => h
  | a :: b :: c :: d :: r, v, _ => chunks_lt r _ (Nat.mod_lt _ (by omega))
theorem chunks_from : ∀ (l : List UInt8) (v : Nat), v < 4294967296 → chunks v l = (v + chunks 0 l) % 4294967296
  | [], v, h => by show v = (v + 0) % 4294967296; omega
  | [_], v, h => by show v = (v + 0) % 4294967296; omega
  | [_, _], v, h => by show v = (v + 0) % 4294967296; omega
  | [_, _, _], v, h => by show v = (v + 0) % 4294967296; omega
  | a :: b :: c :: d :: r, v, h => by
    show chunks ((v + be [a, b, c, d]) % 4294967296) r = (v + chunks ((0 + be [a, b, c, d]) % 4294967296) r) % 4294967296
    rw [chunks_from r _ (Nat.mod_lt _ (by omega)), chunks_from r ((0 + be [a, b, c, d]) % 4294967296) (Nat.mod_lt _ (by omega))]
    have := be_four a b c d
    omega
theorem sum_lt (l : List UInt8) : sum l < 4294967296 := chunks_lt _ _ (by omega)

theorem up_append (A B : List UInt8) (n : Nat) (h : A.length % n = 0) : up (A ++ B) n = A ++ up B n := by
  unfold up
  rw [List.append_assoc, List.length_append]
  have : (A.length + B.length) % n = B.length % n := by
    have hd := Nat.div_add_mod A.length n
    rw [h, Nat.add_zero] at hd
    rw [← hd, Nat.add_comm, Nat.add_mul_mod_self_left]
  rw [this]
theorem up_up (l : List UInt8) : up (up l 4) 4 = up l 4 := up_done _ _ (up_mod l 4 (by omega))
theorem up_two (l : List UInt8) : up (up l 2) 4 = up l 4 := by
  unfold up
  rw [List.append_assoc, List.replicate_append_replicate]
  congr 2
  rw [List.length_append, List.length_replicate]
  omega
theorem up_one (l : List UInt8) : up l 1 = l := up_done _ _ (Nat.mod_one _)

/-- Pad turns no sum. -/
theorem sum_pad4 (l : List UInt8) : sum (up l 4) = sum l := by unfold sum; rw [up_up]
theorem sum_pad2 (l : List UInt8) : sum (up l 2) = sum l := by unfold sum; rw [up_two]
theorem sum_zeros (l : List UInt8) : sum (0 :: 0 :: 0 :: 0 :: l) = sum l := by
  unfold sum
  have := up_append [0, 0, 0, 0] l 4 rfl
  rw [show (0 :: 0 :: 0 :: 0 :: l : List UInt8) = [0, 0, 0, 0] ++ l from rfl, this]
  rfl
theorem sum_both (l t : List UInt8) : sum (up l 4 ++ t) = (sum l + sum t) % 4294967296 := by
  have h := up_mod l 4 (by omega)
  unfold sum
  rw [up_append _ t 4 h, chunks_append _ _ _ h, chunks_from (up t 4) _ (chunks_lt _ _ (by omega))]
end Bn
/-
  Plain functions on bytes (layer 5, head), with nothing of the program: what three tables tell, got and put; facts on them. No conditions beyond those stated.
-/
namespace He
open Bn

structure Head where
  upem : Int
  glyphs : Int
  metrics : Int
  asc : Int
  desc : Int
  long : Bool
def zero : Head := ⟨0, 0, 0, 0, 0, false⟩
def short (n : Int) : Bool := decide (-32768 ≤ n) && decide (n ≤ 32767)
def isHead (h : Head) : Bool :=
  decide (16 ≤ h.upem) && decide (h.upem ≤ 16384) && decide (1 ≤ h.glyphs) && decide (h.glyphs ≤ 65535) && decide (1 ≤ h.metrics) && decide (h.metrics ≤ h.glyphs) && short h.asc && short h.desc
theorem isHead_iff (h : Head) : isHead h = true ↔ (16 ≤ h.upem ∧ h.upem ≤ 16384) ∧ (1 ≤ h.glyphs ∧ h.glyphs ≤ 65535) ∧ (1 ≤ h.metrics ∧ h.metrics ≤ h.glyphs) ∧ (-32768 ≤ h.asc ∧ h.asc ≤ 32767) ∧ (-32768 ≤ h.desc ∧ h.desc ≤ 32767) := by
  unfold isHead short
  simp only [Bool.and_eq_true, decide_eq_true_eq, and_assoc]
/-- The number of a size at a place. -/
def fld (s : List UInt8) (pos : Nat) (size : Int) : Int := one ((s.drop pos).take size.natAbs) size
def read (a b c : List UInt8) : Head := ⟨fld a 18 2, fld b 4 2, fld c 34 2, fld c 4 (-2), fld c 6 (-2), decide (fld a 50 (-2) = 1)⟩
def get (a b c : List UInt8) : Head × Int :=
  if a.length < 54 ∨ b.length < 6 ∨ c.length < 36 then (zero, 4)
  else if fld a 12 4 ≠ 1594834165 ∨ fld a 50 (-2) < 0 ∨ 1 < fld a 50 (-2) then (zero, 5)
  else if isHead (read a b c) = false then (zero, 5)
  else (read a b c, 0)
def nts (n : Nat) : List UInt8 := List.replicate n 0
def longN (h : Head) : Int := if h.long = true then 1 else 0
def putA (h : Head) : List UInt8 := nts 12 ++ bytes 1594834165 4 ++ nts 2 ++ bytes h.upem 2 ++ nts 30 ++ bytes (longN h) 2 ++ nts 2
def putB (h : Head) : List UInt8 := nts 4 ++ bytes h.glyphs 2
def putC (h : Head) : List UInt8 := nts 4 ++ bytes h.asc 2 ++ bytes h.desc 2 ++ nts 26 ++ bytes h.metrics 2
def put (h : Head) : List UInt8 × List UInt8 × List UInt8 × Int := if isHead h = false then ([], [], [], 1) else (putA h, putB h, putC h, 0)

theorem nts_len (n : Nat) : (nts n).length = n := by simp [nts]
theorem fld_at {s : List UInt8} (a b : List UInt8) (v size : Int) (pos : Nat) (hs : s = a ++ bytes v size.natAbs ++ b) (hp : a.length = pos) (hz : isSize size = true) (hf : fits v size = true) : fld s pos size = v := by
  subst hp
  unfold fld
  rw [hs, List.append_assoc, List.drop_left]
  have e : (bytes v size.natAbs ++ b).take size.natAbs = bytes v size.natAbs := by
    have := List.take_left (l₁ := bytes v size.natAbs) (l₂ := b)
    rwa [bytes_len] at this
  rw [e, one_bytes v size hz hf]
theorem fits2 {v : Int} (h0 : 0 ≤ v) (h1 : v ≤ 65535) : fits v 2 = true := by
  unfold fits; rw [if_neg (by omega)]; simp; omega
theorem fits2s {v : Int} (h0 : -32768 ≤ v) (h1 : v ≤ 32767) : fits v (-2) = true := by
  unfold fits; rw [if_pos (by omega)]; simp; omega
theorem longN_le (h : Head) : 0 ≤ longN h ∧ longN h ≤ 1 := by unfold longN; cases h.long <;> simp

theorem putA_len (h : Head) : (putA h).length = 54 := by simp [putA, nts_len, bytes_len]
theorem putB_len (h : Head) : (putB h).length = 6 := by simp [putB, nts_len, bytes_len]
theorem putC_len (h : Head) : (putC h).length = 36 := by simp [putC, nts_len, bytes_len]
/-- What is put is got, whatever stands behind. -/
theorem get_more (h : Head) (hh : isHead h = true) (m1 m2 m3 : List UInt8) : get (putA h ++ m1) (putB h ++ m2) (putC h ++ m3) = (h, 0) := by
  obtain ⟨⟨a1, a2⟩, ⟨b1, b2⟩, ⟨c1, c2⟩, ⟨d1, d2⟩, ⟨e1, e2⟩⟩ := (isHead_iff h).1 hh
  obtain ⟨l1, l2⟩ := longN_le h
  have fm : fld (putA h ++ m1) 12 4 = 1594834165 := fld_at (nts 12) (nts 2 ++ bytes h.upem 2 ++ nts 30 ++ bytes (longN h) 2 ++ nts 2 ++ m1) _ 4 12 (by simp only [putA, List.append_assoc]; rfl) (nts_len _) (by decide) (by decide)
  have fu : fld (putA h ++ m1) 18 2 = h.upem := fld_at (nts 12 ++ bytes 1594834165 4 ++ nts 2) (nts 30 ++ bytes (longN h) 2 ++ nts 2 ++ m1) _ 2 18 (by simp only [putA, List.append_assoc]; rfl) (by simp [nts_len, bytes_len]) (by decide) (fits2 (by omega) (by omega))
  have fl : fld (putA h ++ m1) 50 (-2) = longN h := fld_at (nts 12 ++ bytes 1594834165 4 ++ nts 2 ++ bytes h.upem 2 ++ nts 30) (nts 2 ++ m1) _ (-2) 50 (by simp only [putA, List.append_assoc]; rfl) (by simp [nts_len, bytes_len]) (by decide) (fits2s (by omega) (by omega))
  have fg : fld (putB h ++ m2) 4 2 = h.glyphs := fld_at (nts 4) m2 _ 2 4 (by simp only [putB, List.append_assoc]; rfl) (nts_len _) (by decide) (fits2 (by omega) (by omega))
  have fa : fld (putC h ++ m3) 4 (-2) = h.asc := fld_at (nts 4) (bytes h.desc 2 ++ nts 26 ++ bytes h.metrics 2 ++ m3) _ (-2) 4 (by simp only [putC, List.append_assoc]; rfl) (nts_len _) (by decide) (fits2s (by omega) (by omega))
  have fd : fld (putC h ++ m3) 6 (-2) = h.desc := fld_at (nts 4 ++ bytes h.asc 2) (nts 26 ++ bytes h.metrics 2 ++ m3) _ (-2) 6 (by simp only [putC, List.append_assoc]; rfl) (by simp [nts_len, bytes_len]) (by decide) (fits2s (by omega) (by omega))
  have fn : fld (putC h ++ m3) 34 2 = h.metrics := fld_at (nts 4 ++ bytes h.asc 2 ++ bytes h.desc 2 ++ nts 26) m3 _ 2 34 (by simp only [putC, List.append_assoc]; rfl) (by simp [nts_len, bytes_len]) (by decide) (fits2 (by omega) (by omega))
  have hr : read (putA h ++ m1) (putB h ++ m2) (putC h ++ m3) = h := by
    unfold read
    rw [fu, fg, fn, fa, fd, fl]
    cases h with
    | mk u g m a d l => cases l <;> simp [longN]
  unfold get
  rw [hr, fm, fl, hh, if_neg (by simp only [List.length_append, putA_len, putB_len, putC_len]; omega), if_neg (by omega), if_neg (by simp)]
theorem get_put (h : Head) (hh : isHead h = true) : get (putA h) (putB h) (putC h) = (h, 0) := by
  have := get_more h hh [] [] []
  simpa using this
theorem get_ok {a b c : List UInt8} (h : (get a b c).2 = 0) : isHead (get a b c).1 = true := by
  unfold get at *
  by_cases c1 : a.length < 54 ∨ b.length < 6 ∨ c.length < 36
  · rw [if_pos c1] at h; cases h
  · rw [if_neg c1] at h ⊢
    by_cases c2 : fld a 12 4 ≠ 1594834165 ∨ fld a 50 (-2) < 0 ∨ 1 < fld a 50 (-2)
    · rw [if_pos c2] at h; cases h
    · rw [if_neg c2] at h ⊢
      by_cases c3 : isHead (read a b c) = false
      · rw [if_pos c3] at h; cases h
      · rw [if_neg c3]; simpa using c3
theorem get_none {a b c : List UInt8} (h : (get a b c).2 ≠ 0) : (get a b c).1 = zero := by
  unfold get at *
  by_cases c1 : a.length < 54 ∨ b.length < 6 ∨ c.length < 36
  · rw [if_pos c1]
  · rw [if_neg c1] at h ⊢
    by_cases c2 : fld a 12 4 ≠ 1594834165 ∨ fld a 50 (-2) < 0 ∨ 1 < fld a 50 (-2)
    · rw [if_pos c2]
    · rw [if_neg c2] at h ⊢
      by_cases c3 : isHead (read a b c) = false
      · rw [if_pos c3]
      · rw [if_neg c3] at h; exact absurd rfl h
theorem fld_set {s : List UInt8} {p pos : Nat} {size : Int} {x : UInt8} (h : p < pos ∨ pos + size.natAbs ≤ p) : fld (s.set p x) pos size = fld s pos size := by
  unfold fld
  rcases h with h | h
  · rw [List.drop_set_of_lt h]
  · rw [List.drop_set, if_neg (by omega), List.take_set_of_le (by omega)]
/-- A byte that plays no part may be another one. -/
theorem get_set {a b c : List UInt8} {p : Nat} {x : UInt8} (h : ¬ (12 ≤ p ∧ p < 16 ∨ 18 ≤ p ∧ p < 20 ∨ 50 ≤ p ∧ p < 52)) : get (a.set p x) b c = get a b c := by
  have e1 : fld (a.set p x) 12 4 = fld a 12 4 := fld_set (by simp; omega)
  have e2 : fld (a.set p x) 18 2 = fld a 18 2 := fld_set (by simp; omega)
  have e3 : fld (a.set p x) 50 (-2) = fld a 50 (-2) := fld_set (by simp; omega)
  unfold get read
  rw [e1, e2, e3, List.length_set]
end He
