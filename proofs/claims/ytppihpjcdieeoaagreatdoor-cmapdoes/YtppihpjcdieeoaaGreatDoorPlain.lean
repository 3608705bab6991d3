/-
  Facts that the walks rest on: BnMath, BnSums, HeMath, HmMath, BnChanged, SfMath, GlMath, ChMath, SgMath, SgPut, SgPow. No conditions beyond those stated.
-/
import Derived.WalkKit
import Derived.Lib.BitFns
/-
  Plain functions on bytes (layer 3, bin), with nothing of the program: what Get, Put, Piece, Sum and Pad come to, and facts on them. No conditions.
-/
namespace Bn

/-- A size of a field. -/
def isSize (n : Int) : Bool := (decide (1 ≤ n) && decide (n ≤ 4)) || (decide (-4 ≤ n) && decide (n ≤ -1))
theorem isSize_iff (n : Int) : isSize n = true ↔ (1 ≤ n ∧ n ≤ 4) ∨ (-4 ≤ n ∧ n ≤ -1) := by simp [isSize]
theorem isSize_wide {n : Int} (h : isSize n = true) : 1 ≤ n.natAbs ∧ n.natAbs ≤ 4 := by
  rw [isSize_iff] at h; omega

/-- The number that bytes are, the first one greatest. -/
def be (l : List UInt8) : Nat := l.foldl (fun v c => 256 * v + c.toNat) 0
theorem be_snoc (l : List UInt8) (c : UInt8) : be (l ++ [c]) = 256 * be l + c.toNat := by simp [be, List.foldl_append]
theorem fold_lt : ∀ (l : List UInt8) (v : Nat), l.foldl (fun v c => 256 * v + c.toNat) v < (v + 1) * 256 ^ l.length
  | [], v => by simp
  | c :: l, v => by
    have h1 := fold_lt l (256 * v + c.toNat)
    have h2 : c.toNat < 256 := UInt8.toNat_lt c
    rw [List.foldl_cons, List.length_cons, Nat.pow_succ, Nat.mul_comm (256 ^ l.length) 256, ← Nat.mul_assoc]
    exact Nat.lt_of_lt_of_le h1 (Nat.mul_le_mul_right _ (by omega))
theorem be_lt (l : List UInt8) : be l < 256 ^ l.length := by
  have := fold_lt l 0
  simpa [be] using this
theorem be_four (a b c d : UInt8) : be [a, b, c, d] < 4294967296 := by
  have := be_lt [a, b, c, d]
  simpa using this

/-- The number of a field. -/
def one (l : List UInt8) (size : Int) : Int := if size < 0 ∧ 256 ^ l.length / 2 ≤ be l then (be l : Int) - ((256 ^ l.length : Nat) : Int) else (be l : Int)
/-- Does a value fit a size? -/
def fits (v size : Int) : Bool :=
  if size < 0 then decide (-((256 ^ size.natAbs / 2 : Nat) : Int) ≤ v) && decide (v < ((256 ^ size.natAbs / 2 : Nat) : Int)) else decide (0 ≤ v) && decide (v < ((256 ^ size.natAbs : Nat) : Int))
/-- The last n digits of a number, to the base 256. -/
def dig (u j : Nat) : UInt8 := UInt8.ofNat (u / 256 ^ j % 256)
def tail (n u : Nat) : List UInt8 := (List.range n).map fun t => dig u (n - 1 - t)
/-- The bytes of a value, so many. -/
def bytes (v : Int) (n : Nat) : List UInt8 := tail n (if v < 0 then v + ((256 ^ n : Nat) : Int) else v).toNat

theorem dig_toNat (u j : Nat) : (dig u j).toNat = u / 256 ^ j % 256 := by
  unfold dig
  have : u / 256 ^ j % 256 < 256 := Nat.mod_lt _ (by omega)
  rw [UInt8.toNat_ofNat_of_lt' (by simpa [UInt8.size] using this)]
theorem dig_succ (u j : Nat) : dig u (j + 1) = dig (u / 256) j := by
  unfold dig
  rw [Nat.pow_succ, Nat.mul_comm, ← Nat.div_div_eq_div_mul]
theorem tail_len (n u : Nat) : (tail n u).length = n := by simp [tail]
theorem tail_snoc (n u : Nat) : tail (n + 1) u = tail n (u / 256) ++ [dig u 0] := by
  unfold tail
  rw [List.range_succ, List.map_append]
  congr 1
  · apply List.map_congr_left
    intro t ht
    have : t < n := List.mem_range.1 ht
    rw [show n + 1 - 1 - t = (n - 1 - t) + 1 by omega, dig_succ]
  · simp
theorem tail_cons (n u : Nat) : tail (n + 1) u = dig u n :: tail n u := by
  unfold tail
  rw [List.range_succ_eq_map, List.map_cons, List.map_map]
  congr 1
  apply List.map_congr_left
  intro t _
  show dig u (n + 1 - 1 - (t + 1)) = dig u (n - 1 - t)
  congr 1
  omega
theorem be_tail : ∀ (n u : Nat), u < 256 ^ n → be (tail n u) = u
  | 0, u, h => by
    have : u = 0 := by simpa using h
    subst this; rfl
  | n + 1, u, h => by
    rw [tail_snoc, be_snoc, be_tail n (u / 256) (by rw [Nat.pow_succ] at h; omega), dig_toNat]
    simp
    omega
theorem tail_be : ∀ (l : List UInt8), tail l.length (be l) = l := by
  have main : ∀ (n : Nat) (l : List UInt8), l.length = n → tail n (be l) = l := by
    intro n
    induction n with
    | zero => intro l h; rw [List.length_eq_zero_iff.1 h]; rfl
    | succ n ih =>
      intro l h
      have hne : l ≠ [] := by intro h0; rw [h0] at h; simp at h
      have hl := (List.dropLast_concat_getLast hne).symm
      have hlen : l.dropLast.length = n := by rw [List.length_dropLast]; omega
      generalize l.dropLast = a at *
      generalize l.getLast hne = c at *
      subst hl
      have hc : c.toNat < 256 := UInt8.toNat_lt c
      rw [be_snoc, tail_snoc, show (256 * be a + c.toNat) / 256 = be a by omega, ih a hlen]
      congr 2
      unfold dig
      rw [Nat.pow_zero, Nat.div_one, show (256 * be a + c.toNat) % 256 = c.toNat by omega]
      simp
  exact fun l => main _ l rfl

theorem pow_pos' (n : Nat) : 0 < 256 ^ n := Nat.pow_pos (by omega)
theorem pow_half (n : Nat) (h : 1 ≤ n) : 2 * (256 ^ n / 2) = 256 ^ n := by
  obtain ⟨k, rfl⟩ : ∃ k, n = k + 1 := ⟨n - 1, by omega⟩
  rw [Nat.pow_succ]; omega

theorem bytes_len (v : Int) (n : Nat) : (bytes v n).length = n := tail_len _ _
/-- What is put is got. -/
theorem one_bytes (v size : Int) (hs : isSize size = true) (h : fits v size = true) : one (bytes v size.natAbs) size = v := by
  obtain ⟨w1, w2⟩ := isSize_wide hs
  have hh := pow_half size.natAbs w1
  have hp := pow_pos' size.natAbs
  unfold fits at h
  unfold one
  rw [bytes_len]
  unfold bytes
  generalize 256 ^ size.natAbs / 2 = hf at *
  generalize hP : 256 ^ size.natAbs = P at *
  by_cases hn : size < 0
  · rw [if_pos hn] at h
    simp only [Bool.and_eq_true, decide_eq_true_eq] at h
    by_cases hv : v < 0
    · rw [if_pos hv, be_tail _ _ (by rw [hP]; omega), if_pos ⟨hn, by omega⟩]
      omega
    · rw [if_neg hv, be_tail _ _ (by rw [hP]; omega), if_neg (by intro hc; omega)]
      omega
  · rw [if_neg hn] at h
    simp only [Bool.and_eq_true, decide_eq_true_eq] at h
    rw [if_neg (show ¬ v < 0 by omega), be_tail _ _ (by rw [hP]; omega), if_neg (by intro hc; omega)]
    omega
/-- What is got fits, and is put as it stood. -/
theorem one_fits (l : List UInt8) (size : Int) (hs : isSize size = true) (hl : l.length = size.natAbs) : fits (one l size) size = true := by
  obtain ⟨w1, w2⟩ := isSize_wide hs
  have hh := pow_half size.natAbs w1
  have hb := be_lt l
  unfold fits one
  rw [hl] at hb ⊢
  generalize 256 ^ size.natAbs / 2 = hf at *
  generalize 256 ^ size.natAbs = P at *
  by_cases hn : size < 0
  · rw [if_pos hn]
    by_cases hc : hf ≤ be l
    · rw [if_pos ⟨hn, hc⟩]; simp only [Bool.and_eq_true, decide_eq_true_eq]; omega
    · rw [if_neg (fun h => hc h.2)]; simp only [Bool.and_eq_true, decide_eq_true_eq]; omega
  · rw [if_neg hn, if_neg (fun h => hn h.1)]; simp only [Bool.and_eq_true, decide_eq_true_eq]; omega
theorem bytes_one (l : List UInt8) (size : Int) (hs : isSize size = true) (hl : l.length = size.natAbs) : bytes (one l size) size.natAbs = l := by
  obtain ⟨w1, w2⟩ := isSize_wide hs
  have hh := pow_half size.natAbs w1
  have hb := be_lt l
  have ht := tail_be l
  unfold bytes one
  rw [hl] at hb ht ⊢
  generalize 256 ^ size.natAbs / 2 = hf at *
  generalize 256 ^ size.natAbs = P at *
  by_cases hc : size < 0 ∧ hf ≤ be l
  · rw [if_pos hc, if_pos (by omega), show ((be l : Int) - P + P).toNat = be l by omega]
    exact ht
  · rw [if_neg hc, if_neg (by omega), Int.toNat_natCast]
    exact ht

/-! Rows of fields. -/
def many (sizes : List Int) : Nat := (sizes.map Int.natAbs).sum
theorem many_cons (n : Int) (r : List Int) : many (n :: r) = n.natAbs + many r := by simp [many]
theorem many_append (a b : List Int) : many (a ++ b) = many a + many b := by simp [many]
def fields : List UInt8 → List Int → List Int
  | _, [] => []
  | l, n :: r => one (l.take n.natAbs) n :: fields (l.drop n.natAbs) r
def allSizes (sizes : List Int) : Bool := sizes.all isSize
def get (l : List UInt8) (pos : Int) (sizes : List Int) : List Int × Int :=
  if allSizes sizes = false ∨ pos < 0 then ([], 1)
  else if (l.length : Int) < pos ∨ (l.length : Int) - pos < many sizes then ([], 4)
  else (fields (l.drop pos.toNat) sizes, 0)
def allFit : List Int → List Int → Bool
  | n :: r, v :: s => fits v n && allFit r s
  | _, _ => true
def join : List Int → List Int → List UInt8
  | n :: r, v :: s => bytes v n.natAbs ++ join r s
  | _, _ => []
def put (sizes values : List Int) : List UInt8 × Int :=
  if allSizes sizes = false ∨ sizes.length ≠ values.length then ([], 1)
  else if allFit sizes values = false then ([], 2)
  else (join sizes values, 0)
def piece (l : List UInt8) (pos n : Int) : List UInt8 × Int :=
  if pos < 0 ∨ n < 0 then ([], 1)
  else if (l.length : Int) < pos ∨ (l.length : Int) - pos < n then ([], 4)
  else ((l.drop pos.toNat).take n.toNat, 0)

theorem fields_len : ∀ (l : List UInt8) (sizes : List Int), (fields l sizes).length = sizes.length
  | _, [] => rfl
  | l, n :: r => by rw [fields, List.length_cons, fields_len, List.length_cons]
theorem fields_append : ∀ (l : List UInt8) (a b : List Int), fields l (a ++ b) = fields l a ++ fields (l.drop (many a)) b
  | l, [], b => by simp [fields, many]
  | l, n :: r, b => by
    rw [List.cons_append, fields, fields, fields_append, many_cons, List.cons_append, List.drop_drop, Nat.add_comm]
theorem join_len : ∀ (sizes values : List Int), sizes.length = values.length → (join sizes values).length = many sizes
  | [], [], _ => rfl
  | n :: r, v :: s, h => by
    rw [join, List.length_append, bytes_len, join_len r s (by simpa using h), many_cons]
  | [], v :: s, h => by simp at h
  | n :: r, [], h => by simp at h
/-- Put and got. -/
theorem fields_join : ∀ (sizes values : List Int) (back : List UInt8), sizes.length = values.length → allSizes sizes = true → allFit sizes values = true → fields (join sizes values ++ back) sizes = values
  | [], [], _, _, _, _ => rfl
  | n :: r, v :: s, back, h, hs, hf => by
    simp only [allSizes, List.all_cons, Bool.and_eq_true] at hs
    simp only [allFit, Bool.and_eq_true] at hf
    rw [join, fields, List.append_assoc]
    have e1 : (bytes v n.natAbs ++ (join r s ++ back)).take n.natAbs = bytes v n.natAbs := by
      have := List.take_left (l₁ := bytes v n.natAbs) (l₂ := join r s ++ back)
      rwa [bytes_len] at this
    have e2 : (bytes v n.natAbs ++ (join r s ++ back)).drop n.natAbs = join r s ++ back := by
      have := List.drop_left (l₁ := bytes v n.natAbs) (l₂ := join r s ++ back)
      rwa [bytes_len] at this
    rw [e1, e2, one_bytes v n hs.1 hf.1, fields_join r s back (by simpa using h) hs.2 hf.2]
  | [], v :: s, _, h, _, _ => by simp at h
  | n :: r, [], _, h, _, _ => by simp at h
/-- Got and put. -/
theorem join_fields : ∀ (sizes : List Int) (l : List UInt8), allSizes sizes = true → many sizes ≤ l.length → allFit sizes (fields l sizes) = true ∧ join sizes (fields l sizes) = l.take (many sizes)
  | [], l, _, _ => by simp [allFit, join, many]
  | n :: r, l, hs, hl => by
    simp only [allSizes, List.all_cons, Bool.and_eq_true] at hs
    rw [many_cons] at hl
    have ht : (l.take n.natAbs).length = n.natAbs := by rw [List.length_take]; omega
    obtain ⟨h1, h2⟩ := join_fields r (l.drop n.natAbs) hs.2 (by rw [List.length_drop]; omega)
    rw [fields, allFit, join, h1, h2, one_fits _ n hs.1 ht, bytes_one _ n hs.1 ht, many_cons]
    refine ⟨rfl, ?_⟩
    rw [List.take_add]

theorem put_get (sizes values : List Int) (front back : List UInt8) (h : (put sizes values).2 = 0) :
    get (front ++ (put sizes values).1 ++ back) front.length sizes = (values, 0) := by
  unfold put at *
  by_cases c1 : allSizes sizes = false ∨ sizes.length ≠ values.length
  · rw [if_pos c1] at h; cases h
  · rw [if_neg c1] at h ⊢
    have hs : allSizes sizes = true := by
      cases e : allSizes sizes with
      | true => rfl
      | false => exact absurd (.inl e) c1
    have hl : sizes.length = values.length := by
      by_cases e : sizes.length = values.length
      · exact e
      · exact absurd (.inr e) c1
    by_cases c2 : allFit sizes values = false
    · rw [if_pos c2] at h; cases h
    · rw [if_neg c2]
      have hf : allFit sizes values = true := by simpa using c2
      have hj := join_len sizes values hl
      unfold get
      rw [if_neg (by rw [hs]; simp), if_neg (by simp [hj]; omega)]
      rw [Int.toNat_natCast, List.append_assoc, List.drop_left, fields_join sizes values back hl hs hf]
theorem put_refused (sizes values : List Int) (h : (put sizes values).2 ≠ 0) : (put sizes values).1 = [] := by
  unfold put at *
  by_cases c1 : allSizes sizes = false ∨ sizes.length ≠ values.length
  · rw [if_pos c1]
  · rw [if_neg c1] at h ⊢
    by_cases c2 : allFit sizes values = false
    · rw [if_pos c2]
    · rw [if_neg c2] at h; exact absurd rfl h
theorem get_refused (l : List UInt8) (pos : Int) (sizes : List Int) (h : (get l pos sizes).2 ≠ 0) : (get l pos sizes).1 = [] := by
  unfold get at *
  by_cases c1 : allSizes sizes = false ∨ pos < 0
  · rw [if_pos c1]
  · rw [if_neg c1] at h ⊢
    by_cases c2 : (l.length : Int) < pos ∨ (l.length : Int) - pos < many sizes
    · rw [if_pos c2]
    · rw [if_neg c2] at h; exact absurd rfl h

/-- Two rows, one behind the other. -/
theorem get_joins (l : List UInt8) (pos : Int) (a b : List Int) (h : (get l pos (a ++ b)).2 = 0) :
    (get l pos a).2 = 0 ∧ (get l (pos + many a) b).2 = 0 ∧ (get l pos a).1 ++ (get l (pos + many a) b).1 = (get l pos (a ++ b)).1 ∧
    put (a ++ b) (get l pos (a ++ b)).1 = ((l.drop pos.toNat).take (many (a ++ b)), 0) ∧
    piece l pos ((l.drop pos.toNat).take (many (a ++ b))).length = ((l.drop pos.toNat).take (many (a ++ b)), 0) := by
  unfold get at *
  by_cases c1 : allSizes (a ++ b) = false ∨ pos < 0
  · rw [if_pos c1] at h; cases h
  · rw [if_neg c1] at h
    by_cases c2 : (l.length : Int) < pos ∨ (l.length : Int) - pos < many (a ++ b)
    · rw [if_pos c2] at h; cases h
    · have hp : 0 ≤ pos := by omega
      have hs : allSizes (a ++ b) = true := by
        cases e : allSizes (a ++ b) with
        | true => rfl
        | false => exact absurd (.inl e) c1
      have hsab : allSizes a = true ∧ allSizes b = true := by
        simp only [allSizes, List.all_append, Bool.and_eq_true] at hs; exact hs
      have hm := many_append a b
      have hlen : many (a ++ b) ≤ (l.drop pos.toNat).length := by rw [List.length_drop]; omega
      obtain ⟨j1, j2⟩ := join_fields (a ++ b) (l.drop pos.toNat) hs hlen
      have htl : ((l.drop pos.toNat).take (many (a ++ b))).length = many (a ++ b) := by rw [List.length_take]; omega
      rw [if_neg c1, if_neg c2, if_neg (show ¬ (allSizes a = false ∨ pos < 0) by rw [hsab.1]; simp; omega), if_neg (show ¬ ((l.length : Int) < pos ∨ (l.length : Int) - pos < many a) by omega),
        if_neg (show ¬ (allSizes b = false ∨ pos + many a < 0) by rw [hsab.2]; simp; omega), if_neg (show ¬ ((l.length : Int) < pos + many a ∨ (l.length : Int) - (pos + many a) < many b) by omega)]
      refine ⟨rfl, rfl, ?_, ?_, ?_⟩
      · rw [fields_append, List.drop_drop, show (pos + many a).toNat = pos.toNat + many a by omega]
      · unfold put
        rw [if_neg (by rw [hs, fields_len]; simp), if_neg (by rw [j1]; simp), j2]
      · unfold piece
        rw [htl, if_neg (by omega), if_neg (by omega), Int.toNat_natCast]
end Bn
/-
  Plain facts on sums of bytes (layer 3, bin): Sum and Pad. No conditions.
-/
namespace Bn

/-- With noughts behind, up to a multiple. -/
def up (l : List UInt8) (n : Nat) : List UInt8 := l ++ List.replicate ((n - l.length % n) % n) 0
/-- Numbers of four bytes, one by one. -/
def chunks : Nat → List UInt8 → Nat
  | v, a :: b :: c :: d :: r => chunks ((v + be [a, b, c, d]) % 4294967296) r
  | v, _ => v
def sum (l : List UInt8) : Nat := chunks 0 (up l 4)
def pad (l : List UInt8) (n : Int) : List UInt8 × Int := if n < 1 ∨ 64 < n then ([], 1) else (up l n.toNat, 0)

theorem up_len (l : List UInt8) (n : Nat) : (up l n).length = l.length + (n - l.length % n) % n := by simp [up]
theorem up_mod (l : List UInt8) (n : Nat) (h : 0 < n) : (up l n).length % n = 0 := by
  rw [up_len]
  have hm := Nat.mod_lt l.length h
  have hd := Nat.div_add_mod l.length n
  by_cases h0 : l.length % n = 0
  · rw [h0, Nat.sub_zero, Nat.mod_self, Nat.add_zero, h0]
  · rw [Nat.mod_eq_of_lt (a := n - l.length % n) (by omega)]
    have : l.length + (n - l.length % n) = n * (l.length / n + 1) := by rw [Nat.mul_add, Nat.mul_one]; omega
    rw [this, Nat.mul_mod_right]
theorem up_done (l : List UInt8) (n : Nat) (h : l.length % n = 0) : up l n = l := by
  unfold up
  rw [h, Nat.sub_zero, Nat.mod_self]
  simp
theorem up_step (l : List UInt8) (n : Nat) (h0 : 0 < n) (h : l.length % n ≠ 0) : up (l ++ [0]) n = up l n := by
  have hm := Nat.mod_lt l.length h0
  have hd := Nat.div_add_mod l.length n
  unfold up
  rw [List.append_assoc, List.length_append, List.length_singleton]
  congr 1
  by_cases he : l.length % n + 1 = n
  · have e1 : (l.length + 1) % n = 0 := by
      have : l.length + 1 = n * (l.length / n + 1) := by rw [Nat.mul_add, Nat.mul_one]; omega
      rw [this, Nat.mul_mod_right]
    rw [e1, Nat.sub_zero, Nat.mod_self, Nat.mod_eq_of_lt (a := n - l.length % n) (by omega), show n - l.length % n = 1 by omega]
    rfl
  · have e1 : (l.length + 1) % n = l.length % n + 1 := by
      have : l.length + 1 = (l.length % n + 1) + n * (l.length / n) := by omega
      rw [this, Nat.add_mul_mod_self_left, Nat.mod_eq_of_lt (by omega)]
    rw [e1, Nat.mod_eq_of_lt (a := n - (l.length % n + 1)) (by omega), Nat.mod_eq_of_lt (a := n - l.length % n) (by omega), show n - l.length % n = (n - (l.length % n + 1)) + 1 by omega]
    rfl

theorem chunks_append : ∀ (A : List UInt8) (v : Nat) (B : List UInt8), A.length % 4 = 0 → chunks v (A ++ B) = chunks (chunks v A) B
  | [], v, B, _ => rfl
  | [_], _, _, h => by simp at h
  | [_, _], _, _, h => by simp at h
  | [_, _, _], _, _, h => by simp at h
  | a :: b :: c :: d :: r, v, B, h => by
    show chunks ((v + be [a, b, c, d]) % 4294967296) (r ++ B) = chunks (chunks ((v + be [a, b, c, d]) % 4294967296) r) B
    exact chunks_append r _ B (by simp at h; omega)
theorem chunks_lt : ∀ (l : List UInt8) (v : Nat), v < 4294967296 → chunks v l < 4294967296
  | [], v, h => h
  | [_], v, h => h
  | [_, _], v, h => h
  | [_, _, _], v, h => h
  | a :: b :: c :: d :: r, v, _ => chunks_lt r _ (Nat.mod_lt _ (by omega))
theorem chunks_from : ∀ (l : List UInt8) (v : Nat), v < 4294967296 → chunks v l = (v + chunks 0 l) % 4294967296
  | [], v, h => by show v = (v + 0) % 4294967296; omega
  | [_], v, h => by show v = (v + 0) % 4294967296; omega
  | [_, _], v, h => by show v = (v + 0) % 4294967296; omega
  | [_, _, _], v, h => by show v = (v + 0) % 4294967296; omega
  | a :: b :: c :: d :: r, v, h => by
    show chunks ((v + be [a, b, c, d]) % 4294967296) r = (v + chunks ((0 + be [a, b, c, d]) % 4294967296) r) % 4294967296
    rw [chunks_from r _ (Nat.mod_lt _ (by omega)), chunks_from r ((0 + be [a, b, c, d]) % 4294967296) (Nat.mod_lt _ (by omega))]
    have := be_four a b c d
    omega
theorem sum_lt (l : List UInt8) : sum l < 4294967296 := chunks_lt _ _ (by omega)

theorem up_append (A B : List UInt8) (n : Nat) (h : A.length % n = 0) : up (A ++ B) n = A ++ up B n := by
  unfold up
  rw [List.append_assoc, List.length_append]
  have : (A.length + B.length) % n = B.length % n := by
    have hd := Nat.div_add_mod A.length n
    rw [h, Nat.add_zero] at hd
    rw [← hd, Nat.add_comm, Nat.add_mul_mod_self_left]
  rw [this]
theorem up_up (l : List UInt8) : up (up l 4) 4 = up l 4 := up_done _ _ (up_mod l 4 (by omega))
theorem up_two (l : List UInt8) : up (up l 2) 4 = up l 4 := by
  unfold up
  rw [List.append_assoc, List.replicate_append_replicate]
  congr 2
  rw [List.length_append, List.length_replicate]
  omega
theorem up_one (l : List UInt8) : up l 1 = l := up_done _ _ (Nat.mod_one _)

/-- Pad turns no sum. -/
theorem sum_pad4 (l : List UInt8) : sum (up l 4) = sum l := by unfold sum; rw [up_up]
theorem sum_pad2 (l : List UInt8) : sum (up l 2) = sum l := by unfold sum; rw [up_two]
theorem sum_zeros (l : List UInt8) : sum (0 :: 0 :: 0 :: 0 :: l) = sum l := by
  unfold sum
  have := up_append [0, 0, 0, 0] l 4 rfl
  rw [show (0 :: 0 :: 0 :: 0 :: l : List UInt8) = [0, 0, 0, 0] ++ l from rfl, this]
  rfl
theorem sum_both (l t : List UInt8) : sum (up l 4 ++ t) = (sum l + sum t) % 4294967296 := by
  have h := up_mod l 4 (by omega)
  unfold sum
  rw [up_append _ t 4 h, chunks_append _ _ _ h, chunks_from (up t 4) _ (chunks_lt _ _ (by omega))]
end Bn
/-
  Plain functions on bytes (layer 5, head), with nothing of the program: what three tables tell, got and put; facts on them. No conditions beyond those stated.
-/
namespace He
open Bn

structure Head where
  upem : Int
  glyphs : Int
  metrics : Int
  asc : Int
  desc : Int
  long : Bool
def zero : Head := ⟨0, 0, 0, 0, 0, false⟩
def short (n : Int) : Bool := decide (-32768 ≤ n) && decide (n ≤ 32767)
def isHead (h : Head) : Bool :=
  decide (16 ≤ h.upem) && decide (h.upem ≤ 16384) && decide (1 ≤ h.glyphs) && decide (h.glyphs ≤ 65535) && decide (1 ≤ h.metrics) && decide (h.metrics ≤ h.glyphs) && short h.asc && short h.desc
theorem isHead_iff (h : Head) : isHead h = true ↔ (16 ≤ h.upem ∧ h.upem ≤ 16384) ∧ (1 ≤ h.glyphs ∧ h.glyphs ≤ 65535) ∧ (1 ≤ h.metrics ∧ h.metrics ≤ h.glyphs) ∧ (-32768 ≤ h.asc ∧ h.asc ≤ 32767) ∧ (-32768 ≤ h.desc ∧ h.desc ≤ 32767) := by
  unfold isHead short
  simp only [Bool.and_eq_true, decide_eq_true_eq, and_assoc]
/-- The number of a size at a place. -/
def fld (s : List UInt8) (pos : Nat) (size : Int) : Int := one ((s.drop pos).take size.natAbs) size
def read (a b c : List UInt8) : Head := ⟨fld a 18 2, fld b 4 2, fld c 34 2, fld c 4 (-2), fld c 6 (-2), decide (fld a 50 (-2) = 1)⟩
def get (a b c : List UInt8) : Head × Int :=
  if a.length < 54 ∨ b.length < 6 ∨ c.length < 36 then (zero, 4)
  else if fld a 12 4 ≠ 1594834165 ∨ fld a 50 (-2) < 0 ∨ 1 < fld a 50 (-2) then (zero, 5)
  else if isHead (read a b c) = false then (zero, 5)
  else (read a b c, 0)
def nts (n : Nat) : List UInt8 := List.replicate n 0
def longN (h : Head) : Int := if h.long = true then 1 else 0
def putA (h : Head) : List UInt8 := nts 12 ++ bytes 1594834165 4 ++ nts 2 ++ bytes h.upem 2 ++ nts 30 ++ bytes (longN h) 2 ++ nts 2
def putB (h : Head) : List UInt8 := nts 4 ++ bytes h.glyphs 2
def putC (h : Head) : List UInt8 := nts 4 ++ bytes h.asc 2 ++ bytes h.desc 2 ++ nts 26 ++ bytes h.metrics 2
def put (h : Head) : List UInt8 × List UInt8 × List UInt8 × Int := if isHead h = false then ([], [], [], 1) else (putA h, putB h, putC h, 0)

theorem nts_len (n : Nat) : (nts n).length = n := by simp [nts]
theorem fld_at {s : List UInt8} (a b : List UInt8) (v size : Int) (pos : Nat) (hs : s = a ++ bytes v size.natAbs ++ b) (hp : a.length = pos) (hz : isSize size = true) (hf : fits v size = true) : fld s pos size = v := by
  subst hp
  unfold fld
  rw [hs, List.append_assoc, List.drop_left]
  have e : (bytes v size.natAbs ++ b).take size.natAbs = bytes v size.natAbs := by
    have := List.take_left (l₁ := bytes v size.natAbs) (l₂ := b)
    rwa [bytes_len] at this
  rw [e, one_bytes v size hz hf]
theorem fits2 {v : Int} (h0 : 0 ≤ v) (h1 : v ≤ 65535) : fits v 2 = true := by
  unfold fits; rw [if_neg (by omega)]; simp; omega
theorem fits2s {v : Int} (h0 : -32768 ≤ v) (h1 : v ≤ 32767) : fits v (-2) = true := by
  unfold fits; rw [if_pos (by omega)]; simp; omega
theorem longN_le (h : Head) : 0 ≤ longN h ∧ longN h ≤ 1 := by unfold longN; cases h.long <;> simp

theorem putA_len (h : Head) : (putA h).length = 54 := by simp [putA, nts_len, bytes_len]
theorem putB_len (h : Head) : (putB h).length = 6 := by simp [putB, nts_len, bytes_len]
theorem putC_len (h : Head) : (putC h).length = 36 := by simp [putC, nts_len, bytes_len]
/-- What is put is got, whatever stands behind. -/
theorem get_more (h : Head) (hh : isHead h = true) (m1 m2 m3 : List UInt8) : get (putA h ++ m1) (putB h ++ m2) (putC h ++ m3) = (h, 0) := by
  obtain ⟨⟨a1, a2⟩, ⟨b1, b2⟩, ⟨c1, c2⟩, ⟨d1, d2⟩, ⟨e1, e2⟩⟩ := (isHead_iff h).1 hh
  obtain ⟨l1, l2⟩ := longN_le h
  have fm : fld (putA h ++ m1) 12 4 = 1594834165 := fld_at (nts 12) (nts 2 ++ bytes h.upem 2 ++ nts 30 ++ bytes (longN h) 2 ++ nts 2 ++ m1) _ 4 12 (by simp only [putA, List.append_assoc]; rfl) (nts_len _) (by decide) (by decide)
  have fu : fld (putA h ++ m1) 18 2 = h.upem := fld_at (nts 12 ++ bytes 1594834165 4 ++ nts 2) (nts 30 ++ bytes (longN h) 2 ++ nts 2 ++ m1) _ 2 18 (by simp only [putA, List.append_assoc]; rfl) (by simp [nts_len, bytes_len]) (by decide) (fits2 (by omega) (by omega))
  have fl : fld (putA h ++ m1) 50 (-2) = longN h := fld_at (nts 12 ++ bytes 1594834165 4 ++ nts 2 ++ bytes h.upem 2 ++ nts 30) (nts 2 ++ m1) _ (-2) 50 (by simp only [putA, List.append_assoc]; rfl) (by simp [nts_len, bytes_len]) (by decide) (fits2s (by omega) (by omega))
  have fg : fld (putB h ++ m2) 4 2 = h.glyphs := fld_at (nts 4) m2 _ 2 4 (by simp only [putB, List.append_assoc]; rfl) (nts_len _) (by decide) (fits2 (by omega) (by omega))
  have fa : fld (putC h ++ m3) 4 (-2) = h.asc := fld_at (nts 4) (bytes h.desc 2 ++ nts 26 ++ bytes h.metrics 2 ++ m3) _ (-2) 4 (by simp only [putC, List.append_assoc]; rfl) (nts_len _) (by decide) (fits2s (by omega) (by omega))
  have fd : fld (putC h ++ m3) 6 (-2) = h.desc := fld_at (nts 4 ++ bytes h.asc 2) (nts 26 ++ bytes h.metrics 2 ++ m3) _ (-2) 6 (by simp only [putC, List.append_assoc]; rfl) (by simp [nts_len, bytes_len]) (by decide) (fits2s (by omega) (by omega))
  have fn : fld (putC h ++ m3) 34 2 = h.metrics := fld_at (nts 4 ++ bytes h.asc 2 ++ bytes h.desc 2 ++ nts 26) m3 _ 2 34 (by simp only [putC, List.append_assoc]; rfl) (by simp [nts_len, bytes_len]) (by decide) (fits2 (by omega) (by omega))
  have hr : read (putA h ++ m1) (putB h ++ m2) (putC h ++ m3) = h := by
    unfold read
    rw [fu, fg, fn, fa, fd, fl]
    cases h with
    | mk u g m a d l => cases l <;> simp [longN]
  unfold get
  rw [hr, fm, fl, hh, if_neg (by simp only [List.length_append, putA_len, putB_len, putC_len]; omega), if_neg (by omega), if_neg (by simp)]
theorem get_put (h : Head) (hh : isHead h = true) : get (putA h) (putB h) (putC h) = (h, 0) := by
  have := get_more h hh [] [] []
  simpa using this
theorem get_ok {a b c : List UInt8} (h : (get a b c).2 = 0) : isHead (get a b c).1 = true := by
  unfold get at *
  by_cases c1 : a.length < 54 ∨ b.length < 6 ∨ c.length < 36
  · rw [if_pos c1] at h; cases h
  · rw [if_neg c1] at h ⊢
    by_cases c2 : fld a 12 4 ≠ 1594834165 ∨ fld a 50 (-2) < 0 ∨ 1 < fld a 50 (-2)
    · rw [if_pos c2] at h; cases h
    · rw [if_neg c2] at h ⊢
      by_cases c3 : isHead (read a b c) = false
      · rw [if_pos c3] at h; cases h
      · rw [if_neg c3]; simpa using c3
theorem get_none {a b c : List UInt8} (h : (get a b c).2 ≠ 0) : (get a b c).1 = zero := by
  unfold get at *
  by_cases c1 : a.length < 54 ∨ b.length < 6 ∨ c.length < 36
  · rw [if_pos c1]
  · rw [if_neg c1] at h ⊢
    by_cases c2 : fld a 12 4 ≠ 1594834165 ∨ fld a 50 (-2) < 0 ∨ 1 < fld a 50 (-2)
    · rw [if_pos c2]
    · rw [if_neg c2] at h ⊢
      by_cases c3 : isHead (read a b c) = false
      · rw [if_pos c3]
      · rw [if_neg c3] at h; exact absurd rfl h
theorem fld_set {s : List UInt8} {p pos : Nat} {size : Int} {x : UInt8} (h : p < pos ∨ pos + size.natAbs ≤ p) : fld (s.set p x) pos size = fld s pos size := by
  unfold fld
  rcases h with h | h
  · rw [List.drop_set_of_lt h]
  · rw [List.drop_set, if_neg (by omega), List.take_set_of_le (by omega)]
/-- A byte that plays no part may be another one. -/
theorem get_set {a b c : List UInt8} {p : Nat} {x : UInt8} (h : ¬ (12 ≤ p ∧ p < 16 ∨ 18 ≤ p ∧ p < 20 ∨ 50 ≤ p ∧ p < 52)) : get (a.set p x) b c = get a b c := by
  have e1 : fld (a.set p x) 12 4 = fld a 12 4 := fld_set (by simp; omega)
  have e2 : fld (a.set p x) 18 2 = fld a 18 2 := fld_set (by simp; omega)
  have e3 : fld (a.set p x) 50 (-2) = fld a 50 (-2) := fld_set (by simp; omega)
  unfold get read
  rw [e1, e2, e3, List.length_set]
end He
/-
  Plain functions on bytes (layer 6, hmtx), with nothing of the program: metrics, got and put; facts on them. No conditions beyond those stated.
-/
namespace Hm
open Bn He

/-- A metric: how wide, and where from. -/
abbrev Metric := Int × Int
def at0 (l : List Metric) (i : Nat) : Metric := l.getD i (0, 0)
/-- The metric of glyph i, out of a table of m metrics. -/
def cell (s : List UInt8) (m i : Nat) : Metric :=
  if i < m then (fld s (4 * i) 2, fld s (4 * i + 2) (-2)) else (fld s (4 * (m - 1)) 2, fld s (4 * m + 2 * (i - m)) (-2))
def get (s : List UInt8) (glyphs metrics : Int) : List Metric × Int :=
  if glyphs < 1 ∨ 65535 < glyphs ∨ metrics < 1 ∨ glyphs < metrics then ([], 1)
  else if (s.length : Int) < 4 * metrics + 2 * (glyphs - metrics) then ([], 4)
  else ((List.range glyphs.toNat).map (cell s metrics.toNat), 0)
/-- The least number of metrics that will do, of the first n. -/
def down (l : List Metric) : Nat → Nat
  | 0 => 0
  | 1 => 1
  | n + 2 => if (at0 l n).1 = (at0 l (n + 1)).1 then down l (n + 1) else n + 2
def least (l : List Metric) : Nat := down l l.length
def fit (x : Metric) : Bool := fits x.1 2 && fits x.2 (-2)
def full : List Metric → List UInt8
  | [] => []
  | x :: r => bytes x.1 2 ++ bytes x.2 2 ++ full r
def sides : List Metric → List UInt8
  | [] => []
  | x :: r => bytes x.2 2 ++ sides r
def out (l : List Metric) (n : Nat) : List UInt8 := full (l.take n) ++ sides (l.drop n)
def put (l : List Metric) : List UInt8 × Nat × Int :=
  if l.length < 1 ∨ 65535 < l.length then ([], 0, 1)
  else if l.all fit = false then ([], 0, 2)
  else (out l (least l), least l, 0)

theorem full_len : ∀ l : List Metric, (full l).length = 4 * l.length
  | [] => rfl
  | x :: r => by rw [full, List.length_append, List.length_append, bytes_len, bytes_len, full_len r, List.length_cons]; omega
theorem sides_len : ∀ l : List Metric, (sides l).length = 2 * l.length
  | [] => rfl
  | x :: r => by rw [sides, List.length_append, bytes_len, sides_len r, List.length_cons]; omega
theorem full_append : ∀ a b : List Metric, full (a ++ b) = full a ++ full b
  | [], b => rfl
  | x :: r, b => by rw [List.cons_append, full, full, full_append r b]; simp only [List.append_assoc]
theorem sides_append : ∀ a b : List Metric, sides (a ++ b) = sides a ++ sides b
  | [], b => rfl
  | x :: r, b => by rw [List.cons_append, sides, sides, sides_append r b, List.append_assoc]
theorem split_at {l : List Metric} {i : Nat} (hi : i < l.length) : l = l.take i ++ at0 l i :: l.drop (i + 1) := by
  rw [show at0 l i = l[i] by simp [at0, List.getD, List.getElem?_eq_getElem hi], ← List.drop_eq_getElem_cons hi, List.take_append_drop]
theorem out_len {l : List Metric} {n : Nat} (h : n ≤ l.length) : (out l n).length = 2 * n + 2 * l.length := by
  unfold out
  rw [List.length_append, full_len, sides_len, List.length_take, List.length_drop]; omega

theorem down_le (l : List Metric) : ∀ n, down l n ≤ n
  | 0 => Nat.le_refl _
  | 1 => Nat.le_refl _
  | n + 2 => by
    rw [down]
    by_cases h : (at0 l n).1 = (at0 l (n + 1)).1
    · rw [if_pos h]; have := down_le l (n + 1); omega
    · rw [if_neg h]; exact Nat.le_refl _
theorem down_pos (l : List Metric) : ∀ n, 1 ≤ n → 1 ≤ down l n
  | 0, h => by omega
  | 1, _ => Nat.le_refl _
  | n + 2, _ => by
    rw [down]
    by_cases h : (at0 l n).1 = (at0 l (n + 1)).1
    · rw [if_pos h]; exact down_pos l (n + 1) (by omega)
    · rw [if_neg h]; omega
/-- Behind the last metric all are as wide. -/
theorem down_same (l : List Metric) : ∀ n i, down l n ≤ i + 1 → i < n → (at0 l i).1 = (at0 l (down l n - 1)).1
  | 0, i, _, hi => by omega
  | 1, i, _, hi => by
    obtain rfl : i = 0 := by omega
    rfl
  | n + 2, i, hd, hi => by
    rw [down] at hd ⊢
    by_cases h : (at0 l n).1 = (at0 l (n + 1)).1
    · rw [if_pos h] at hd ⊢
      by_cases e : i = n + 1
      · subst e
        rw [← h]
        exact down_same l (n + 1) n (by have := down_le l (n + 1); omega) (by omega)
      · exact down_same l (n + 1) i hd (by omega)
    · rw [if_neg h] at hd ⊢
      rw [show i = n + 1 by omega]
      rfl
theorem down_ne (l : List Metric) : ∀ n, 2 ≤ down l n → (at0 l (down l n - 2)).1 ≠ (at0 l (down l n - 1)).1
  | 0, h => by rw [down] at h; omega
  | 1, h => by rw [down] at h; omega
  | n + 2, h => by
    rw [down] at h ⊢
    by_cases hc : (at0 l n).1 = (at0 l (n + 1)).1
    · rw [if_pos hc] at h ⊢; exact down_ne l (n + 1) h
    · rw [if_neg hc]; exact hc
/-- It is the least. -/
theorem least_le (l : List Metric) (m : Nat) (h1 : 1 ≤ m) (h : ∀ i, m ≤ i + 1 → i < l.length → (at0 l i).1 = (at0 l (m - 1)).1) (_hm : m ≤ l.length) : least l ≤ m := by
  rcases Nat.lt_or_ge m (least l) with hlt | hge
  · exfalso
    have hle : least l ≤ l.length := down_le l _
    have := down_ne l l.length (show 2 ≤ down l l.length by unfold least at hlt; omega)
    unfold least at *
    exact this (by rw [h _ (by omega) (by omega), h (down l l.length - 1) (by omega) (by omega)])
  · exact hge

theorem fit_iff (x : Metric) : fit x = true ↔ fits x.1 2 = true ∧ fits x.2 (-2) = true := by unfold fit; simp
theorem out_cell {l : List Metric} {n : Nat} (hn1 : 1 ≤ n) (hn : n ≤ l.length) (hf : l.all fit = true) (hsame : ∀ i, n ≤ i + 1 → i < l.length → (at0 l i).1 = (at0 l (n - 1)).1) (more : List UInt8) {i : Nat} (hi : i < l.length) : cell (out l n ++ more) n i = at0 l i := by
  have hfi : ∀ j, j < l.length → fits (at0 l j).1 2 = true ∧ fits (at0 l j).2 (-2) = true := by
    intro j hj
    refine (fit_iff _).1 (List.all_eq_true.1 hf _ ?_)
    simp [at0, List.getD, List.getElem?_eq_getElem hj]
  have hlow : ∀ j, j < n → fld (out l n ++ more) (4 * j) 2 = (at0 l j).1 ∧ fld (out l n ++ more) (4 * j + 2) (-2) = (at0 l j).2 := by
    intro j hj
    obtain ⟨f1, f2⟩ := hfi j (by omega)
    have ht : l.take n = (l.take n).take j ++ at0 l j :: (l.take n).drop (j + 1) := by
      have := split_at (l := l.take n) (i := j) (by rw [List.length_take]; omega)
      rw [show at0 (l.take n) j = at0 l j by simp [at0, List.getD, List.getElem?_take_of_lt hj]] at this
      exact this
    have e : out l n ++ more = full ((l.take n).take j) ++ (bytes (at0 l j).1 2 ++ (bytes (at0 l j).2 2 ++ (full ((l.take n).drop (j + 1)) ++ (sides (l.drop n) ++ more)))) := by
      unfold out
      conv => lhs; rw [ht]
      rw [full_append, full]
      simp only [List.append_assoc]
    have hl4 : (full ((l.take n).take j)).length = 4 * j := by rw [full_len, List.length_take, List.length_take]; omega
    constructor
    · exact fld_at (full ((l.take n).take j)) (bytes (at0 l j).2 2 ++ (full ((l.take n).drop (j + 1)) ++ (sides (l.drop n) ++ more))) _ 2 _ (by rw [e, List.append_assoc]; rfl) hl4 (by decide) f1
    · exact fld_at (full ((l.take n).take j) ++ bytes (at0 l j).1 2) (full ((l.take n).drop (j + 1)) ++ (sides (l.drop n) ++ more)) _ (-2) _ (by rw [e]; simp only [List.append_assoc]; rfl) (by rw [List.length_append, hl4, bytes_len]) (by decide) f2
  unfold cell
  by_cases h : i < n
  · rw [if_pos h, (hlow i h).1, (hlow i h).2]
  · rw [if_neg h, (hlow (n - 1) (by omega)).1, ← hsame i (by omega) hi]
    have ht : l.drop n = (l.drop n).take (i - n) ++ at0 l i :: (l.drop n).drop (i - n + 1) := by
      have := split_at (l := l.drop n) (i := i - n) (by rw [List.length_drop]; omega)
      rw [show at0 (l.drop n) (i - n) = at0 l i by simp [at0, List.getD, List.getElem?_drop, show n + (i - n) = i by omega]] at this
      exact this
    have e : out l n ++ more = full (l.take n) ++ sides ((l.drop n).take (i - n)) ++ (bytes (at0 l i).2 2 ++ (sides ((l.drop n).drop (i - n + 1)) ++ more)) := by
      unfold out
      conv => lhs; rw [ht]
      rw [sides_append, sides]
      simp only [List.append_assoc]
    have := fld_at (s := out l n ++ more) (full (l.take n) ++ sides ((l.drop n).take (i - n))) (sides ((l.drop n).drop (i - n + 1)) ++ more) (at0 l i).2 (-2) (4 * n + 2 * (i - n)) (by rw [e]; simp only [List.append_assoc]; rfl)
      (by rw [List.length_append, full_len, sides_len, List.length_take, List.length_take, List.length_drop]; omega) (by decide) (hfi i hi).2
    rw [this]
theorem out_rows {l : List Metric} {n : Nat} (hn1 : 1 ≤ n) (hn : n ≤ l.length) (hf : l.all fit = true) (hsame : ∀ i, n ≤ i + 1 → i < l.length → (at0 l i).1 = (at0 l (n - 1)).1) (more : List UInt8) : (List.range l.length).map (cell (out l n ++ more) n) = l := by
  apply List.ext_getElem
  · simp
  · intro j h1 h2
    simp only [List.getElem_map, List.getElem_range]
    rw [out_cell hn1 hn hf hsame more h2]
    simp [at0, List.getD, List.getElem?_eq_getElem h2]
theorem put_ok {l : List Metric} (h : (put l).2.2 = 0) : (1 ≤ l.length ∧ l.length ≤ 65535) ∧ l.all fit = true ∧ (put l).1 = out l (least l) ∧ (put l).2.1 = least l := by
  unfold put at *
  by_cases c1 : l.length < 1 ∨ 65535 < l.length
  · rw [if_pos c1] at h; cases h
  · rw [if_neg c1] at h ⊢
    by_cases c2 : l.all fit = false
    · rw [if_pos c2] at h; cases h
    · rw [if_neg c2]; exact ⟨by omega, by simpa using c2, rfl, rfl⟩
theorem put_refused {l : List Metric} (h : (put l).2.2 ≠ 0) : (put l).1 = [] ∧ (put l).2.1 = 0 := by
  unfold put at *
  by_cases c1 : l.length < 1 ∨ 65535 < l.length
  · rw [if_pos c1]; exact ⟨rfl, rfl⟩
  · rw [if_neg c1] at h ⊢
    by_cases c2 : l.all fit = false
    · rw [if_pos c2]; exact ⟨rfl, rfl⟩
    · rw [if_neg c2] at h; exact absurd rfl h
/-- What is put is got, whatever stands behind. -/
theorem get_put {l : List Metric} (h : (put l).2.2 = 0) (more : List UInt8) : get ((put l).1 ++ more) l.length (put l).2.1 = (l, 0) ∧ 1 ≤ (put l).2.1 ∧ (put l).2.1 ≤ l.length ∧ (put l).1.length = 2 * (put l).2.1 + 2 * l.length ∧
    ((put l).2.1 < 2 ∨ (at0 l ((put l).2.1 - 2)).1 ≠ (at0 l ((put l).2.1 - 1)).1) := by
  obtain ⟨⟨h1, h2⟩, hf, e1, e2⟩ := put_ok h
  rw [e1, e2]
  have hn1 : 1 ≤ least l := down_pos l _ h1
  have hn : least l ≤ l.length := down_le l _
  have hlen := out_len hn
  refine ⟨?_, hn1, hn, hlen, ?_⟩
  · unfold get
    rw [if_neg (by omega), if_neg (by rw [List.length_append, hlen]; omega), Int.toNat_natCast, Int.toNat_natCast]
    rw [out_rows hn1 hn hf (fun i a b => down_same l _ i a b) more]
  · rcases Nat.lt_or_ge (least l) 2 with h3 | h3
    · exact .inl h3
    · exact .inr (down_ne l _ h3)
theorem fld_fits (s : List UInt8) (pos : Nat) (size : Int) (hz : isSize size = true) (h : pos + size.natAbs ≤ s.length) : fits (fld s pos size) size = true :=
  one_fits _ _ hz (by rw [List.length_take, List.length_drop]; omega)
theorem get_ok {s : List UInt8} {glyphs metrics : Int} (h : (get s glyphs metrics).2 = 0) : (1 ≤ glyphs ∧ glyphs ≤ 65535) ∧ (1 ≤ metrics ∧ metrics ≤ glyphs) ∧ 4 * metrics + 2 * (glyphs - metrics) ≤ s.length ∧ (get s glyphs metrics).1 = (List.range glyphs.toNat).map (cell s metrics.toNat) := by
  unfold get at *
  by_cases c1 : glyphs < 1 ∨ 65535 < glyphs ∨ metrics < 1 ∨ glyphs < metrics
  · rw [if_pos c1] at h; cases h
  · rw [if_neg c1] at h ⊢
    by_cases c2 : (s.length : Int) < 4 * metrics + 2 * (glyphs - metrics)
    · rw [if_pos c2] at h; cases h
    · rw [if_neg c2]; exact ⟨by omega, by omega, by omega, rfl⟩
theorem get_none {s : List UInt8} {glyphs metrics : Int} (h : (get s glyphs metrics).2 ≠ 0) : (get s glyphs metrics).1 = [] := by
  unfold get at *
  by_cases c1 : glyphs < 1 ∨ 65535 < glyphs ∨ metrics < 1 ∨ glyphs < metrics
  · rw [if_pos c1]
  · rw [if_neg c1] at h ⊢
    by_cases c2 : (s.length : Int) < 4 * metrics + 2 * (glyphs - metrics)
    · rw [if_pos c2]
    · rw [if_neg c2] at h; exact absurd rfl h
/-- What is got is put in no more bytes, and got again as it was. -/
theorem get_again {s : List UInt8} {g m : Nat} (h : (get s g m).2 = 0) : (get s g m).1.length = g ∧ (put (get s g m).1).2.2 = 0 ∧ (put (get s g m).1).2.1 ≤ m ∧ (put (get s g m).1).1.length ≤ s.length ∧
    get (put (get s g m).1).1 g (put (get s g m).1).2.1 = ((get s g m).1, 0) ∧ ∀ i, m ≤ i → i < g → (at0 (get s g m).1 i).1 = (at0 (get s g m).1 (m - 1)).1 := by
  obtain ⟨⟨g1, g2⟩, ⟨m1, m2⟩, hs, e⟩ := get_ok h
  rw [Int.toNat_natCast, Int.toNat_natCast] at e
  have hlen : (get s g m).1.length = g := by rw [e]; simp
  have hat : ∀ i, i < g → at0 (get s g m).1 i = cell s m i := fun i hi => by rw [e]; simp [at0, List.getD, hi]
  have hfit : (get s g m).1.all fit = true := by
    rw [List.all_eq_true]
    intro x hx
    obtain ⟨i, hi, rfl⟩ := List.mem_iff_getElem.1 hx
    have hi' : i < g := by omega
    rw [show (get s g m).1[i] = at0 (get s g m).1 i by simp [at0, List.getD, List.getElem?_eq_getElem hi], hat i hi', fit_iff]
    unfold cell
    by_cases c : i < m
    · rw [if_pos c]; exact ⟨fld_fits _ _ _ (by decide) (by simp; omega), fld_fits _ _ _ (by decide) (by simp; omega)⟩
    · rw [if_neg c]; exact ⟨fld_fits _ _ _ (by decide) (by simp; omega), fld_fits _ _ _ (by decide) (by simp; omega)⟩
  have hsame : ∀ i, m ≤ i + 1 → i < (get s g m).1.length → (at0 (get s g m).1 i).1 = (at0 (get s g m).1 (m - 1)).1 := by
    intro i h1 h2
    rw [hat i (by omega), hat (m - 1) (by omega)]
    unfold cell
    rw [if_pos (show m - 1 < m by omega)]
    by_cases c : i < m
    · rw [if_pos c, show i = m - 1 by omega]
    · rw [if_neg c]
  have hp : put (get s g m).1 = (out (get s g m).1 (least (get s g m).1), least (get s g m).1, 0) := by
    unfold put
    rw [if_neg (by omega), if_neg (by rw [hfit]; simp)]
  have hok : (put (get s g m).1).2.2 = 0 := by rw [hp]
  obtain ⟨b1, b2, b3, b4, _⟩ := get_put hok []
  rw [List.append_nil, hlen] at b1
  have hle : (put (get s g m).1).2.1 ≤ m := by rw [hp]; exact least_le _ m (by omega) hsame (by omega)
  exact ⟨hlen, hok, hle, by rw [b4, hlen]; omega, b1, fun i h1 h2 => hsame i (by omega) (by omega)⟩
end Hm
/-
  Plain facts on sums of bytes (layers 3 and 4): one byte that is another one turns the sum; a sum is that of two parts, put together. No conditions.
-/
namespace Bn

theorem be_inj {a b : List UInt8} (hl : a.length = b.length) (h : be a = be b) : a = b := by
  have h1 := tail_be a
  have h2 := tail_be b
  rw [hl, h] at h1
  rw [← h1, h2]

theorem mod_cancel {u a b r : Nat} (ha : a < 4294967296) (hb : b < 4294967296) (h : (u + (a + r) % 4294967296) % 4294967296 = (u + (b + r) % 4294967296) % 4294967296) : a = b := by omega

/-- A row of numbers of four bytes in which one byte is another one. -/
theorem chunks_ne : ∀ (l : List UInt8) (v i : Nat) (c : UInt8), l.length % 4 = 0 → i < l.length → l.getD i 0 ≠ c → v < 4294967296 → chunks v (l.set i c) ≠ chunks v l
  | [], _, i, _, _, hi, _, _ => by simp at hi
  | [_], _, _, _, h, _, _, _ => by simp at h
  | [_, _], _, _, _, h, _, _, _ => by simp at h
  | [_, _, _], _, _, _, h, _, _, _ => by simp at h
  | x :: y :: z :: t :: r, v, i, c, h, hi, hne, hv => by
    have hr : r.length % 4 = 0 := by simp at h; omega
    have key : ∀ p q : List UInt8, p.length = 4 → q.length = 4 → p ≠ q → chunks ((v + be p) % 4294967296) r ≠ chunks ((v + be q) % 4294967296) r := by
      intro p q hp hq hpq he
      rw [chunks_from r _ (Nat.mod_lt _ (by omega)), chunks_from r ((v + be q) % 4294967296) (Nat.mod_lt _ (by omega))] at he
      have b1 := be_lt p
      have b2 := be_lt q
      rw [hp] at b1
      rw [hq] at b2
      exact hpq (be_inj (by rw [hp, hq]) (by omega))
    match i, hi, hne with
    | 0, _, hne => exact key [c, y, z, t] [x, y, z, t] rfl rfl (by intro he; injection he with h1 _; exact hne (by simpa using h1.symm))
    | 1, _, hne => exact key [x, c, z, t] [x, y, z, t] rfl rfl (by intro he; injection he with _ he; injection he with h1 _; exact hne (by simpa using h1.symm))
    | 2, _, hne => exact key [x, y, c, t] [x, y, z, t] rfl rfl (by intro he; injection he with _ he; injection he with _ he; injection he with h1 _; exact hne (by simpa using h1.symm))
    | 3, _, hne => exact key [x, y, z, c] [x, y, z, t] rfl rfl (by intro he; injection he with _ he; injection he with _ he; injection he with _ he; injection he with h1 _; exact hne (by simpa using h1.symm))
    | j + 4, hi, hne =>
      show chunks ((v + be [x, y, z, t]) % 4294967296) (r.set j c) ≠ chunks ((v + be [x, y, z, t]) % 4294967296) r
      exact chunks_ne r _ j c hr (by simp at hi; omega) (by simpa using hne) (Nat.mod_lt _ (by omega))

theorem up_set (l : List UInt8) (n i : Nat) (c : UInt8) (h : i < l.length) : up (l.set i c) n = (up l n).set i c := by
  unfold up
  rw [List.length_set, List.set_append_left _ _ h]

/-- One byte that is another one turns the sum. -/
theorem sum_ne (l : List UInt8) (i : Nat) (c : UInt8) (h : i < l.length) (hne : l.getD i 0 ≠ c) : sum (l.set i c) ≠ sum l := by
  unfold sum
  rw [up_set l 4 i c h]
  refine chunks_ne _ _ _ _ (up_mod l 4 (by omega)) (by rw [up_len]; omega) ?_ (by omega)
  unfold up
  rw [List.getD, List.getElem?_append_left h]
  exact hne

theorem be_zeros : be [0, 0, 0, 0] = 0 := rfl
/-- Four bytes, at a multiple of four, that count as noughts. -/
theorem sum_without (a m b : List UInt8) (ha : a.length % 4 = 0) (hm : m.length = 4) : (sum (a ++ [0, 0, 0, 0] ++ b) + sum m) % 4294967296 = sum (a ++ m ++ b) := by
  have e : ∀ x : List UInt8, x.length = 4 → sum (a ++ x ++ b) = (chunks 0 a + (be x + chunks 0 (up b 4)) % 4294967296) % 4294967296 := by
    intro x hx
    unfold sum
    rw [up_append (a ++ x) b 4 (by rw [List.length_append, hx]; omega), chunks_append (a ++ x) 0 _ (by rw [List.length_append, hx]; omega), chunks_append a 0 x ha]
    match x, hx with
    | [p, q, r, s], _ =>
      show chunks ((chunks 0 a + be [p, q, r, s]) % 4294967296) (up b 4) = _
      rw [chunks_from (up b 4) _ (Nat.mod_lt _ (by omega))]
      omega
  have hs : sum m = be m := by
    unfold sum
    rw [up_done m 4 (by omega)]
    match m, hm with
    | [p, q, r, s], _ =>
      show (0 + be [p, q, r, s]) % 4294967296 = be [p, q, r, s]
      have := be_four p q r s
      omega
  rw [e [0, 0, 0, 0] rfl, e m hm, hs, be_zeros]
  omega
end Bn
/-
  Plain functions on bytes (layer 4, sfnt), with nothing of the program: a font file's tables, got and put; facts on them. No conditions.
-/
namespace Sf
open Bn

/-- A table: its tag and its bytes. -/
abbrev Tab := List UInt8 × List UInt8
def headTag : List UInt8 := [104, 101, 97, 100]
def isTag (t : List UInt8) : Bool := decide (t.length = 4) && t.all fun c => decide (32 ≤ c.toNat) && decide (c.toNat ≤ 126)
def isVer (n : Int) : Bool := decide (n = 65536) || decide (n = 1330926671)
def less (a b : List UInt8) : Bool := decide (a < b)
/-- The bytes 8 to 11 count as noughts. -/
def noughts (d : List UInt8) : List UInt8 := d.take 8 ++ [0, 0, 0, 0] ++ d.drop 12
def tsum (x : Tab) : Nat := if x.1 = headTag ∧ 12 ≤ x.2.length then Bn.sum (noughts x.2) else Bn.sum x.2
theorem tsum_lt (x : Tab) : tsum x < 4294967296 := by
  unfold tsum
  by_cases h : x.1 = headTag ∧ 12 ≤ x.2.length
  · rw [if_pos h]; exact sum_lt _
  · rw [if_neg h]; exact sum_lt _

/-- The number of so many bytes at a place. -/
def num (s : List UInt8) (pos n : Nat) : Nat := be ((s.drop pos).take n)
def recTag (s : List UInt8) (i : Nat) : List UInt8 := (s.drop (12 + 16 * i)).take 4
def recSum (s : List UInt8) (i : Nat) : Nat := num s (16 + 16 * i) 4
def recAt (s : List UInt8) (i : Nat) : Nat := num s (20 + 16 * i) 4
def recLen (s : List UInt8) (i : Nat) : Nat := num s (24 + 16 * i) 4
def tab (s : List UInt8) (i : Nat) : Tab := (recTag s i, (s.drop (recAt s i)).take (recLen s i))
def badForm (s : List UInt8) (n i : Nat) : Bool := !isTag (recTag s i) || (decide (0 < i) && !less (recTag s (i - 1)) (recTag s i)) || decide (recAt s i % 4 ≠ 0) || decide (recAt s i < 12 + 16 * n)
/-- The error of a record. -/
def wrong (s : List UInt8) (n i : Nat) : Int :=
  if badForm s n i = true then 5 else if s.length < recAt s i + recLen s i then 4 else if tsum (tab s i) ≠ recSum s i then 5 else 0
/-- The first number that is not 0, from k on. -/
def scan (f : Nat → Int) : Nat → Nat → Int
  | _, 0 => 0
  | k, m + 1 => if f k ≠ 0 then f k else scan f (k + 1) m
theorem scan_zero (f : Nat → Int) : ∀ (m k : Nat), (∀ j, k ≤ j → j < k + m → f j = 0) → scan f k m = 0
  | 0, _, _ => rfl
  | m + 1, k, h => by
    rw [scan, if_neg (by rw [h k (Nat.le_refl _) (by omega)]; simp)]
    exact scan_zero f m (k + 1) fun j h1 h2 => h j (by omega) (by omega)
theorem scan_first (f : Nat → Int) : ∀ (m k j : Nat), k ≤ j → j < k + m → (∀ i, k ≤ i → i < j → f i = 0) → f j ≠ 0 → scan f k m = f j
  | 0, k, j, h1, h2, _, _ => by omega
  | m + 1, k, j, h1, h2, h, hj => by
    rw [scan]
    by_cases e : k = j
    · subst e; rw [if_pos hj]
    · rw [if_neg (by rw [h k (Nat.le_refl _) (by omega)]; simp)]
      exact scan_first f m (k + 1) j (by omega) (by omega) (fun i a b => h i (by omega) b) hj
theorem scan_all (f : Nat → Int) : ∀ (m k : Nat), scan f k m = 0 → ∀ j, k ≤ j → j < k + m → f j = 0
  | 0, _, _, j, h1, h2 => by omega
  | m + 1, k, h, j, h1, h2 => by
    rw [scan] at h
    by_cases e : f k = 0
    · rw [if_neg (by rw [e]; simp)] at h
      by_cases ej : k = j
      · rw [← ej]; exact e
      · exact scan_all f m (k + 1) h j (by omega) (by omega)
    · rw [if_pos e] at h; exact absurd h e
def clash (s : List UInt8) (i k : Nat) : Bool := decide (0 < recLen s i) && decide (0 < recLen s k) && decide (recAt s i < recAt s k + recLen s k) && decide (recAt s k < recAt s i + recLen s i)
def anyClash (s : List UInt8) (n : Nat) : Bool := (List.range n).any fun i => (List.range i).any fun k => clash s i k
theorem anyClash_false {s : List UInt8} {n : Nat} (h : ∀ i k, k < i → i < n → clash s i k = false) : anyClash s n = false := by
  unfold anyClash
  rw [List.any_eq_false]
  intro i hi
  simp only [Bool.not_eq_true]
  rw [List.any_eq_false]
  intro k hk
  rw [h i k (List.mem_range.1 hk) (List.mem_range.1 hi)]
  simp
/-- A file's tables. -/
def get (s : List UInt8) : Int × List Tab × Int :=
  if 16777216 < s.length then (0, [], 7)
  else if s.length < 12 then (0, [], 4)
  else if isVer (num s 0 4) = false then (0, [], 5)
  else if 64 < num s 4 2 then (0, [], 7)
  else if s.length < 12 + 16 * num s 4 2 then (0, [], 4)
  else if scan (wrong s (num s 4 2)) 0 (num s 4 2) ≠ 0 then (0, [], scan (wrong s (num s 4 2)) 0 (num s 4 2))
  else if anyClash s (num s 4 2) = true then (0, [], 5)
  else ((num s 0 4 : Nat), (List.range (num s 4 2)).map (tab s), 0)

/-- May tables stand in a file so? -/
def tagAt (l : List Tab) (i : Nat) : List UInt8 := (l.getD i ([], [])).1
def datAt (l : List Tab) (i : Nat) : List UInt8 := (l.getD i ([], [])).2
def okAt (l : List Tab) (i : Nat) : Bool := isTag (tagAt l i) && (decide (i = 0) || less (tagAt l (i - 1)) (tagAt l i))
def right (l : List Tab) : Bool := ((List.range l.length).all fun i => okAt l i) && decide (l.length ≤ 64)
/-- Bytes of the first k tables, padded. -/
def wide (l : List Tab) (k : Nat) : Nat := ((l.take k).map fun x => (up x.2 4).length).sum
def total (l : List Tab) : Nat := 12 + 16 * l.length + wide l l.length
/-- The greatest power of two that is at most n, by doubling; and how often. -/
def double (n : Nat) : Nat → Nat → Nat → Nat × Nat
  | 0, p, h => (p, h)
  | f + 1, p, h => if 2 * p ≤ n then double n f (2 * p) (h + 1) else (p, h)
def pow2 (n : Nat) : Nat × Nat := if n = 0 then (0, 0) else double n n 1 0
def header (v : Int) (n : Nat) : List UInt8 := bytes v 4 ++ bytes n 2 ++ bytes (16 * (pow2 n).1 : Nat) 2 ++ bytes ((pow2 n).2 : Nat) 2 ++ bytes ((16 * n : Nat) - (16 * (pow2 n).1 : Nat) : Int) 2
def record (x : Tab) (pos : Nat) : List UInt8 := x.1 ++ bytes (tsum x : Nat) 4 ++ bytes pos 4 ++ bytes x.2.length 4
def recs : Nat → List Tab → List UInt8
  | _, [] => []
  | pos, x :: r => record x pos ++ recs (pos + (up x.2 4).length) r
def bodies : List Tab → List UInt8
  | [] => []
  | x :: r => up x.2 4 ++ bodies r
def file (v : Int) (l : List Tab) : List UInt8 := header v l.length ++ recs (12 + 16 * l.length) l ++ bodies l
def put (v : Int) (l : List Tab) : List UInt8 × Int :=
  if isVer v = false ∨ right l = false then ([], 1)
  else if 16777216 < total l then ([], 7)
  else (file v l, 0)
def find (l : List Tab) (t : List UInt8) : List UInt8 × Bool := match l.find? fun x => decide (x.1 = t) with | some x => (x.2, true) | none => ([], false)

/-! Where things stand in a file. -/
theorem header_len (v : Int) (n : Nat) : (header v n).length = 12 := by simp [header, bytes_len]
theorem record_len (x : Tab) (pos : Nat) (h : x.1.length = 4) : (record x pos).length = 16 := by simp [record, bytes_len, h]
theorem recs_len : ∀ (l : List Tab) (pos : Nat), (∀ x ∈ l, x.1.length = 4) → (recs pos l).length = 16 * l.length
  | [], _, _ => rfl
  | x :: r, pos, h => by
    rw [recs, List.length_append, record_len x pos (h x (by simp)), recs_len r _ fun y hy => h y (by simp [hy]), List.length_cons]; omega
theorem recs_append : ∀ (a b : List Tab) (pos : Nat), recs pos (a ++ b) = recs pos a ++ recs (pos + (a.map fun x => (up x.2 4).length).sum) b
  | [], b, pos => by simp [recs]
  | x :: r, b, pos => by
    rw [List.cons_append, recs, recs, recs_append r b, List.append_assoc, List.map_cons, List.sum_cons, Nat.add_assoc]
theorem bodies_append : ∀ (a b : List Tab), bodies (a ++ b) = bodies a ++ bodies b
  | [], b => rfl
  | x :: r, b => by rw [List.cons_append, bodies, bodies, bodies_append r b, List.append_assoc]
theorem bodies_len : ∀ (l : List Tab), (bodies l).length = (l.map fun x => (up x.2 4).length).sum
  | [] => rfl
  | x :: r => by rw [bodies, List.length_append, bodies_len r, List.map_cons, List.sum_cons]
theorem wide_all (l : List Tab) : wide l l.length = (l.map fun x => (up x.2 4).length).sum := by unfold wide; rw [List.take_length]
theorem file_len (v : Int) (l : List Tab) (h : ∀ x ∈ l, x.1.length = 4) : (file v l).length = total l := by
  unfold file total
  rw [List.length_append, List.length_append, header_len, recs_len l _ h, bodies_len, wide_all]

theorem num_bytes (a b : List UInt8) (v n : Nat) (h : v < 256 ^ n) : be (((a ++ bytes v n ++ b).drop a.length).take n) = v := by
  rw [List.append_assoc, List.drop_left]
  have e : (bytes (v : Int) n ++ b).take n = bytes (v : Int) n := by
    have := List.take_left (l₁ := bytes (v : Int) n) (l₂ := b)
    rwa [bytes_len] at this
  rw [e]
  unfold bytes
  rw [if_neg (by omega), Int.toNat_natCast]
  exact be_tail n v h
theorem num_at {s : List UInt8} (a b : List UInt8) (v n pos : Nat) (hs : s = a ++ bytes v n ++ b) (hp : a.length = pos) (h : v < 256 ^ n) : num s pos n = v := by
  subst hp
  rw [hs]
  exact num_bytes a b v n h

/-- A file, taken apart at its table number i. -/
theorem file_split (v : Int) (l : List Tab) (i : Nat) (hi : i < l.length) : ∃ front mid : List UInt8, ∃ R B : List UInt8,
    file v l = header v l.length ++ recs (12 + 16 * l.length) (l.take i) ++ record (l.getD i ([], [])) (12 + 16 * l.length + wide l i) ++ R ++ bodies (l.take i) ++ up (datAt l i) 4 ++ B ∧
    front = header v l.length ++ recs (12 + 16 * l.length) (l.take i) ∧ mid = R ++ bodies (l.take i) ∧ ((∀ x ∈ l, x.1.length = 4) → front.length = 12 + 16 * i ∧ R.length = 16 * (l.length - i - 1) ∧ (bodies (l.take i)).length = wide l i) := by
  have hl : l = l.take i ++ l.getD i ([], []) :: l.drop (i + 1) := by
    rw [show l.getD i ([], []) = l[i] by simp [List.getD, List.getElem?_eq_getElem hi], ← List.drop_eq_getElem_cons hi, List.take_append_drop]
  refine ⟨_, _, recs (12 + 16 * l.length + wide l i + (up (datAt l i) 4).length) (l.drop (i + 1)), bodies (l.drop (i + 1)), ?_, rfl, rfl, ?_⟩
  · unfold file
    generalize hn : l.length = n
    have e1 : recs (12 + 16 * n) l = recs (12 + 16 * n) (l.take i) ++ (record (l.getD i ([], [])) (12 + 16 * n + wide l i) ++ recs (12 + 16 * n + wide l i + (up (datAt l i) 4).length) (l.drop (i + 1))) := by
      conv => lhs; rw [hl]
      rw [recs_append, recs]
      rfl
    have e2 : bodies l = bodies (l.take i) ++ (up (datAt l i) 4 ++ bodies (l.drop (i + 1))) := by
      conv => lhs; rw [hl]
      rw [bodies_append, bodies]
      rfl
    rw [e1, e2]
    simp only [List.append_assoc]
  · intro h
    refine ⟨?_, ?_, ?_⟩
    · rw [List.length_append, header_len, recs_len _ _ fun x hx => h x (List.mem_of_mem_take hx), List.length_take]; omega
    · rw [recs_len _ _ fun x hx => h x (List.mem_of_mem_drop hx), List.length_drop]; omega
    · rw [bodies_len]; rfl
end Sf
/-
  Plain functions on bytes (layer 7, glyf), with nothing of the program: extents, got and put; facts on them. No conditions beyond those stated.
-/
namespace He
open Bn
/-- Numbers of one size, one behind the other. -/
def flat (size : Int) : List Int → List UInt8
  | [] => []
  | x :: r => bytes x size.natAbs ++ flat size r
theorem flat_len (size : Int) : ∀ xs : List Int, (flat size xs).length = size.natAbs * xs.length
  | [] => rfl
  | x :: r => by rw [flat, List.length_append, bytes_len, flat_len size r, List.length_cons, Nat.mul_succ, Nat.add_comm]
theorem flat_append (size : Int) : ∀ a b : List Int, flat size (a ++ b) = flat size a ++ flat size b
  | [], b => rfl
  | x :: r, b => by rw [List.cons_append, flat, flat, flat_append size r b, List.append_assoc]
theorem flat_at {size : Int} (hz : isSize size = true) {xs : List Int} {i : Nat} (hi : i < xs.length) (hf : fits (xs.getD i 0) size = true) (more : List UInt8) : fld (flat size xs ++ more) (size.natAbs * i) size = xs.getD i 0 := by
  have hl : xs = xs.take i ++ xs.getD i 0 :: xs.drop (i + 1) := by
    rw [show xs.getD i 0 = xs[i] by simp [List.getD, List.getElem?_eq_getElem hi], ← List.drop_eq_getElem_cons hi, List.take_append_drop]
  refine fld_at (flat size (xs.take i)) (flat size (xs.drop (i + 1)) ++ more) _ size _ ?_ ?_ hz hf
  · conv => lhs; rw [hl]
    rw [flat_append, flat]
    simp only [List.append_assoc]
  · rw [flat_len, List.length_take, Nat.min_eq_left (by omega)]
end He
namespace Gl
open Bn He Sf

structure Ext where
  any : Bool
  x0 : Int
  y0 : Int
  x1 : Int
  y1 : Int
def none : Ext := ⟨false, 0, 0, 0, 0⟩
def isExt (x : Ext) : Bool :=
  if x.any = true then short x.x0 && short x.y0 && short x.x1 && short x.y1 && decide (x.x0 ≤ x.x1) && decide (x.y0 ≤ x.y1)
  else decide (x.x0 = 0) && decide (x.y0 = 0) && decide (x.x1 = 0) && decide (x.y1 = 0)
theorem short_iff (n : Int) : short n = true ↔ -32768 ≤ n ∧ n ≤ 32767 := by unfold short; simp
theorem isExt_any {x : Ext} (h : isExt x = true) (ha : x.any = true) : (-32768 ≤ x.x0 ∧ x.x0 ≤ 32767) ∧ (-32768 ≤ x.y0 ∧ x.y0 ≤ 32767) ∧ (-32768 ≤ x.x1 ∧ x.x1 ≤ 32767) ∧ (-32768 ≤ x.y1 ∧ x.y1 ≤ 32767) ∧ x.x0 ≤ x.x1 ∧ x.y0 ≤ x.y1 := by
  unfold isExt at h
  rw [if_pos ha] at h
  simp only [Bool.and_eq_true, short_iff, decide_eq_true_eq, and_assoc] at h
  omega
theorem isExt_none {x : Ext} (h : isExt x = true) (ha : x.any = false) : x = none := by
  unfold isExt at h
  rw [if_neg (by rw [ha]; simp)] at h
  simp only [Bool.and_eq_true, decide_eq_true_eq, and_assoc] at h
  cases x
  simp only at ha h
  simp [none, ha, h.1, h.2.1, h.2.2.1, h.2.2.2]
def place (loca : List UInt8) (i : Nat) (long : Bool) : Int := if long = true then fld loca (4 * i) 4 else 2 * fld loca (2 * i) 2
def read (s : List UInt8) : Ext := ⟨true, fld s 2 (-2), fld s 4 (-2), fld s 6 (-2), fld s 8 (-2)⟩
/-- A glyph's extent. -/
def ext (s : List UInt8) : Ext × Int :=
  if s.length = 0 then (none, 0) else if s.length < 10 then (none, 4) else if isExt (read s) = false then (none, 5) else (read s, 0)
def step (loca glyf : List UInt8) (long : Bool) (i : Nat) : Ext × Int :=
  if place loca (i + 1) long < place loca i long then (none, 5)
  else if (glyf.length : Int) < place loca (i + 1) long then (none, 4)
  else ext ((glyf.drop (place loca i long).toNat).take ((place loca (i + 1) long).toNat - (place loca i long).toNat))
def wid (long : Bool) : Nat := if long = true then 4 else 2
def get (loca glyf : List UInt8) (glyphs : Int) (long : Bool) : List Ext × Int :=
  if glyphs < 1 ∨ 65535 < glyphs then ([], 1)
  else if (loca.length : Int) < wid long * (glyphs + 1) then ([], 4)
  else if scan (fun i => (step loca glyf long i).2) 0 glyphs.toNat ≠ 0 then ([], scan (fun i => (step loca glyf long i).2) 0 glyphs.toNat)
  else ((List.range glyphs.toNat).map fun i => (step loca glyf long i).1, 0)
/-- A glyph's bytes. -/
def body (x : Ext) : List UInt8 := if x.any = true then [0, 0] ++ bytes x.x0 2 ++ bytes x.y0 2 ++ bytes x.x1 2 ++ bytes x.y1 2 ++ [0, 0] else []
def bodies : List Ext → List UInt8
  | [] => []
  | x :: r => body x ++ bodies r
def off (l : List Ext) (i : Nat) : Nat := (bodies (l.take i)).length
def places (l : List Ext) (long : Bool) : List Int := (List.range (l.length + 1)).map fun i => if long = true then ((off l i : Nat) : Int) else ((off l i / 2 : Nat) : Int)
def loca (l : List Ext) (long : Bool) : List UInt8 := flat (wid long : Nat) (places l long)
def outlines (l : List Ext) : Nat := (l.filter Ext.any).length
def put (l : List Ext) (long : Bool) : List UInt8 × List UInt8 × Int :=
  if l.length < 1 ∨ 65535 < l.length ∨ l.all isExt = false then ([], [], 1)
  else if long = false ∧ 10922 < outlines l then ([], [], 7)
  else (loca l long, bodies l, 0)

theorem body_len (x : Ext) : (body x).length = if x.any = true then 12 else 0 := by
  unfold body
  by_cases h : x.any = true
  · rw [if_pos h, if_pos h]; simp [bytes_len]
  · rw [if_neg h, if_neg h]; rfl
theorem bodies_append : ∀ a b : List Ext, bodies (a ++ b) = bodies a ++ bodies b
  | [], b => rfl
  | x :: r, b => by rw [List.cons_append, bodies, bodies, bodies_append r b, List.append_assoc]
theorem bodies_len : ∀ l : List Ext, (bodies l).length = 12 * outlines l
  | [] => rfl
  | x :: r => by
    rw [bodies, List.length_append, body_len, bodies_len r]
    unfold outlines
    by_cases h : x.any = true
    · rw [if_pos h, List.filter_cons_of_pos h, List.length_cons]; omega
    · rw [if_neg h, List.filter_cons_of_neg h]; omega
theorem outlines_take (l : List Ext) (i : Nat) : outlines (l.take i) ≤ outlines l := by
  conv => rhs; rw [← List.take_append_drop i l]
  unfold outlines
  rw [List.filter_append, List.length_append]; omega
theorem outlines_le (l : List Ext) : outlines l ≤ l.length := List.length_filter_le _ _
theorem off_le (l : List Ext) (i : Nat) : off l i ≤ 12 * outlines l := by
  unfold off; rw [bodies_len]; have := outlines_take l i; omega
theorem off_even (l : List Ext) (i : Nat) : off l i % 2 = 0 := by unfold off; rw [bodies_len]; omega
theorem split_at {l : List Ext} {i : Nat} (hi : i < l.length) : l = l.take i ++ l.getD i none :: l.drop (i + 1) := by
  rw [show l.getD i none = l[i] by simp [List.getD, List.getElem?_eq_getElem hi], ← List.drop_eq_getElem_cons hi, List.take_append_drop]
theorem off_step {l : List Ext} {i : Nat} (hi : i < l.length) : off l (i + 1) = off l i + (body (l.getD i none)).length := by
  unfold off
  rw [List.take_succ_eq_append_getElem hi, bodies_append, List.length_append]
  simp [bodies, List.getD, List.getElem?_eq_getElem hi]
theorem places_len (l : List Ext) (long : Bool) : (places l long).length = l.length + 1 := by simp [places]
theorem places_at {l : List Ext} {long : Bool} {i : Nat} (hi : i ≤ l.length) : (places l long).getD i 0 = if long = true then ((off l i : Nat) : Int) else ((off l i / 2 : Nat) : Int) := by
  simp [places, List.getD, show i < l.length + 1 by omega]
theorem wid_size (long : Bool) : isSize ((wid long : Nat) : Int) = true := by cases long <;> decide
theorem wid_abs (long : Bool) : ((wid long : Nat) : Int).natAbs = wid long := by cases long <;> rfl
theorem loca_len (l : List Ext) (long : Bool) : (loca l long).length = wid long * (l.length + 1) := by
  unfold loca; rw [flat_len, places_len, wid_abs]
/-- What loca tells of what was put. -/
theorem place_put {l : List Ext} {long : Bool} (ho : outlines l ≤ if long = true then 65535 else 10922) (more : List UInt8) {i : Nat} (hi : i ≤ l.length) : place (loca l long ++ more) i long = ((off l i : Nat) : Int) := by
  have hle := off_le l i
  have hev := off_even l i
  cases long with
  | true =>
    simp only [if_true] at ho
    have := flat_at (size := 4) (by decide) (xs := places l true) (i := i) (by rw [places_len]; omega) (by rw [places_at hi, if_pos rfl]; unfold fits; rw [if_neg (by omega)]; simp; omega) more
    rw [places_at hi, if_pos rfl] at this
    exact this
  | false =>
    simp only [Bool.false_eq_true, if_false] at ho
    have := flat_at (size := 2) (by decide) (xs := places l false) (i := i) (by rw [places_len]; omega) (by rw [places_at hi, if_neg (by simp)]; unfold fits; rw [if_neg (by omega)]; simp; omega) more
    rw [places_at hi, if_neg (by simp)] at this
    show 2 * fld (flat 2 (places l false) ++ more) (2 * i) 2 = _
    rw [show fld (flat 2 (places l false) ++ more) (2 * i) 2 = ((off l i / 2 : Nat) : Int) from this]
    omega
theorem ext_body {x : Ext} (h : isExt x = true) : ext (body x) = (x, 0) := by
  by_cases ha : x.any = true
  · have hb : body x = [0, 0] ++ bytes x.x0 2 ++ bytes x.y0 2 ++ bytes x.x1 2 ++ bytes x.y1 2 ++ [0, 0] := by unfold body; rw [if_pos ha]
    obtain ⟨⟨a1, a2⟩, ⟨b1, b2⟩, ⟨c1, c2⟩, ⟨d1, d2⟩, _⟩ := isExt_any h ha
    have e1 : fld (body x) 2 (-2) = x.x0 := fld_at [0, 0] (bytes x.y0 2 ++ bytes x.x1 2 ++ bytes x.y1 2 ++ [0, 0]) _ (-2) 2 (by rw [hb]; simp only [List.append_assoc]; rfl) rfl (by decide) (fits2s a1 a2)
    have e2 : fld (body x) 4 (-2) = x.y0 := fld_at ([0, 0] ++ bytes x.x0 2) (bytes x.x1 2 ++ bytes x.y1 2 ++ [0, 0]) _ (-2) 4 (by rw [hb]; simp only [List.append_assoc]; rfl) (by simp [bytes_len]) (by decide) (fits2s b1 b2)
    have e3 : fld (body x) 6 (-2) = x.x1 := fld_at ([0, 0] ++ bytes x.x0 2 ++ bytes x.y0 2) (bytes x.y1 2 ++ [0, 0]) _ (-2) 6 (by rw [hb]; simp only [List.append_assoc]; rfl) (by simp [bytes_len]) (by decide) (fits2s c1 c2)
    have e4 : fld (body x) 8 (-2) = x.y1 := fld_at ([0, 0] ++ bytes x.x0 2 ++ bytes x.y0 2 ++ bytes x.x1 2) [0, 0] _ (-2) 8 (by rw [hb]; simp only [List.append_assoc]; rfl) (by simp [bytes_len]) (by decide) (fits2s d1 d2)
    have hr : read (body x) = x := by
      unfold read
      rw [e1, e2, e3, e4]
      cases x
      simp only at ha
      rw [ha]
    unfold ext
    rw [hr, h, body_len, if_pos ha, if_neg (by omega), if_neg (by omega), if_neg (by simp)]
  · have ha' : x.any = false := by simpa using ha
    rw [isExt_none h ha']
    rfl
theorem step_put {l : List Ext} {long : Bool} (ho : outlines l ≤ if long = true then 65535 else 10922) (hall : l.all isExt = true) (more more2 : List UInt8) {i : Nat} (hi : i < l.length) : step (loca l long ++ more) (bodies l ++ more2) long i = (l.getD i none, 0) := by
  have hst := off_step hi
  have hx : isExt (l.getD i none) = true := List.all_eq_true.1 hall _ (by simp [List.getD, List.getElem?_eq_getElem hi])
  have hb : bodies l = bodies (l.take i) ++ (body (l.getD i none) ++ bodies (l.drop (i + 1))) := by
    conv => lhs; rw [split_at hi]
    rw [bodies_append, bodies]
  have hlen : off l (i + 1) ≤ (bodies l).length := by
    rw [hb, List.length_append, List.length_append, hst]; unfold off; omega
  unfold step
  rw [place_put ho more (i := i) (by omega), place_put ho more (i := i + 1) (by omega), if_neg (by omega), if_neg (by rw [List.length_append]; omega), Int.toNat_natCast, Int.toNat_natCast]
  have hs : ((bodies l ++ more2).drop (off l i)).take (off l (i + 1) - off l i) = body (l.getD i none) := by
    rw [hst, Nat.add_sub_cancel_left, hb]
    simp only [List.append_assoc]
    unfold off
    rw [List.drop_left, List.take_left]
  rw [hs, ext_body hx]
theorem put_ok {l : List Ext} {long : Bool} (h : (put l long).2.2 = 0) : (1 ≤ l.length ∧ l.length ≤ 65535) ∧ l.all isExt = true ∧ (outlines l ≤ if long = true then 65535 else 10922) ∧ (put l long).1 = loca l long ∧ (put l long).2.1 = bodies l := by
  unfold put at *
  by_cases c1 : l.length < 1 ∨ 65535 < l.length ∨ l.all isExt = false
  · rw [if_pos c1] at h; cases h
  · rw [if_neg c1] at h ⊢
    by_cases c2 : long = false ∧ 10922 < outlines l
    · rw [if_pos c2] at h; cases h
    · rw [if_neg c2]
      have := outlines_le l
      refine ⟨by omega, ?_, ?_, rfl, rfl⟩
      · cases e : l.all isExt with
        | true => rfl
        | false => exact absurd (.inr (.inr e)) c1
      · cases long with
        | true => simp only [if_true]; omega
        | false => simp only [Bool.false_eq_true, if_false]; simp at c2; omega
theorem put_refused {l : List Ext} {long : Bool} (h : (put l long).2.2 ≠ 0) : (put l long).1 = [] ∧ (put l long).2.1 = [] := by
  unfold put at *
  by_cases c1 : l.length < 1 ∨ 65535 < l.length ∨ l.all isExt = false
  · rw [if_pos c1]; exact ⟨rfl, rfl⟩
  · rw [if_neg c1] at h ⊢
    by_cases c2 : long = false ∧ 10922 < outlines l
    · rw [if_pos c2]; exact ⟨rfl, rfl⟩
    · rw [if_neg c2] at h; exact absurd rfl h
/-- What is put is got, whatever stands behind. -/
theorem get_put {l : List Ext} {long : Bool} (h : (put l long).2.2 = 0) (more more2 : List UInt8) : get ((put l long).1 ++ more) ((put l long).2.1 ++ more2) l.length long = (l, 0) := by
  obtain ⟨⟨h1, h2⟩, hall, ho, e1, e2⟩ := put_ok h
  rw [e1, e2]
  have hz : scan (fun i => (step (loca l long ++ more) (bodies l ++ more2) long i).2) 0 l.length = 0 :=
    scan_zero _ _ _ fun j _ hj => by rw [step_put ho hall more more2 (by omega)]
  have hlen : (((loca l long ++ more).length : Nat) : Int) ≥ wid long * ((l.length : Nat) + 1 : Int) := by
    rw [List.length_append, loca_len]
    have : ((wid long * (l.length + 1) : Nat) : Int) = (wid long : Int) * ((l.length : Nat) + 1 : Int) := by simp
    omega
  unfold get
  rw [if_neg (by omega), if_neg (by omega), Int.toNat_natCast, hz, if_neg (by simp)]
  congr 1
  apply List.ext_getElem
  · simp
  · intro j h3 h4
    simp only [List.getElem_map, List.getElem_range]
    rw [step_put ho hall more more2 h4]
    simp [List.getD, List.getElem?_eq_getElem h4]
/-- Few extents are put both ways, or neither. -/
theorem put_both {l : List Ext} (h : l.length ≤ 300) : (put l true).2.2 = (put l false).2.2 ∧ ((put l true).2.2 = 0 → (put l true).1.length = 2 * (put l false).1.length ∧ (put l true).2.1 = (put l false).2.1) := by
  have := outlines_le l
  unfold put
  by_cases c1 : l.length < 1 ∨ 65535 < l.length ∨ l.all isExt = false
  · rw [if_pos c1, if_pos c1]; exact ⟨rfl, fun _ => ⟨rfl, rfl⟩⟩
  · rw [if_neg c1, if_neg c1, if_neg (by simp), if_neg (by simp; omega)]
    refine ⟨rfl, fun _ => ⟨?_, rfl⟩⟩
    show (loca l true).length = 2 * (loca l false).length
    rw [loca_len, loca_len]
    show 4 * (l.length + 1) = 2 * (2 * (l.length + 1))
    omega
theorem ext_ok {s : List UInt8} (h : (ext s).2 = 0) : isExt (ext s).1 = true := by
  unfold ext at *
  by_cases c1 : s.length = 0
  · rw [if_pos c1]; rfl
  · rw [if_neg c1] at h ⊢
    by_cases c2 : s.length < 10
    · rw [if_pos c2] at h; cases h
    · rw [if_neg c2] at h ⊢
      by_cases c3 : isExt (read s) = false
      · rw [if_pos c3] at h; cases h
      · rw [if_neg c3]; simpa using c3
theorem step_ok {a b : List UInt8} {long : Bool} {i : Nat} (h : (step a b long i).2 = 0) : isExt (step a b long i).1 = true := by
  unfold step at *
  by_cases c1 : place a (i + 1) long < place a i long
  · rw [if_pos c1] at h; cases h
  · rw [if_neg c1] at h ⊢
    by_cases c2 : (b.length : Int) < place a (i + 1) long
    · rw [if_pos c2] at h; cases h
    · rw [if_neg c2] at h ⊢; exact ext_ok h
theorem get_ok {a b : List UInt8} {glyphs : Int} {long : Bool} (h : (get a b glyphs long).2 = 0) : (1 ≤ glyphs ∧ glyphs ≤ 65535) ∧ wid long * (glyphs + 1) ≤ a.length ∧ (get a b glyphs long).1.length = glyphs.toNat ∧ (get a b glyphs long).1.all isExt = true := by
  unfold get at *
  by_cases c1 : glyphs < 1 ∨ 65535 < glyphs
  · rw [if_pos c1] at h; cases h
  · rw [if_neg c1] at h ⊢
    by_cases c2 : (a.length : Int) < wid long * (glyphs + 1)
    · rw [if_pos c2] at h; cases h
    · rw [if_neg c2] at h ⊢
      by_cases c3 : scan (fun i => (step a b long i).2) 0 glyphs.toNat ≠ 0
      · rw [if_pos c3] at h; exact absurd h c3
      · rw [if_neg c3]
        refine ⟨by omega, by omega, by simp, ?_⟩
        rw [List.all_eq_true]
        intro x hx
        obtain ⟨i, hi, rfl⟩ := List.mem_map.1 hx
        exact step_ok (scan_all _ _ _ (by simpa using c3) i (by omega) (by have := List.mem_range.1 hi; omega))
theorem get_none {a b : List UInt8} {glyphs : Int} {long : Bool} (h : (get a b glyphs long).2 ≠ 0) : (get a b glyphs long).1 = [] := by
  unfold get at *
  by_cases c1 : glyphs < 1 ∨ 65535 < glyphs
  · rw [if_pos c1]
  · rw [if_neg c1] at h ⊢
    by_cases c2 : (a.length : Int) < wid long * (glyphs + 1)
    · rw [if_pos c2]
    · rw [if_neg c2] at h ⊢
      by_cases c3 : scan (fun i => (step a b long i).2) 0 glyphs.toNat ≠ 0
      · rw [if_pos c3]
      · rw [if_neg c3] at h; exact absurd rfl h
/-- What is got from short tables is put, and got again as it was. -/
theorem get_again {a b : List UInt8} {g : Nat} {long : Bool} (hs : a.length ≤ 4000) (h : (get a b g long).2 = 0) : (put (get a b g long).1 long).2.2 = 0 ∧ get (put (get a b g long).1 long).1 (put (get a b g long).1 long).2.1 g long = ((get a b g long).1, 0) := by
  obtain ⟨⟨g1, g2⟩, hw, hlen, hall⟩ := get_ok h
  rw [Int.toNat_natCast] at hlen
  have hol := outlines_le (get a b g long).1
  have hp : (put (get a b g long).1 long).2.2 = 0 := by
    unfold put
    rw [if_neg (by rw [hlen, hall]; simp; omega)]
    rw [if_neg (by
      rintro ⟨rfl, hbig⟩
      have : (wid false : Int) = 2 := rfl
      rw [this] at hw
      omega)]
  refine ⟨hp, ?_⟩
  have := get_put hp [] []
  rw [List.append_nil, List.append_nil, hlen] at this
  exact this
end Gl
/-
  Plain functions on bytes (layer 8, chart), with nothing of the program: spans of runes, got and put by formats 0 and 6; facts on them. No conditions beyond those stated.
-/
namespace Ch
open Bn He

structure Span where
  fr : Int
  to : Int
  gl : Int
  st : Int
def okSpan (x : Span) : Bool :=
  decide (0 ≤ x.fr) && decide (x.fr ≤ x.to) && decide (x.to ≤ 1114111) && decide (0 ≤ x.st) && decide (x.st ≤ 1) && decide (0 ≤ x.gl) && decide (x.gl ≤ 65535) && decide (x.gl + x.st * (x.to - x.fr) ≤ 65535)
theorem okSpan_iff (x : Span) : okSpan x = true ↔ 0 ≤ x.fr ∧ x.fr ≤ x.to ∧ x.to ≤ 1114111 ∧ 0 ≤ x.st ∧ x.st ≤ 1 ∧ 0 ≤ x.gl ∧ x.gl ≤ 65535 ∧ x.gl + x.st * (x.to - x.fr) ≤ 65535 := by
  unfold okSpan
  simp only [Bool.and_eq_true, decide_eq_true_eq, and_assoc]
/-- Right spans, behind a rune. -/
def chain : Int → List Span → Bool
  | _, [] => true
  | p, x :: r => okSpan x && decide (p < x.fr) && chain x.to r
def isL (l : List Span) : Bool := chain (-1) l && decide (l.length ≤ 65536)
def glyphOf (x : Span) (c : Int) : Int := x.gl + x.st * (c - x.fr)
def look : List Span → Int → Int
  | [], _ => 0
  | x :: r, c => if x.fr ≤ c ∧ c ≤ x.to then glyphOf x c else look r c
def Look (l : List Span) (c : Int) : Int := if isL l = true then look l c else 0
theorem glyphOf_bound {x : Span} (h : okSpan x = true) {c : Int} (h1 : x.fr ≤ c) (h2 : c ≤ x.to) : 0 ≤ glyphOf x c ∧ glyphOf x c ≤ 65535 := by
  obtain ⟨a1, a2, a3, a4, a5, a6, a7, a8⟩ := (okSpan_iff x).1 h
  unfold glyphOf
  rcases (show x.st = 0 ∨ x.st = 1 by omega) with e | e
  · rw [e] at a8 ⊢; omega
  · rw [e] at a8 ⊢; omega
theorem look_bound : ∀ (l : List Span) (p : Int), chain p l = true → ∀ c, 0 ≤ look l c ∧ look l c ≤ 65535
  | [], _, _, _ => by simp [look]
  | x :: r, p, h, c => by
    simp only [chain, Bool.and_eq_true, decide_eq_true_eq] at h
    rw [look]
    by_cases e : x.fr ≤ c ∧ c ≤ x.to
    · rw [if_pos e]; exact glyphOf_bound h.1.1 e.1 e.2
    · rw [if_neg e]; exact look_bound r x.to h.2 c
theorem look_low : ∀ (l : List Span) (p : Int), chain p l = true → ∀ c, c ≤ p → look l c = 0
  | [], _, _, _, _ => rfl
  | x :: r, p, h, c, hc => by
    simp only [chain, Bool.and_eq_true, decide_eq_true_eq] at h
    obtain ⟨a1, a2, _⟩ := (okSpan_iff x).1 h.1.1
    rw [look, if_neg (by omega)]
    exact look_low r x.to h.2 c (by omega)

/-- One span for each rune that has a glyph, n runes from a on. -/
def spansOf (h : Int → Int) : Int → Nat → List Span
  | _, 0 => []
  | a, n + 1 => (if h a = 0 then [] else [⟨a, a, h a, 1⟩]) ++ spansOf h (a + 1) n
theorem spansOf_len (h : Int → Int) : ∀ (n : Nat) (a : Int), (spansOf h a n).length ≤ n
  | 0, _ => by simp [spansOf]
  | n + 1, a => by
    have := spansOf_len h n (a + 1)
    rw [spansOf, List.length_append]
    by_cases e : h a = 0
    · rw [if_pos e]; simp; omega
    · rw [if_neg e]; simp; omega
theorem look_spansOf (h : Int → Int) : ∀ (n : Nat) (a c : Int), look (spansOf h a n) c = if a ≤ c ∧ c < a + n then h c else 0
  | 0, a, c => by rw [spansOf, look, if_neg (by omega)]
  | n + 1, a, c => by
    rw [spansOf]
    by_cases e : h a = 0
    · rw [if_pos e, List.nil_append, look_spansOf h n]
      by_cases hc : c = a
      · rw [if_neg (by omega), if_pos (by omega), hc, e]
      · by_cases hr : a + 1 ≤ c ∧ c < a + 1 + n
        · rw [if_pos hr, if_pos (by omega)]
        · rw [if_neg hr, if_neg (by omega)]
    · rw [if_neg e, List.cons_append, List.nil_append, look]
      by_cases hc : c = a
      · rw [if_pos (by simp; omega), if_pos (by omega), hc]
        unfold glyphOf
        simp
      · rw [if_neg (by simp; omega), look_spansOf h n]
        by_cases hr : a + 1 ≤ c ∧ c < a + 1 + n
        · rw [if_pos hr, if_pos (by omega)]
        · rw [if_neg hr, if_neg (by omega)]
theorem chain_spansOf (h : Int → Int) (hb : ∀ c, 0 ≤ h c ∧ h c ≤ 65535) : ∀ (n : Nat) (a p : Int), p < a → 0 ≤ a → a + n ≤ 1114112 → chain p (spansOf h a n) = true
  | 0, _, _, _, _, _ => rfl
  | n + 1, a, p, hp, ha, hn => by
    have hba := hb a
    rw [spansOf]
    by_cases e : h a = 0
    · rw [if_pos e, List.nil_append]
      exact chain_spansOf h hb n (a + 1) p (by omega) (by omega) (by omega)
    · rw [if_neg e, List.cons_append, List.nil_append, chain]
      rw [chain_spansOf h hb n (a + 1) a (by omega) (by omega) (by omega)]
      have h1 : okSpan ⟨a, a, h a, 1⟩ = true := (okSpan_iff _).2 ⟨ha, by simp, by simp; omega, by simp, by simp, hba.1, hba.2, by simp; omega⟩
      rw [h1]
      simp
      omega
theorem isL_spansOf (h : Int → Int) (hb : ∀ c, 0 ≤ h c ∧ h c ≤ 65535) (n : Nat) (a : Int) (ha : 0 ≤ a) (hn : a + n ≤ 65536) : isL (spansOf h a n) = true := by
  unfold isL
  rw [chain_spansOf h hb n a (-1) (by omega) ha (by omega)]
  have := spansOf_len h n a
  simp
  omega
theorem spansOf_append (h : Int → Int) : ∀ (n : Nat) (a : Int) (m : Nat), spansOf h a (n + m) = spansOf h a n ++ spansOf h (a + n) m
  | 0, a, m => by simp [spansOf]
  | n + 1, a, m => by
    rw [show n + 1 + m = (n + m) + 1 by omega, spansOf, spansOf, spansOf_append h n (a + 1) m, List.append_assoc, show a + 1 + (n : Int) = a + ((n + 1 : Nat) : Int) by omega]
theorem spansOf_zero (h : Int → Int) : ∀ (n : Nat) (a : Int), (∀ c, a ≤ c → c < a + n → h c = 0) → spansOf h a n = []
  | 0, _, _ => rfl
  | n + 1, a, hz => by rw [spansOf, if_pos (hz a (by omega) (by omega)), List.nil_append, spansOf_zero h n (a + 1) fun c h1 h2 => hz c (by omega) (by omega)]
theorem spansOf_congr (h k : Int → Int) : ∀ (n : Nat) (a : Int), (∀ c, a ≤ c → c < a + n → h c = k c) → spansOf h a n = spansOf k a n
  | 0, _, _ => rfl
  | n + 1, a, he => by rw [spansOf, spansOf, he a (by omega) (by omega), spansOf_congr h k n (a + 1) fun c h1 h2 => he c (by omega) (by omega)]
/-- A wider row with nothing at its ends. -/
theorem spansOf_wider (h : Int → Int) (a b : Int) (n m : Nat) (h1 : b ≤ a) (h2 : a + n ≤ b + m) (hz : ∀ c, c < a ∨ a + n ≤ c → h c = 0) : spansOf h b m = spansOf h a n := by
  have e : m = (a - b).toNat + (n + (b + m - (a + n)).toNat) := by omega
  rw [e, spansOf_append, spansOf_append, spansOf_zero h (a - b).toNat b fun c _ hc => hz c (by omega), List.nil_append, show b + ((a - b).toNat : Int) = a by omega,
    spansOf_zero h _ (a + n) fun c hc _ => hz c (by omega), List.append_nil]
theorem spansOf_two (h : Int → Int) (a b : Int) (n m : Nat) (ha : ∀ c, c < a ∨ a + n ≤ c → h c = 0) (hb : ∀ c, c < b ∨ b + m ≤ c → h c = 0) : spansOf h a n = spansOf h b m := by
  have lo : min a b ≤ a ∧ min a b ≤ b := ⟨by omega, by omega⟩
  obtain ⟨k, hk⟩ : ∃ k : Nat, (k : Int) = max (a + n) (b + m) - min a b := ⟨(max (a + n) (b + m) - min a b).toNat, by omega⟩
  rw [← spansOf_wider h a (min a b) n k (by omega) (by omega) ha, spansOf_wider h b (min a b) m k (by omega) (by omega) hb]

/-- The first and the last rune that has a glyph; below 0: none has. -/
def endStep (p : Int × Int) (x : Span) : Int × Int :=
  if x.gl = 0 ∧ x.st = 0 ∨ x.to < (if x.gl = 0 then x.fr + 1 else x.fr) then p else (if p.1 < 0 then (if x.gl = 0 then x.fr + 1 else x.fr) else p.1, x.to)
def ends (l : List Span) : Int × Int := l.foldl endStep (-1, -1)
theorem ends_fold : ∀ (l : List Span) (p : Int) (q : Int × Int), chain p l = true → (q.1 < 0 ∨ q.1 ≤ q.2 ∧ q.2 ≤ p) →
    (0 ≤ q.1 → (l.foldl endStep q).1 = q.1 ∧ q.2 ≤ (l.foldl endStep q).2) ∧ (0 ≤ (l.foldl endStep q).1 → (l.foldl endStep q).1 ≤ (l.foldl endStep q).2) ∧
    ((l.foldl endStep q).2 ≤ 1114111 ∨ (l.foldl endStep q).2 = q.2) ∧ (∀ c, look l c ≠ 0 → 0 ≤ (l.foldl endStep q).1 ∧ (l.foldl endStep q).1 ≤ c ∧ c ≤ (l.foldl endStep q).2)
  | [], p, q, _, hq => by
    refine ⟨fun h => ⟨rfl, Int.le_refl _⟩, fun h => ?_, .inr rfl, fun c hc => absurd rfl hc⟩
    simp only [List.foldl_nil] at h ⊢
    omega
  | x :: r, p, q, h, hq => by
    simp only [chain, Bool.and_eq_true, decide_eq_true_eq] at h
    obtain ⟨⟨hx, hp⟩, hr⟩ := h
    obtain ⟨a1, a2, a3, a4, a5, a6, a7, a8⟩ := (okSpan_iff x).1 hx
    rw [List.foldl_cons]
    by_cases hs : x.gl = 0 ∧ x.st = 0 ∨ x.to < (if x.gl = 0 then x.fr + 1 else x.fr)
    · have es : endStep q x = q := by unfold endStep; rw [if_pos hs]
      rw [es]
      obtain ⟨i1, i2, i3, i4⟩ := ends_fold r x.to q hr (by omega)
      refine ⟨i1, i2, i3, fun c hc => ?_⟩
      rw [look] at hc
      by_cases e : x.fr ≤ c ∧ c ≤ x.to
      · exfalso
        rw [if_pos e] at hc
        apply hc
        unfold glyphOf
        rcases hs with ⟨g0, s0⟩ | hs
        · rw [g0, s0]; simp
        · by_cases g0 : x.gl = 0
          · rw [if_pos g0] at hs
            rw [g0, show c = x.fr by omega]; simp
          · rw [if_neg g0] at hs; omega
      · rw [if_neg e] at hc; exact i4 c hc
    · have es : endStep q x = (if q.1 < 0 then (if x.gl = 0 then x.fr + 1 else x.fr) else q.1, x.to) := by unfold endStep; rw [if_neg hs]
      rw [es]
      have hfr : x.fr ≤ (if x.gl = 0 then x.fr + 1 else x.fr) := by by_cases g0 : x.gl = 0 <;> simp [g0] <;> omega
      have hnt : (if x.gl = 0 then x.fr + 1 else x.fr) ≤ x.to := by
        rcases Int.lt_or_le x.to (if x.gl = 0 then x.fr + 1 else x.fr) with h1 | h1
        · exact absurd (.inr h1) hs
        · exact h1
      have hgl : ∀ c, x.fr ≤ c → c ≤ x.to → glyphOf x c ≠ 0 → (if x.gl = 0 then x.fr + 1 else x.fr) ≤ c := by
        intro c h1 h2 h3
        by_cases g0 : x.gl = 0
        · rw [if_pos g0]
          by_cases e : c = x.fr
          · exfalso; apply h3; unfold glyphOf; rw [g0, e]; simp
          · omega
        · rw [if_neg g0]; exact h1
      generalize (if x.gl = 0 then x.fr + 1 else x.fr) = f at *
      obtain ⟨i1, i2, i3, i4⟩ := ends_fold r x.to (if q.1 < 0 then f else q.1, x.to) hr (by
        by_cases e : q.1 < 0
        · rw [if_pos e]; exact .inr ⟨hnt, Int.le_refl _⟩
        · rw [if_neg e]; exact .inr ⟨by simp only; omega, Int.le_refl _⟩)
      have hq0 : 0 ≤ (if q.1 < 0 then f else q.1) := by
        by_cases e : q.1 < 0
        · rw [if_pos e]; omega
        · rw [if_neg e]; omega
      obtain ⟨j1, j2⟩ := i1 hq0
      simp only at j1 j2
      refine ⟨fun h0 => ⟨by rw [j1, if_neg (by omega)], by omega⟩, i2, ?_, fun c hc => ?_⟩
      · rcases i3 with h3 | h3
        · exact .inl h3
        · left; rw [h3]; exact a3
      · rw [look] at hc
        by_cases e : x.fr ≤ c ∧ c ≤ x.to
        · rw [if_pos e] at hc
          have := hgl c e.1 e.2 hc
          refine ⟨by rw [j1]; exact hq0, ?_, by omega⟩
          rw [j1]
          by_cases e2 : q.1 < 0
          · rw [if_pos e2]; exact this
          · rw [if_neg e2]; omega
        · rw [if_neg e] at hc; exact i4 c hc
theorem ends_spec {l : List Span} (h : isL l = true) : (0 ≤ (ends l).1 → (ends l).1 ≤ (ends l).2 ∧ (ends l).2 ≤ 1114111) ∧ ∀ c, look l c ≠ 0 → 0 ≤ (ends l).1 ∧ (ends l).1 ≤ c ∧ c ≤ (ends l).2 := by
  unfold isL at h
  simp only [Bool.and_eq_true, decide_eq_true_eq] at h
  obtain ⟨_, i2, i3, i4⟩ := ends_fold l (-1) (-1, -1) h.1 (.inl (by simp))
  refine ⟨fun h0 => ⟨i2 h0, ?_⟩, i4⟩
  rcases i3 with h3 | h3
  · exact h3
  · have := i2 h0
    unfold ends at *
    rw [h3] at this ⊢
    simp only at this ⊢
    omega

theorem spansOf_mem (h : Int → Int) : ∀ (n : Nat) (a : Int) (x : Span), x ∈ spansOf h a n → a ≤ x.fr ∧ x.to < a + n ∧ x.to = x.fr ∧ x.gl ≠ 0 ∧ x.st = 1
  | 0, _, _, hx => by simp [spansOf] at hx
  | n + 1, a, x, hx => by
    rw [spansOf, List.mem_append] at hx
    rcases hx with hx | hx
    · by_cases e : h a = 0
      · rw [if_pos e] at hx; simp at hx
      · rw [if_neg e] at hx
        simp only [List.mem_singleton] at hx
        subst hx
        exact ⟨Int.le_refl _, by simp only; omega, rfl, e, rfl⟩
    · obtain ⟨i1, i2, i3⟩ := spansOf_mem h n (a + 1) x hx
      exact ⟨by omega, by omega, i3⟩
theorem fold_in (lo hi : Int) : ∀ (l : List Span) (q : Int × Int), (∀ x ∈ l, lo ≤ x.fr ∧ x.to < hi) → (0 ≤ q.1 → lo ≤ q.1 ∧ q.2 < hi) → 0 ≤ (l.foldl endStep q).1 → lo ≤ (l.foldl endStep q).1 ∧ (l.foldl endStep q).2 < hi
  | [], q, _, hq, h0 => hq h0
  | x :: r, q, hl, hq, h0 => by
    rw [List.foldl_cons] at h0 ⊢
    refine fold_in lo hi r _ (fun y hy => hl y (by simp [hy])) ?_ h0
    obtain ⟨h1, h2⟩ := hl x (by simp)
    intro h3
    unfold endStep at *
    by_cases hs : x.gl = 0 ∧ x.st = 0 ∨ x.to < (if x.gl = 0 then x.fr + 1 else x.fr)
    · rw [if_pos hs] at h3 ⊢; exact hq h3
    · rw [if_neg hs] at h3 ⊢
      simp only at h3 ⊢
      refine ⟨?_, h2⟩
      by_cases e : q.1 < 0
      · rw [if_pos e]
        by_cases g0 : x.gl = 0
        · rw [if_pos g0]; omega
        · rw [if_neg g0]; exact h1
      · rw [if_neg e]; exact (hq (by omega)).1
theorem ends_in (f : Int → Int) (n : Nat) (a : Int) (h0 : 0 ≤ (ends (spansOf f a n)).1) : a ≤ (ends (spansOf f a n)).1 ∧ (ends (spansOf f a n)).2 < a + n :=
  fold_in a (a + n) _ _ (fun x hx => ⟨(spansOf_mem f n a x hx).1, (spansOf_mem f n a x hx).2.1⟩) (fun h => by simp at h) h0

/-! Formats 0 and 6. -/
def byteAt (s : List UInt8) (p : Nat) : Int := ((s.getD p 0).toNat : Int)
def get (s : List UInt8) : List Span × Int :=
  if s.length < 4 then ([], 4)
  else if fld s 0 2 = 0 then
    (if fld s 2 2 ≠ 262 then ([], 5) else if s.length < 262 then ([], 4) else (spansOf (fun c => byteAt s (6 + c.toNat)) 0 256, 0))
  else if fld s 0 2 ≠ 6 then ([], 5)
  else if s.length < 10 then ([], 4)
  else if fld s 2 2 ≠ 10 + 2 * fld s 8 2 then ([], 5)
  else if (s.length : Int) < fld s 2 2 then ([], 4)
  else if 65536 < fld s 6 2 + fld s 8 2 then ([], 5)
  else (spansOf (fun c => fld s (10 + 2 * (c - fld s 6 2).toNat) 2) (fld s 6 2) (fld s 8 2).toNat, 0)
def small (l : List Span) : List UInt8 := (List.range 256).map fun c : Nat => UInt8.ofNat (look l (c : Int)).toNat
def putSmall (l : List Span) : List UInt8 × Int :=
  if isL l = false then ([], 1)
  else if 0 ≤ (ends l).1 ∧ 255 < (ends l).2 then ([], 7)
  else if (List.range 256).any (fun c : Nat => decide (255 < look l (c : Int))) = true then ([], 7)
  else ([0, 0, 1, 6, 0, 0] ++ small l, 0)
def first (l : List Span) : Int := if 0 ≤ (ends l).1 then (ends l).1 else 0
def count (l : List Span) : Int := if 0 ≤ (ends l).1 then (ends l).2 - (ends l).1 + 1 else 0
def trimmed (l : List Span) : List UInt8 := [0, 6] ++ bytes (10 + 2 * count l) 2 ++ [0, 0] ++ bytes (first l) 2 ++ bytes (count l) 2 ++ flat 2 ((List.range (count l).toNat).map fun i => look l (first l + (i : Nat)))
def putTrimmed (l : List Span) : List UInt8 × Int :=
  if isL l = false then ([], 1)
  else if 0 ≤ (ends l).1 ∧ 65535 < (ends l).2 then ([], 7)
  else if 32762 < count l then ([], 7)
  else (trimmed l, 0)

theorem look_b {l : List Span} (h : isL l = true) (c : Int) : 0 ≤ look l c ∧ look l c ≤ 65535 := by
  unfold isL at h
  simp only [Bool.and_eq_true, decide_eq_true_eq] at h
  exact look_bound l (-1) h.1 c
theorem fld_bound (s : List UInt8) (p : Nat) : 0 ≤ fld s p 2 ∧ fld s p 2 ≤ 65535 := by
  unfold fld one
  rw [if_neg (by omega)]
  have := be_lt ((s.drop p).take 2)
  have hl : ((s.drop p).take 2).length ≤ 2 := by simp; omega
  have : be ((s.drop p).take 2) < 256 ^ 2 := Nat.lt_of_lt_of_le this (Nat.pow_le_pow_right (by omega) hl)
  have : (256 : Nat) ^ 2 = 65536 := rfl
  constructor
  · omega
  · show (be ((s.drop p).take 2) : Int) ≤ 65535
    omega
theorem byteAt_bound (s : List UInt8) (p : Nat) : 0 ≤ byteAt s p ∧ byteAt s p ≤ 65535 := by
  unfold byteAt
  have := UInt8.toNat_lt (s.getD p 0)
  omega
/-- What is put by format 0 is got as the same glyphs. -/
theorem get_small {l : List Span} (h : (putSmall l).2 = 0) : (get (putSmall l).1).2 = 0 ∧ isL (get (putSmall l).1).1 = true ∧ ∀ c, look (get (putSmall l).1).1 c = look l c := by
  unfold putSmall at *
  by_cases c1 : isL l = false
  · rw [if_pos c1] at h; cases h
  · rw [if_neg c1] at h ⊢
    have hl : isL l = true := by simpa using c1
    by_cases c2 : 0 ≤ (ends l).1 ∧ 255 < (ends l).2
    · rw [if_pos c2] at h; cases h
    · rw [if_neg c2] at h ⊢
      by_cases c3 : (List.range 256).any (fun c : Nat => decide (255 < look l (c : Int))) = true
      · rw [if_pos c3] at h; cases h
      · rw [if_neg c3]
        have hsm : ∀ c : Nat, c < 256 → look l c ≤ 255 := by
          intro c hc
          rw [Bool.not_eq_true, List.any_eq_false] at c3
          have := c3 c (List.mem_range.2 hc)
          simp at this
          exact this
        have hslen : (small l).length = 256 := by simp [small]
        have hlen : ([0, 0, 1, 6, 0, 0] ++ small l).length = 262 := by rw [List.length_append, hslen]; rfl
        have f0 : fld ([0, 0, 1, 6, 0, 0] ++ small l) 0 2 = 0 := rfl
        have f2 : fld ([0, 0, 1, 6, 0, 0] ++ small l) 2 2 = 262 := rfl
        have hby : ∀ c : Int, 0 ≤ c → c < 256 → byteAt ([0, 0, 1, 6, 0, 0] ++ small l) (6 + c.toNat) = look l c := by
          intro c h0 h1
          obtain ⟨k, rfl⟩ := Int.eq_ofNat_of_zero_le h0
          have hk : k < 256 := by omega
          have hb := look_b hl (k : Int)
          have hs := hsm k hk
          unfold byteAt
          have e : ([0, 0, 1, 6, 0, 0] ++ small l).getD (6 + (k : Int).toNat) 0 = UInt8.ofNat (look l k).toNat := by
            rw [Int.toNat_natCast]
            simp only [List.getD]
            rw [List.getElem?_append_right (by simp)]
            simp [small, hk]
          rw [e, UInt8.toNat_ofNat_of_lt' (by simp [UInt8.size]; omega)]
          omega
        have hg : get ([0, 0, 1, 6, 0, 0] ++ small l) = (spansOf (fun c => byteAt ([0, 0, 1, 6, 0, 0] ++ small l) (6 + c.toNat)) 0 256, 0) := by
          unfold get
          rw [f0, f2, hlen, if_neg (by omega), if_pos rfl, if_neg (by simp), if_neg (by omega)]
        rw [hg]
        refine ⟨rfl, isL_spansOf (fun c => byteAt ([0, 0, 1, 6, 0, 0] ++ small l) (6 + c.toNat)) (fun c => byteAt_bound _ _) 256 0 (by omega) (by omega), fun c => ?_⟩
        rw [look_spansOf]
        by_cases hc : (0 : Int) ≤ c ∧ c < 0 + ((256 : Nat) : Int)
        · rw [if_pos hc]; exact hby c (by omega) (by omega)
        · rw [if_neg hc]
          by_cases hz : look l c = 0
          · exact hz.symm
          · exfalso
            obtain ⟨e1, e2⟩ := ends_spec hl
            obtain ⟨k1, k2, k3⟩ := e2 c hz
            omega
theorem count_nonneg {l : List Span} (h : isL l = true) : 0 ≤ count l ∧ 0 ≤ first l := by
  obtain ⟨e1, _⟩ := ends_spec h
  unfold count first
  by_cases h0 : 0 ≤ (ends l).1
  · rw [if_pos h0, if_pos h0]; have := e1 h0; omega
  · rw [if_neg h0, if_neg h0]; omega
/-- What is put by format 6 is got as one span for each rune. -/
theorem get_trimmed {l : List Span} (h : (putTrimmed l).2 = 0) : isL l = true ∧ get (putTrimmed l).1 = (spansOf (look l) (first l) (count l).toNat, 0) ∧ (∀ c, c < first l ∨ first l + ((count l).toNat : Nat) ≤ c → look l c = 0) ∧ first l + ((count l).toNat : Nat) ≤ 65536 := by
  unfold putTrimmed at *
  by_cases c1 : isL l = false
  · rw [if_pos c1] at h; cases h
  · rw [if_neg c1] at h ⊢
    have hl : isL l = true := by simpa using c1
    by_cases c2 : 0 ≤ (ends l).1 ∧ 65535 < (ends l).2
    · rw [if_pos c2] at h; cases h
    · rw [if_neg c2] at h ⊢
      by_cases c3 : 32762 < count l
      · rw [if_pos c3] at h; cases h
      · rw [if_neg c3]
        obtain ⟨n0, f0⟩ := count_nonneg hl
        obtain ⟨e1, e2⟩ := ends_spec hl
        have hfc : first l + count l ≤ 65536 ∧ first l ≤ 65535 := by
          unfold first count
          by_cases h0 : 0 ≤ (ends l).1
          · rw [if_pos h0, if_pos h0]; have := e1 h0; omega
          · rw [if_neg h0, if_neg h0]; omega
        have hout : ∀ c, c < first l ∨ first l + ((count l).toNat : Nat) ≤ c → look l c = 0 := by
          intro c hc
          by_cases hz : look l c = 0
          · exact hz
          · exfalso
            obtain ⟨k1, k2, k3⟩ := e2 c hz
            rw [Int.toNat_of_nonneg n0] at hc
            unfold first count at hc
            rw [if_pos k1, if_pos k1] at hc
            omega
        refine ⟨hl, ?_, hout, by rw [Int.toNat_of_nonneg n0]; exact hfc.1⟩
        have hgl : ((List.range (count l).toNat).map fun i => look l (first l + (i : Nat))).length = (count l).toNat := by simp
        generalize hgs : ((List.range (count l).toNat).map fun i => look l (first l + (i : Nat))) = gs at *
        have htr : trimmed l = [0, 6] ++ bytes (10 + 2 * count l) 2 ++ [0, 0] ++ bytes (first l) 2 ++ bytes (count l) 2 ++ flat 2 gs := by unfold trimmed; rw [hgs]
        have hgat : ∀ i, i < (count l).toNat → gs.getD i 0 = look l (first l + (i : Nat)) := by
          intro i hi
          rw [← hgs]
          simp [List.getD, hi]
        have hlen : (trimmed l).length = 10 + 2 * (count l).toNat := by
          rw [htr]; simp only [List.length_append, bytes_len, flat_len, hgl]; simp
        have g0 : fld (trimmed l) 0 2 = 6 := fld_at [] (bytes (10 + 2 * count l) 2 ++ ([0, 0] ++ (bytes (first l) 2 ++ (bytes (count l) 2 ++ flat 2 gs)))) 6 2 0 (by rw [htr]; simp only [List.append_assoc]; rfl) rfl (by decide) (by decide)
        have g2 : fld (trimmed l) 2 2 = 10 + 2 * count l := fld_at [0, 6] ([0, 0] ++ (bytes (first l) 2 ++ (bytes (count l) 2 ++ flat 2 gs))) _ 2 2 (by rw [htr]; simp only [List.append_assoc]; rfl) rfl (by decide) (fits2 (by omega) (by omega))
        have g6 : fld (trimmed l) 6 2 = first l := fld_at ([0, 6] ++ bytes (10 + 2 * count l) 2 ++ [0, 0]) (bytes (count l) 2 ++ flat 2 gs) _ 2 6 (by rw [htr]; simp only [List.append_assoc]; rfl) (by simp [bytes_len]) (by decide) (fits2 (by omega) (by omega))
        have g8 : fld (trimmed l) 8 2 = count l := fld_at ([0, 6] ++ bytes (10 + 2 * count l) 2 ++ [0, 0] ++ bytes (first l) 2) (flat 2 gs) _ 2 8 (by rw [htr]; simp only [List.append_assoc]; rfl) (by simp [bytes_len]) (by decide) (fits2 (by omega) (by omega))
        have hglyph : ∀ i, i < (count l).toNat → fld (trimmed l) (10 + 2 * i) 2 = look l (first l + (i : Nat)) := by
          intro i hi
          have hb := look_b hl (first l + (i : Nat))
          have := flat_at (size := 2) (by decide) (xs := gs) (i := i) (by rw [hgl]; exact hi) (by rw [hgat i hi]; exact fits2 hb.1 hb.2) []
          rw [List.append_nil, hgat i hi] at this
          rw [← this]
          unfold fld
          rw [htr, ← List.drop_drop]
          congr 2
        have hg : get (trimmed l) = (spansOf (fun c => fld (trimmed l) (10 + 2 * (c - first l).toNat) 2) (first l) (count l).toNat, 0) := by
          unfold get
          rw [g0, g2, g6, g8, if_neg (by rw [hlen]; omega), if_neg (by simp), if_neg (by simp), if_neg (by rw [hlen]; omega), if_neg (by simp), if_neg (by rw [hlen]; omega), if_neg (by omega)]
        rw [hg]
        congr 1
        refine spansOf_congr _ _ _ _ fun c h1 h2 => ?_
        have hc : c = first l + ((c - first l).toNat : Nat) := by omega
        rw [hglyph (c - first l).toNat (by omega), ← hc]
theorem look_trimmed {l : List Span} (h : (putTrimmed l).2 = 0) : (get (putTrimmed l).1).2 = 0 ∧ isL (get (putTrimmed l).1).1 = true ∧ ∀ c, look (get (putTrimmed l).1).1 c = look l c := by
  obtain ⟨hl, hg, hout, hb⟩ := get_trimmed h
  rw [hg]
  refine ⟨rfl, isL_spansOf _ (look_b hl) _ _ (count_nonneg hl).2 hb, fun c => ?_⟩
  show look (spansOf (look l) (first l) (count l).toNat) c = look l c
  rw [look_spansOf]
  by_cases hc : first l ≤ c ∧ c < first l + ((count l).toNat : Nat)
  · rw [if_pos hc]
  · rw [if_neg hc, hout c (by omega)]
/-- What is got is one span for each rune. -/
theorem get_form {s : List UInt8} (h : (get s).2 = 0) : ∃ (f : Int → Int) (a : Int) (n : Nat), (get s).1 = spansOf f a n ∧ (∀ c, 0 ≤ f c ∧ f c ≤ 65535) ∧ 0 ≤ a ∧ a + n ≤ 65536 ∧ (n ≤ 256 ∨ 10 + 2 * n ≤ s.length) := by
  unfold get at *
  by_cases c1 : s.length < 4
  · rw [if_pos c1] at h; cases h
  · rw [if_neg c1] at h ⊢
    by_cases c2 : fld s 0 2 = 0
    · rw [if_pos c2] at h ⊢
      by_cases c3 : fld s 2 2 ≠ 262
      · rw [if_pos c3] at h; cases h
      · rw [if_neg c3] at h ⊢
        by_cases c4 : s.length < 262
        · rw [if_pos c4] at h; cases h
        · rw [if_neg c4]
          exact ⟨fun c => byteAt s (6 + c.toNat), 0, 256, rfl, fun c => byteAt_bound _ _, by omega, by omega, .inl (by omega)⟩
    · rw [if_neg c2] at h ⊢
      by_cases c3 : fld s 0 2 ≠ 6
      · rw [if_pos c3] at h; cases h
      · rw [if_neg c3] at h ⊢
        by_cases c4 : s.length < 10
        · rw [if_pos c4] at h; cases h
        · rw [if_neg c4] at h ⊢
          by_cases c5 : fld s 2 2 ≠ 10 + 2 * fld s 8 2
          · rw [if_pos c5] at h; cases h
          · rw [if_neg c5] at h ⊢
            by_cases c6 : (s.length : Int) < fld s 2 2
            · rw [if_pos c6] at h; cases h
            · rw [if_neg c6] at h ⊢
              by_cases c7 : 65536 < fld s 6 2 + fld s 8 2
              · rw [if_pos c7] at h; cases h
              · rw [if_neg c7]
                have b6 := fld_bound s 6
                have b8 := fld_bound s 8
                refine ⟨fun c => fld s (10 + 2 * (c - fld s 6 2).toNat) 2, fld s 6 2, (fld s 8 2).toNat, rfl, fun c => fld_bound _ _, b6.1, by omega, .inr ?_⟩
                simp only [ne_eq, Decidable.not_not] at c5
                omega
/-- What is got is put by format 6, and got again as it was. -/
theorem get_again {s : List UInt8} (hs : s.length ≤ 3000) (h : (get s).2 = 0) : isL (get s).1 = true ∧ (putTrimmed (get s).1).2 = 0 ∧ get (putTrimmed (get s).1).1 = ((get s).1, 0) ∧ ∃ (f : Int → Int) (a : Int) (n : Nat), (get s).1 = spansOf f a n := by
  obtain ⟨f, a, n, e, hb, ha, hn, hlen⟩ := get_form h
  have hl : isL (spansOf f a n) = true := isL_spansOf f hb n a ha hn
  have hlk : ∀ c, look (spansOf f a n) c = if a ≤ c ∧ c < a + n then f c else 0 := look_spansOf f n a
  have hin : ∀ c, look (spansOf f a n) c ≠ 0 → a ≤ c ∧ c < a + n := by
    intro c hc
    rw [hlk] at hc
    by_cases e2 : a ≤ c ∧ c < a + n
    · exact e2
    · rw [if_neg e2] at hc; exact absurd rfl hc
  obtain ⟨e1, e2⟩ := ends_spec hl
  have hends : 0 ≤ (ends (spansOf f a n)).1 → a ≤ (ends (spansOf f a n)).1 ∧ (ends (spansOf f a n)).2 < a + n := by
    intro h0
    exact ends_in f n a h0
  have hp : (putTrimmed (spansOf f a n)).2 = 0 := by
    unfold putTrimmed
    rw [hl, if_neg (by simp), if_neg (by rintro ⟨h0, h1⟩; have := hends h0; omega), if_neg (by
      unfold count
      by_cases h0 : 0 ≤ (ends (spansOf f a n)).1
      · rw [if_pos h0]; have := hends h0; omega
      · rw [if_neg h0]; omega)]
  rw [e]
  refine ⟨hl, hp, ?_, f, a, n, rfl⟩
  obtain ⟨_, hg, hout, _⟩ := get_trimmed hp
  rw [hg]
  congr 1
  rw [spansOf_two (look (spansOf f a n)) (first (spansOf f a n)) a (count (spansOf f a n)).toNat n hout (fun c hc => by rw [hlk, if_neg (by omega)])]
  exact spansOf_congr _ _ _ _ fun c h1 h2 => by rw [hlk, if_pos ⟨h1, h2⟩]
end Ch
/-
  Plain functions on bytes (layer 9, segment), with nothing of the program: spans of runes, got and put by format 4; facts on them. No conditions beyond those stated.
-/
namespace Ch
/-- More on chains of spans. -/
theorem chain_lower {p q : Int} (h : q ≤ p) : ∀ l : List Span, chain p l = true → chain q l = true
  | [], _ => rfl
  | x :: r, hc => by
    simp only [chain, Bool.and_eq_true, decide_eq_true_eq] at hc ⊢
    exact ⟨⟨hc.1.1, by omega⟩, hc.2⟩
theorem chain_append {q : Int} : ∀ (A : List Span) (p : Int) (B : List Span), chain p A = true → p ≤ q → (∀ x ∈ A, x.to ≤ q) → chain q B = true → chain p (A ++ B) = true
  | [], p, B, _, hp, _, hB => chain_lower hp B hB
  | x :: r, p, B, hA, hp, hto, hB => by
    simp only [chain, Bool.and_eq_true, decide_eq_true_eq] at hA
    rw [List.cons_append, chain, hA.1.1, chain_append r x.to B hA.2 (hto x (by simp)) (fun y hy => hto y (by simp [hy])) hB]
    simp
    exact hA.1.2
theorem chain_len {M : Int} : ∀ (l : List Span) (p : Int), chain p l = true → p ≤ M → (∀ x ∈ l, x.to ≤ M) → (l.length : Int) ≤ M - p
  | [], p, _, hp, _ => by simp; omega
  | x :: r, p, h, hp, hto => by
    simp only [chain, Bool.and_eq_true, decide_eq_true_eq] at h
    obtain ⟨a1, a2, _⟩ := (okSpan_iff x).1 h.1.1
    have hx := hto x (by simp)
    have := chain_len r x.to h.2 hx (fun y hy => hto y (by simp [hy]))
    rw [List.length_cons]
    omega
theorem chain_all {P : Span → Prop} (hP : ∀ x, okSpan x = true → P x) : ∀ (l : List Span) (p : Int), chain p l = true → ∀ x ∈ l, P x
  | [], _, _, x, hx => by simp at hx
  | y :: r, p, h, x, hx => by
    simp only [chain, Bool.and_eq_true, decide_eq_true_eq] at h
    rcases List.mem_cons.1 hx with rfl | hx
    · exact hP _ h.1.1
    · exact chain_all hP r y.to h.2 x hx
theorem isL_links {l : List Span} (h : isL l = true) : chain (-1) l = true := by
  unfold isL at h; simp only [Bool.and_eq_true] at h; exact h.1
theorem isL_ok {l : List Span} (h : isL l = true) {x : Span} (hx : x ∈ l) : okSpan x = true := chain_all (P := fun x => okSpan x = true) (fun _ h => h) l (-1) (isL_links h) x hx
theorem look_beyond {M : Int} : ∀ (l : List Span), (∀ x ∈ l, x.to ≤ M) → ∀ c, M < c → look l c = 0
  | [], _, _, _ => rfl
  | x :: r, h, c, hc => by
    have := h x (by simp)
    rw [look, if_neg (by omega)]
    exact look_beyond r (fun y hy => h y (by simp [hy])) c hc
theorem look_neg {l : List Span} (h : isL l = true) {c : Int} (hc : c < 0) : look l c = 0 := look_low l (-1) (isL_links h) c (by omega)
end Ch
namespace Sg
open Bn He Ch

def word (s : List UInt8) (p : Nat) : Int := fld s p 2
theorem word_bound (s : List UInt8) (p : Nat) : 0 ≤ word s p ∧ word s p ≤ 65535 := fld_bound s p
def plane (n : Int) : Int := if 65536 ≤ n then n - 65536 else n
/-- Spans of a segment of offset 0. -/
def near (fr to delta : Int) : List Span :=
  if plane (fr + delta) + to - fr ≤ 65535 then [⟨fr, to, plane (fr + delta), 1⟩]
  else [⟨fr, fr + 65535 - plane (fr + delta), plane (fr + delta), 1⟩, ⟨fr + 65535 - plane (fr + delta) + 1, to, 0, 1⟩]
def gl1 (v delta : Int) : Int := if 0 < v ∧ 0 < plane (v + delta) then plane (v + delta) else 0
/-- Spans of another one, whose own offset stands at a place. -/
def far (s : List UInt8) (fr to delta : Int) (pos : Nat) : List Span × Int :=
  if (s.length : Int) < pos + word s pos + 2 * (to - fr) + 2 then ([], 4)
  else (spansOf (fun c => gl1 (word s (pos + (word s pos).toNat + 2 * (c - fr).toNat)) delta) fr (to - fr + 1).toNat, 0)
def sTo (s : List UInt8) (i : Nat) : Int := word s (14 + 2 * i)
def sFr (s : List UInt8) (n i : Nat) : Int := word s (16 + 2 * n + 2 * i)
def sDe (s : List UInt8) (n i : Nat) : Int := word s (16 + 4 * n + 2 * i)
def sOf (s : List UInt8) (n i : Nat) : Int := word s (16 + 6 * n + 2 * i)
def last (s : List UInt8) (i : Nat) : Int := if i = 0 then -1 else sTo s (i - 1)
def bad (s : List UInt8) (n i : Nat) : Bool := decide (sTo s i < sFr s n i) || decide (sFr s n i ≤ last s i) || decide (sOf s n i % 2 = 1)
def seg (s : List UInt8) (n i : Nat) : List Span × Int :=
  if sOf s n i = 0 then (near (sFr s n i) (sTo s i) (sDe s n i), 0) else far s (sFr s n i) (sTo s i) (sDe s n i) (16 + 6 * n + 2 * i)
def body (s : List UInt8) (n : Nat) : List Span × Int :=
  if (List.range n).any (fun i => bad s n i) = true ∨ last s n ≠ 65535 then ([], 5)
  else if Sf.scan (fun i => (seg s n i).2) 0 n ≠ 0 then ([], Sf.scan (fun i => (seg s n i).2) 0 n)
  else ((List.range n).flatMap fun i => (seg s n i).1, 0)
def many (s : List UInt8) : Nat := (word s 6 / 2).toNat
def get (s : List UInt8) : List Span × Int :=
  if s.length < 14 then ([], 4)
  else if word s 0 ≠ 4 ∨ word s 6 % 2 = 1 ∨ many s = 0 then ([], 5)
  else if (s.length : Int) < word s 2 then ([], 4)
  else if word s 2 < 16 + 8 * (many s : Nat) then ([], 5)
  else body (s.take (word s 2).toNat) (many s)

/-! What is got is right. -/
theorem plane_bound {n : Int} (h0 : 0 ≤ n) (h1 : n < 131072) : 0 ≤ plane n ∧ plane n ≤ 65535 := by
  unfold plane
  by_cases h : 65536 ≤ n
  · rw [if_pos h]; omega
  · rw [if_neg h]; omega
theorem near_chain {fr to delta p : Int} (h0 : 0 ≤ fr) (h1 : fr ≤ to) (h2 : to ≤ 65535) (h3 : 0 ≤ delta) (h4 : delta ≤ 65535) (hp : p < fr) : chain p (near fr to delta) = true ∧ ∀ x ∈ near fr to delta, x.to ≤ to := by
  obtain ⟨g0, g1⟩ := plane_bound (n := fr + delta) (by omega) (by omega)
  unfold near
  generalize plane (fr + delta) = g at *
  by_cases h : g + to - fr ≤ 65535
  · rw [if_pos h]
    refine ⟨?_, fun x hx => ?_⟩
    · have : okSpan ⟨fr, to, g, 1⟩ = true := (okSpan_iff _).2 ⟨h0, h1, by simp only; omega, by simp, by simp, g0, g1, by simp only; omega⟩
      rw [chain, this, chain]; simp; exact hp
    · simp only [List.mem_singleton] at hx; subst hx; exact Int.le_refl _
  · rw [if_neg h]
    refine ⟨?_, fun x hx => ?_⟩
    · have o1 : okSpan ⟨fr, fr + 65535 - g, g, 1⟩ = true := (okSpan_iff _).2 ⟨h0, by simp only; omega, by simp only; omega, by simp, by simp, g0, g1, by simp only; omega⟩
      have o2 : okSpan ⟨fr + 65535 - g + 1, to, 0, 1⟩ = true := (okSpan_iff _).2 ⟨by simp only; omega, by simp only; omega, by simp only; omega, by simp, by simp, by simp, by simp, by simp only; omega⟩
      rw [chain, o1, chain, o2, chain]; simp; omega
    · simp only [List.mem_cons, List.not_mem_nil, or_false] at hx
      rcases hx with rfl | rfl
      · simp only; omega
      · exact Int.le_refl _
theorem gl1_bound {v delta : Int} (h0 : 0 ≤ v) (h1 : v ≤ 65535) (h3 : 0 ≤ delta) (h4 : delta ≤ 65535) : 0 ≤ gl1 v delta ∧ gl1 v delta ≤ 65535 := by
  obtain ⟨g0, g1⟩ := plane_bound (n := v + delta) (by omega) (by omega)
  unfold gl1
  by_cases h : 0 < v ∧ 0 < plane (v + delta)
  · rw [if_pos h]; exact ⟨g0, g1⟩
  · rw [if_neg h]; omega
theorem seg_chain {s : List UInt8} {n i : Nat} {p : Int} (h1 : sFr s n i ≤ sTo s i) (hp : p < sFr s n i) : chain p (seg s n i).1 = true ∧ ∀ x ∈ (seg s n i).1, x.to ≤ sTo s i := by
  have b1 := word_bound s (14 + 2 * i)
  have b2 := word_bound s (16 + 2 * n + 2 * i)
  have b3 := word_bound s (16 + 4 * n + 2 * i)
  unfold seg
  by_cases h : sOf s n i = 0
  · rw [if_pos h]; exact near_chain b2.1 h1 b1.2 b3.1 b3.2 hp
  · rw [if_neg h]
    unfold far
    by_cases hm : (s.length : Int) < ((16 + 6 * n + 2 * i : Nat) : Int) + word s (16 + 6 * n + 2 * i) + 2 * (sTo s i - sFr s n i) + 2
    · rw [if_pos hm]; exact ⟨rfl, fun x hx => by simp at hx⟩
    · rw [if_neg hm]
      have e1 : 0 ≤ sFr s n i := b2.1
      have e2 : sTo s i ≤ 65535 := b1.2
      refine ⟨chain_spansOf _ (fun c => gl1_bound (word_bound _ _).1 (word_bound _ _).2 b3.1 b3.2) _ _ p hp b2.1 (by omega), fun x hx => ?_⟩
      have := (spansOf_mem _ _ _ x hx).2.1
      omega
theorem last_step (s : List UInt8) (i : Nat) : last s (i + 1) = sTo s i := by unfold last; rw [if_neg (by omega)]; rfl
theorem rows_chain {s : List UInt8} {n : Nat} (hb : ∀ i, i < n → bad s n i = false) : ∀ k, k ≤ n → chain (-1) ((List.range k).flatMap fun i => (seg s n i).1) = true ∧ (∀ x ∈ (List.range k).flatMap fun i => (seg s n i).1, x.to ≤ last s k) ∧ -1 ≤ last s k
  | 0, _ => by simp [chain, last]
  | k + 1, hk => by
    obtain ⟨i1, i2, i3⟩ := rows_chain hb k (by omega)
    have hbk := hb k (by omega)
    unfold bad at hbk
    simp only [Bool.or_eq_false_iff, decide_eq_false_iff_not] at hbk
    obtain ⟨⟨c1, c2⟩, _⟩ := hbk
    obtain ⟨j1, j2⟩ := seg_chain (s := s) (n := n) (i := k) (p := last s k) (by omega) (by omega)
    rw [List.range_succ, List.flatMap_append, last_step]
    simp only [List.flatMap_cons, List.flatMap_nil, List.append_nil]
    refine ⟨chain_append _ _ _ i1 (q := last s k) i3 i2 j1, fun x hx => ?_, by omega⟩
    rcases List.mem_append.1 hx with hx | hx
    · have := i2 x hx; omega
    · exact j2 x hx
theorem body_ok {s : List UInt8} {n : Nat} (h : (body s n).2 = 0) : (∀ i, i < n → bad s n i = false) ∧ last s n = 65535 ∧ (∀ i, i < n → (seg s n i).2 = 0) ∧ (body s n).1 = (List.range n).flatMap fun i => (seg s n i).1 := by
  unfold body at *
  by_cases c1 : (List.range n).any (fun i => bad s n i) = true ∨ last s n ≠ 65535
  · rw [if_pos c1] at h; cases h
  · rw [if_neg c1] at h ⊢
    by_cases c2 : Sf.scan (fun i => (seg s n i).2) 0 n ≠ 0
    · rw [if_pos c2] at h; exact absurd h c2
    · rw [if_neg c2]
      refine ⟨fun i hi => ?_, ?_, fun i hi => Sf.scan_all _ _ _ (by simpa using c2) i (by omega) (by omega), rfl⟩
      · cases e : bad s n i with
        | false => rfl
        | true => exact absurd (.inl (List.any_eq_true.2 ⟨i, List.mem_range.2 hi, e⟩)) c1
      · by_cases e : last s n = 65535
        · exact e
        · exact absurd (.inr e) c1
theorem get_body {s : List UInt8} (h : (get s).2 = 0) : get s = body (s.take (word s 2).toNat) (many s) := by
  unfold get at *
  by_cases c1 : s.length < 14
  · rw [if_pos c1] at h; cases h
  · rw [if_neg c1] at h ⊢
    by_cases c2 : word s 0 ≠ 4 ∨ word s 6 % 2 = 1 ∨ many s = 0
    · rw [if_pos c2] at h; cases h
    · rw [if_neg c2] at h ⊢
      by_cases c3 : (s.length : Int) < word s 2
      · rw [if_pos c3] at h; cases h
      · rw [if_neg c3] at h ⊢
        by_cases c4 : word s 2 < 16 + 8 * (many s : Nat)
        · rw [if_pos c4] at h; cases h
        · rw [if_neg c4]
theorem body_none {s : List UInt8} {n : Nat} (h : (body s n).2 ≠ 0) : (body s n).1 = [] := by
  unfold body at *
  by_cases c1 : (List.range n).any (fun i => bad s n i) = true ∨ last s n ≠ 65535
  · rw [if_pos c1]
  · rw [if_neg c1] at h ⊢
    by_cases c2 : Sf.scan (fun i => (seg s n i).2) 0 n ≠ 0
    · rw [if_pos c2]
    · rw [if_neg c2] at h; exact absurd rfl h
theorem get_none {s : List UInt8} (h : (get s).2 ≠ 0) : (get s).1 = [] := by
  unfold get at *
  by_cases c1 : s.length < 14
  · rw [if_pos c1]
  · rw [if_neg c1] at h ⊢
    by_cases c2 : word s 0 ≠ 4 ∨ word s 6 % 2 = 1 ∨ many s = 0
    · rw [if_pos c2]
    · rw [if_neg c2] at h ⊢
      by_cases c3 : (s.length : Int) < word s 2
      · rw [if_pos c3]
      · rw [if_neg c3] at h ⊢
        by_cases c4 : word s 2 < 16 + 8 * (many s : Nat)
        · rw [if_pos c4]
        · rw [if_neg c4] at h ⊢; exact body_none h
/-- What is got is right, and up to 65535. -/
theorem get_right {s : List UInt8} (h : (get s).2 = 0) : isL (get s).1 = true ∧ ∀ x ∈ (get s).1, x.to ≤ 65535 := by
  have e := get_body h
  rw [e] at h ⊢
  obtain ⟨h1, h2, _, h4⟩ := body_ok h
  obtain ⟨i1, i2, _⟩ := rows_chain h1 (many s) (Nat.le_refl _)
  rw [h4]
  rw [h2] at i2
  have := chain_len _ (-1) i1 (M := 65535) (by omega) i2
  refine ⟨?_, i2⟩
  unfold isL
  rw [i1]
  simp only [Bool.true_and, decide_eq_true_eq]
  omega
theorem look_out {s : List UInt8} (h : (get s).2 = 0) {c : Int} (hc : c < 0 ∨ 65535 < c) : look (get s).1 c = 0 := by
  obtain ⟨h1, h2⟩ := get_right h
  rcases hc with hc | hc
  · exact look_neg h1 hc
  · exact look_beyond _ h2 c hc
end Sg
/-
  Plain functions on bytes (layer 9, segment): spans put by format 4, and got again; how many segments and glyphs. No conditions beyond those stated.
-/
namespace Sg
open Bn He Ch

def hasGl (x : Span) : Bool := decide (0 < x.gl) || (decide (x.st = 1) && decide (x.fr < x.to))
def kept (l : List Span) : List Span := l.filter hasGl
def isRow (x : Span) : Bool := decide (x.st = 0) && decide (x.fr < x.to)
def wid (x : Span) : Nat := if isRow x = true then (x.to - x.fr + 1).toNat else 0
def glyphs (l : List Span) : Nat := (l.map wid).sum
def ended (l : List Span) : Bool := l.any fun x => decide (x.to = 65535)
def whole (l : List Span) : List Span := if ended (kept l) = true then kept l else kept l ++ [⟨65535, 65535, 0, 1⟩]
def manyOf (l : List Span) : Nat × Nat × Int :=
  if isL l = false then (0, 0, 1)
  else if (kept l).any (fun x => decide (65535 < x.to)) = true then (0, 0, 7)
  else if 65535 < 16 + 8 * (whole l).length + 2 * glyphs (kept l) then (0, 0, 7)
  else ((whole l).length, glyphs (kept l), 0)
def delta (x : Span) : Int := if isRow x = true then 0 else plane (65536 + x.gl - x.fr)
def at1 (K : List Span) (i : Nat) : Span := K.getD i ⟨0, 0, 0, 0⟩
def behind (K : List Span) (i : Nat) : Nat := glyphs (K.take i)
def offs (K : List Span) (i : Nat) : Int := if isRow (at1 K i) = true then ((2 * (K.length - i) + 2 * behind K i : Nat) : Int) else 0
def rest : List Span → List Int
  | [] => []
  | x :: r => List.replicate (wid x) x.gl ++ rest r
def hd (n g : Nat) : List Int := [4, ((16 + 8 * n + 2 * g : Nat) : Int), 0, ((2 * n : Nat) : Int), ((2 * (Sf.pow2 n).1 : Nat) : Int), (((Sf.pow2 n).2 : Nat) : Int), ((2 * n : Nat) : Int) - ((2 * (Sf.pow2 n).1 : Nat) : Int)]
def words (K : List Span) : List Int := hd K.length (glyphs K) ++ K.map Span.to ++ [0] ++ K.map Span.fr ++ K.map delta ++ (List.range K.length).map (offs K) ++ rest K
def file (K : List Span) : List UInt8 := flat 2 (words K)
def put (l : List Span) : List UInt8 × Int := if (manyOf l).2.2 ≠ 0 then ([], (manyOf l).2.2) else (file (whole l), 0)

theorem rest_len : ∀ K : List Span, (rest K).length = glyphs K
  | [] => rfl
  | x :: r => by
    rw [rest, List.length_append, List.length_replicate, rest_len r]
    simp [glyphs]
theorem glyphs_append (A B : List Span) : glyphs (A ++ B) = glyphs A + glyphs B := by simp [glyphs]
theorem rest_append : ∀ A B : List Span, rest (A ++ B) = rest A ++ rest B
  | [], B => rfl
  | x :: r, B => by rw [List.cons_append, rest, rest, rest_append r B, List.append_assoc]
theorem words_len (K : List Span) : (words K).length = 8 + 4 * K.length + glyphs K := by
  unfold words hd
  simp only [List.length_append, List.length_map, List.length_range, rest_len, List.length_cons, List.length_nil]
  omega
theorem file_len (K : List Span) : (file K).length = 16 + 8 * K.length + 2 * glyphs K := by
  unfold file
  rw [flat_len, words_len]
  show 2 * _ = _
  omega
theorem word_file (K : List Span) (more : List UInt8) (j : Nat) (v : Int) (hj : j < (words K).length) (hv : (words K).getD j 0 = v) (h0 : 0 ≤ v) (h1 : v ≤ 65535) : word (file K ++ more) (2 * j) = v := by
  have := flat_at (size := 2) (by decide) (xs := words K) (i := j) hj (by rw [hv]; exact fits2 h0 h1) more
  rw [hv] at this
  exact this
theorem getD_app_right (A B : List Int) (j k : Nat) (h : j = A.length + k) : (A ++ B).getD j 0 = B.getD k 0 := by
  subst h
  simp only [List.getD]
  rw [List.getElem?_append_right (by omega), Nat.add_sub_cancel_left]
theorem getD_app_left (A B : List Int) (j : Nat) (h : j < A.length) : (A ++ B).getD j 0 = A.getD j 0 := by
  simp [List.getD, List.getElem?_append_left h]
theorem split1 {K : List Span} {i : Nat} (hi : i < K.length) : K = K.take i ++ at1 K i :: K.drop (i + 1) := by
  rw [show at1 K i = K[i] by simp [at1, List.getD, List.getElem?_eq_getElem hi], ← List.drop_eq_getElem_cons hi, List.take_append_drop]
theorem behind_le {K : List Span} {i : Nat} (hi : i < K.length) : behind K i + wid (at1 K i) ≤ glyphs K := by
  unfold behind
  have : glyphs K = glyphs (K.take i ++ at1 K i :: K.drop (i + 1)) := by rw [← split1 hi]
  rw [this, glyphs_append]
  simp [glyphs]
theorem map_getD (K : List Span) (f : Span → Int) (i : Nat) (hi : i < K.length) : (K.map f).getD i 0 = f (at1 K i) := by
  simp [List.getD, at1, List.getElem?_eq_getElem hi]
theorem w_to (K : List Span) (i : Nat) (hi : i < K.length) : (words K).getD (7 + i) 0 = (at1 K i).to := by
  unfold words
  simp only [List.append_assoc]
  rw [getD_app_right _ _ _ i (by rfl), getD_app_left _ _ _ (by simpa using hi), map_getD K _ i hi]
theorem w_fr (K : List Span) (i : Nat) (hi : i < K.length) : (words K).getD (8 + K.length + i) 0 = (at1 K i).fr := by
  unfold words
  simp only [List.append_assoc]
  rw [getD_app_right _ _ _ (K.length + (1 + i)) (by simp only [hd, List.length_cons, List.length_nil]; omega), getD_app_right _ _ _ (1 + i) (by simp), getD_app_right _ _ _ i (by simp), getD_app_left _ _ _ (by simpa using hi), map_getD K _ i hi]
theorem w_de (K : List Span) (i : Nat) (hi : i < K.length) : (words K).getD (8 + 2 * K.length + i) 0 = delta (at1 K i) := by
  unfold words
  simp only [List.append_assoc]
  rw [getD_app_right _ _ _ (K.length + (1 + (K.length + i))) (by simp only [hd, List.length_cons, List.length_nil]; omega), getD_app_right _ _ _ (1 + (K.length + i)) (by simp), getD_app_right _ _ _ (K.length + i) (by simp), getD_app_right _ _ _ i (by simp), getD_app_left _ _ _ (by simpa using hi), map_getD K _ i hi]
theorem w_of (K : List Span) (i : Nat) (hi : i < K.length) : (words K).getD (8 + 3 * K.length + i) 0 = offs K i := by
  unfold words
  simp only [List.append_assoc]
  rw [getD_app_right _ _ _ (K.length + (1 + (K.length + (K.length + i)))) (by simp only [hd, List.length_cons, List.length_nil]; omega), getD_app_right _ _ _ (1 + (K.length + (K.length + i))) (by simp), getD_app_right _ _ _ (K.length + (K.length + i)) (by simp), getD_app_right _ _ _ (K.length + i) (by simp),
    getD_app_right _ _ _ i (by simp), getD_app_left _ _ _ (by simpa using hi)]
  simp [List.getD, hi]
theorem w_rest (K : List Span) (i k : Nat) (hi : i < K.length) (hk : k < wid (at1 K i)) : (words K).getD (8 + 4 * K.length + behind K i + k) 0 = (at1 K i).gl := by
  unfold words
  rw [getD_app_right _ (rest K) _ (behind K i + k) (by simp only [hd, List.length_append, List.length_map, List.length_range, List.length_cons, List.length_nil]; omega)]
  have : rest K = rest (K.take i) ++ (List.replicate (wid (at1 K i)) (at1 K i).gl ++ rest (K.drop (i + 1))) := by
    conv => lhs; rw [split1 hi]
    rw [rest_append, rest]
  rw [this, getD_app_right _ _ _ k (by rw [rest_len]; rfl), getD_app_left _ _ _ (by simpa using hk)]
  simp [List.getD, hk]

/-- Spans as they are got again. -/
def conv (x : Span) : List Span := if isRow x = true then spansOf (fun _ => x.gl) x.fr (wid x) else [⟨x.fr, x.to, x.gl, 1⟩]
/-- Right spans up to 65535 that end there, each one with a glyph, or the last. -/
structure Good (K : List Span) : Prop where
  chain : Ch.chain (-1) K = true
  upto : ∀ x ∈ K, x.to ≤ 65535
  row : ∀ x ∈ K, isRow x = true → 0 < x.gl
  one : 1 ≤ K.length
  last : (at1 K (K.length - 1)).to = 65535
  size : 16 + 8 * K.length + 2 * glyphs K ≤ 65535
theorem chain_at : ∀ (K : List Span) (p : Int), Ch.chain p K = true → ∀ i, i < K.length → okSpan (at1 K i) = true ∧ (if i = 0 then p else (at1 K (i - 1)).to) < (at1 K i).fr
  | [], _, _, i, hi => by simp at hi
  | x :: r, p, h, i, hi => by
    simp only [Ch.chain, Bool.and_eq_true, decide_eq_true_eq] at h
    cases i with
    | zero => exact ⟨h.1.1, h.1.2⟩
    | succ i =>
      obtain ⟨j1, j2⟩ := chain_at r x.to h.2 i (by simpa using hi)
      refine ⟨j1, ?_⟩
      rw [if_neg (by omega)]
      show (at1 (x :: r) i).to < (at1 r i).fr
      cases i with
      | zero => exact j2
      | succ i => rw [if_neg (by omega)] at j2; exact j2
theorem at1_mem {K : List Span} {i : Nat} (hi : i < K.length) : at1 K i ∈ K := by simp [at1, List.getD, List.getElem?_eq_getElem hi]
theorem plane_back {gl fr : Int} (h1 : 0 ≤ gl) (h2 : gl ≤ 65535) (h3 : 0 ≤ fr) (h4 : fr ≤ 65535) : plane (fr + plane (65536 + gl - fr)) = gl ∧ 0 ≤ plane (65536 + gl - fr) ∧ plane (65536 + gl - fr) ≤ 65535 := by
  unfold plane
  by_cases h : 65536 ≤ 65536 + gl - fr
  · rw [if_pos h, if_neg (by omega)]; omega
  · rw [if_neg h, if_pos (by omega)]; omega
theorem seg_file {K : List Span} (G : Good K) (i : Nat) (hi : i < K.length) : seg (file K) K.length i = (conv (at1 K i), 0) ∧ bad (file K) K.length i = false ∧ sTo (file K) i = (at1 K i).to := by
  have hw := words_len K
  have hok := chain_at K (-1) G.chain
  have hrd : ∀ j v, j < (words K).length → (words K).getD j 0 = v → 0 ≤ v → v ≤ 65535 → word (file K) (2 * j) = v := by
    intro j v a b c d
    have := word_file K [] j v a b c d
    rwa [List.append_nil] at this
  obtain ⟨o, hlt⟩ := hok i hi
  obtain ⟨a1, a2, a3, a4, a5, a6, a7, a8⟩ := (okSpan_iff _).1 o
  have hup := G.upto _ (at1_mem hi)
  have hbl := behind_le hi
  have hsize := G.size
  have eto : ∀ k, k < K.length → sTo (file K) k = (at1 K k).to := by
    intro k hk
    obtain ⟨b1, b2, _⟩ := (okSpan_iff _).1 (hok k hk).1
    have hup2 := G.upto _ (at1_mem hk)
    have := hrd (7 + k) _ (by omega) (w_to K k hk) (by omega) (by omega)
    rw [show 2 * (7 + k) = 14 + 2 * k by omega] at this
    exact this
  have efr : sFr (file K) K.length i = (at1 K i).fr := by
    have := hrd (8 + K.length + i) _ (by omega) (w_fr K i hi) (by omega) (by omega)
    rw [show 2 * (8 + K.length + i) = 16 + 2 * K.length + 2 * i by omega] at this
    exact this
  have hde : 0 ≤ delta (at1 K i) ∧ delta (at1 K i) ≤ 65535 := by
    unfold delta
    by_cases h : isRow (at1 K i) = true
    · rw [if_pos h]; omega
    · rw [if_neg h]; exact (plane_back a6 a7 a1 (by omega)).2
  have ede : sDe (file K) K.length i = delta (at1 K i) := by
    have := hrd (8 + 2 * K.length + i) _ (by omega) (w_de K i hi) hde.1 hde.2
    rw [show 2 * (8 + 2 * K.length + i) = 16 + 4 * K.length + 2 * i by omega] at this
    exact this
  have hof : 0 ≤ offs K i ∧ offs K i ≤ 65535 := by
    unfold offs
    by_cases h : isRow (at1 K i) = true
    · rw [if_pos h]; omega
    · rw [if_neg h]; omega
  have eof : sOf (file K) K.length i = offs K i := by
    have := hrd (8 + 3 * K.length + i) _ (by omega) (w_of K i hi) hof.1 hof.2
    rw [show 2 * (8 + 3 * K.length + i) = 16 + 6 * K.length + 2 * i by omega] at this
    exact this
  refine ⟨?_, ?_, eto i hi⟩
  · unfold seg
    rw [eof, efr, ede, eto i hi]
    by_cases h : isRow (at1 K i) = true
    · have hne : offs K i ≠ 0 := by unfold offs; rw [if_pos h]; omega
      have hw2 : wid (at1 K i) = ((at1 K i).to - (at1 K i).fr + 1).toNat := by unfold wid; rw [if_pos h]
      have hgl := G.row _ (at1_mem hi) h
      have ewo : word (file K) (16 + 6 * K.length + 2 * i) = offs K i := eof
      rw [if_neg hne]
      unfold far conv
      rw [ewo, if_pos h, if_neg (by
        rw [file_len]
        unfold offs
        rw [if_pos h]
        omega)]
      congr 1
      rw [hw2]
      refine spansOf_congr _ _ _ _ fun c h1 h2 => ?_
      have hk : (c - (at1 K i).fr).toNat < wid (at1 K i) := by omega
      have hwo := hrd (8 + 4 * K.length + behind K i + (c - (at1 K i).fr).toNat) _ (by omega) (w_rest K i _ hi hk) (by omega) (by omega)
      have hpos : 16 + 6 * K.length + 2 * i + (offs K i).toNat + 2 * (c - (at1 K i).fr).toNat = 2 * (8 + 4 * K.length + behind K i + (c - (at1 K i).fr).toNat) := by
        unfold offs
        rw [if_pos h, Int.toNat_natCast]
        omega
      rw [hpos, hwo]
      unfold gl1 delta
      rw [if_pos h, Int.add_zero]
      have : plane (at1 K i).gl = (at1 K i).gl := by unfold plane; rw [if_neg (by omega)]
      rw [this, if_pos ⟨hgl, hgl⟩]
    · have h0 : offs K i = 0 := by unfold offs; rw [if_neg h]
      rw [h0, if_pos rfl]
      unfold near delta conv
      rw [if_neg h, if_neg h, (plane_back a6 a7 a1 (by omega)).1]
      have : (at1 K i).gl + (at1 K i).to - (at1 K i).fr ≤ 65535 := by
        unfold isRow at h
        simp only [Bool.and_eq_true, decide_eq_true_eq] at h
        rcases (show (at1 K i).st = 0 ∨ (at1 K i).st = 1 by omega) with e | e
        · have : (at1 K i).fr = (at1 K i).to := by
            by_cases e2 : (at1 K i).fr < (at1 K i).to
            · exact absurd ⟨e, e2⟩ h
            · omega
          omega
        · rw [e] at a8; omega
      rw [if_pos this]
  · unfold bad
    rw [efr, eof, eto i hi]
    have hl : Sg.last (file K) i < (at1 K i).fr := by
      unfold Sg.last
      by_cases e : i = 0
      · rw [if_pos e]; omega
      · rw [if_neg e, eto (i - 1) (by omega)]; rw [if_neg e] at hlt; exact hlt
    have he : offs K i % 2 ≠ 1 := by
      unfold offs
      by_cases h : isRow (at1 K i) = true
      · rw [if_pos h]; omega
      · rw [if_neg h]; omega
    simp only [Bool.or_eq_false_iff, decide_eq_false_iff_not]
    omega
theorem range_flat (K : List Span) : (List.range K.length).flatMap (fun i => conv (at1 K i)) = K.flatMap conv := by
  have : K = (List.range K.length).map (at1 K) := by
    apply List.ext_getElem
    · simp
    · intro j h1 h2
      simp [at1, List.getD, List.getElem?_eq_getElem h1]
  conv => rhs; rw [this]
  rw [List.flatMap_map]
/-- What is put is got, whatever stands behind. -/
theorem get_file {K : List Span} (G : Good K) (more : List UInt8) : get (file K ++ more) = (K.flatMap conv, 0) := by
  have hw := words_len K
  have hone := G.one
  have hsize := G.size
  have f0 : word (file K ++ more) 0 = 4 := word_file K more 0 4 (by omega) rfl (by omega) (by omega)
  have f2 : word (file K ++ more) 2 = ((16 + 8 * K.length + 2 * glyphs K : Nat) : Int) := word_file K more 1 _ (by omega) rfl (by omega) (by omega)
  have f6 : word (file K ++ more) 6 = ((2 * K.length : Nat) : Int) := word_file K more 3 _ (by omega) rfl (by omega) (by omega)
  have hm : many (file K ++ more) = K.length := by unfold many; rw [f6]; omega
  have htake : (file K ++ more).take (16 + 8 * K.length + 2 * glyphs K) = file K := by
    have := List.take_left (l₁ := file K) (l₂ := more)
    rwa [file_len] at this
  unfold get
  rw [hm, f0, f2, f6, if_neg (by rw [List.length_append, file_len]; omega), if_neg (by omega), if_neg (by rw [List.length_append, file_len]; omega), if_neg (by omega), Int.toNat_natCast, htake]
  unfold body
  have hb : (List.range K.length).any (fun i => bad (file K) K.length i) = false := by
    rw [List.any_eq_false]
    intro i hi
    rw [(seg_file G i (List.mem_range.1 hi)).2.1]
    simp
  have hl : Sg.last (file K) K.length = 65535 := by
    unfold Sg.last
    rw [if_neg (by omega), (seg_file G (K.length - 1) (by omega)).2.2, G.last]
  rw [hb, hl, if_neg (by simp), Sf.scan_zero _ _ _ (fun j _ hj => by rw [(seg_file G j (by omega)).1]), if_neg (by simp)]
  congr 1
  rw [← range_flat, List.flatMap_def, List.flatMap_def]
  congr 1
  apply List.map_congr_left
  intro i hi
  rw [(seg_file G i (List.mem_range.1 hi)).1]

/-! The same glyph of each rune. -/
theorem look_conv {x : Span} (hx : okSpan x = true) (hr : isRow x = true → 0 < x.gl) (R : List Span) (c : Int) : look (conv x ++ R) c = if x.fr ≤ c ∧ c ≤ x.to then glyphOf x c else look R c := by
  obtain ⟨a1, a2, a3, a4, a5, a6, a7, a8⟩ := (okSpan_iff _).1 hx
  unfold conv
  by_cases h : isRow x = true
  · rw [if_pos h]
    have hgl := hr h
    have hw : wid x = (x.to - x.fr + 1).toNat := by unfold wid; rw [if_pos h]
    have hst : x.st = 0 := by unfold isRow at h; simp only [Bool.and_eq_true, decide_eq_true_eq] at h; exact h.1
    have main : ∀ (n : Nat) (a : Int), look (spansOf (fun _ => x.gl) a n ++ R) c = if a ≤ c ∧ c < a + n then x.gl else look R c := by
      intro n
      induction n with
      | zero => intro a; rw [spansOf, List.nil_append, if_neg (by omega)]
      | succ n ih =>
        intro a
        rw [spansOf, if_neg (by omega), List.append_assoc, List.cons_append, List.nil_append, look]
        by_cases hc : c = a
        · rw [if_pos (by simp only; omega), if_pos (by omega)]
          unfold glyphOf
          rw [hc]; simp
        · rw [if_neg (by simp only; omega), ih (a + 1)]
          by_cases h2 : a + 1 ≤ c ∧ c < a + 1 + n
          · rw [if_pos h2, if_pos (by omega)]
          · rw [if_neg h2, if_neg (by omega)]
    rw [main]
    by_cases hc : x.fr ≤ c ∧ c ≤ x.to
    · rw [if_pos hc, if_pos (by omega)]; unfold glyphOf; rw [hst]; simp
    · rw [if_neg hc, if_neg (by omega)]
  · rw [if_neg h, List.cons_append, List.nil_append, look]
    by_cases hc : x.fr ≤ c ∧ c ≤ x.to
    · rw [if_pos (by simpa using hc), if_pos hc]
      unfold glyphOf isRow at *
      simp only [Bool.and_eq_true, decide_eq_true_eq] at h
      rcases (show x.st = 0 ∨ x.st = 1 by omega) with e | e
      · have : c = x.fr := by
          by_cases e2 : x.fr < x.to
          · exact absurd ⟨e, e2⟩ h
          · omega
        rw [this, e]; simp
      · rw [e]
    · rw [if_neg (by simpa using hc), if_neg hc]
theorem look_flat : ∀ (K : List Span), (∀ x ∈ K, okSpan x = true) → (∀ x ∈ K, isRow x = true → 0 < x.gl) → ∀ c, look (K.flatMap conv) c = look K c
  | [], _, _, _ => rfl
  | x :: r, h1, h2, c => by
    rw [List.flatMap_cons, look_conv (h1 x (by simp)) (h2 x (by simp)), look, look_flat r (fun y hy => h1 y (by simp [hy])) (fun y hy => h2 y (by simp [hy])) c]
theorem noGl {x : Span} (hx : okSpan x = true) (h : hasGl x = false) {c : Int} (h1 : x.fr ≤ c) (h2 : c ≤ x.to) : glyphOf x c = 0 := by
  obtain ⟨a1, a2, a3, a4, a5, a6, a7, a8⟩ := (okSpan_iff _).1 hx
  unfold hasGl at h
  simp only [Bool.or_eq_false_iff, decide_eq_false_iff_not, Bool.and_eq_false_iff] at h
  unfold glyphOf
  have g0 : x.gl = 0 := by omega
  rcases (show x.st = 0 ∨ x.st = 1 by omega) with e | e
  · rw [g0, e]; simp
  · have : ¬ x.fr < x.to := by
      rcases h.2 with h3 | h3
      · exact absurd e h3
      · exact h3
    rw [g0, show c = x.fr by omega]; simp
theorem look_kept : ∀ (l : List Span) (p : Int), Ch.chain p l = true → ∀ c, look (kept l) c = look l c
  | [], _, _, _ => rfl
  | x :: r, p, h, c => by
    simp only [Ch.chain, Bool.and_eq_true, decide_eq_true_eq] at h
    have ih := look_kept r x.to h.2 c
    unfold kept at *
    by_cases hg : hasGl x = true
    · rw [List.filter_cons_of_pos hg, look, look, ih]
    · rw [List.filter_cons_of_neg hg, ih, look]
      by_cases hc : x.fr ≤ c ∧ c ≤ x.to
      · rw [if_pos hc, noGl h.1.1 (by simpa using hg) hc.1 hc.2, look_low r x.to h.2 c hc.2]
      · rw [if_neg hc]
theorem look_more {z : Span} (hz : ∀ c, z.fr ≤ c → c ≤ z.to → glyphOf z c = 0) : ∀ (A : List Span) (c : Int), look (A ++ [z]) c = look A c
  | [], c => by
    rw [List.nil_append, look, look]
    by_cases h : z.fr ≤ c ∧ c ≤ z.to
    · rw [if_pos h, hz c h.1 h.2]
    · rw [if_neg h, look]
  | x :: r, c => by rw [List.cons_append, look, look, look_more hz r c]
theorem look_whole {l : List Span} (h : isL l = true) (c : Int) : look (whole l) c = look l c := by
  rw [← look_kept l (-1) (isL_links h) c]
  unfold whole
  by_cases e : ended (kept l) = true
  · rw [if_pos e]
  · rw [if_neg e]
    refine look_more (fun d h1 h2 => ?_) _ c
    simp only at h1 h2
    unfold glyphOf
    simp only
    omega
theorem chain_kept : ∀ (l : List Span) (p : Int), Ch.chain p l = true → Ch.chain p (kept l) = true
  | [], _, _ => rfl
  | x :: r, p, h => by
    simp only [Ch.chain, Bool.and_eq_true, decide_eq_true_eq] at h
    have ih := chain_kept r x.to h.2
    obtain ⟨a1, a2, _⟩ := (okSpan_iff _).1 h.1.1
    unfold kept at *
    by_cases hg : hasGl x = true
    · rw [List.filter_cons_of_pos hg, Ch.chain, h.1.1, ih]; simp; exact h.1.2
    · rw [List.filter_cons_of_neg hg]; exact chain_lower (by omega) _ ih
theorem glyphs_whole (l : List Span) : glyphs (whole l) = glyphs (kept l) := by
  unfold whole
  by_cases e : ended (kept l) = true
  · rw [if_pos e]
  · rw [if_neg e, glyphs_append]; rfl
theorem manyOf_ok {l : List Span} (h : (manyOf l).2.2 = 0) : isL l = true ∧ (∀ x ∈ kept l, x.to ≤ 65535) ∧ 16 + 8 * (whole l).length + 2 * glyphs (kept l) ≤ 65535 ∧ (manyOf l).1 = (whole l).length ∧ (manyOf l).2.1 = glyphs (kept l) := by
  unfold manyOf at *
  by_cases c1 : isL l = false
  · rw [if_pos c1] at h; cases h
  · rw [if_neg c1] at h ⊢
    by_cases c2 : (kept l).any (fun x => decide (65535 < x.to)) = true
    · rw [if_pos c2] at h; cases h
    · rw [if_neg c2] at h ⊢
      by_cases c3 : 65535 < 16 + 8 * (whole l).length + 2 * glyphs (kept l)
      · rw [if_pos c3] at h; cases h
      · rw [if_neg c3]
        refine ⟨by simpa using c1, fun x hx => ?_, by omega, rfl, rfl⟩
        rw [Bool.not_eq_true, List.any_eq_false] at c2
        have := c2 x hx
        simp at this
        omega
theorem manyOf_no {l : List Span} (h : (manyOf l).2.2 ≠ 0) : (manyOf l).1 = 0 ∧ (manyOf l).2.1 = 0 ∧ ((manyOf l).2.2 = 1 ↔ isL l = false) ∧ (isL l = true → (manyOf l).2.2 = 7) := by
  unfold manyOf at *
  by_cases c1 : isL l = false
  · rw [if_pos c1]; exact ⟨rfl, rfl, ⟨fun _ => c1, fun _ => rfl⟩, fun h2 => by rw [c1] at h2; cases h2⟩
  · rw [if_neg c1] at h ⊢
    by_cases c2 : (kept l).any (fun x => decide (65535 < x.to)) = true
    · rw [if_pos c2]; exact ⟨rfl, rfl, ⟨fun h2 => absurd h2 (by simp), fun h2 => absurd h2 c1⟩, fun _ => rfl⟩
    · rw [if_neg c2] at h ⊢
      by_cases c3 : 65535 < 16 + 8 * (whole l).length + 2 * glyphs (kept l)
      · rw [if_pos c3]; exact ⟨rfl, rfl, ⟨fun h2 => absurd h2 (by simp), fun h2 => absurd h2 c1⟩, fun _ => rfl⟩
      · rw [if_neg c3] at h; exact absurd rfl h
theorem last_of_ended : ∀ (K : List Span) (p : Int), Ch.chain p K = true → (∀ x ∈ K, x.to ≤ 65535) → ended K = true → 1 ≤ K.length ∧ (at1 K (K.length - 1)).to = 65535
  | [], _, _, _, h => by simp [ended] at h
  | [x], _, _, _, h => by
    simp only [ended, List.any_cons, List.any_nil, Bool.or_false, decide_eq_true_eq] at h
    exact ⟨by simp, h⟩
  | x :: y :: r, p, hc, hu, h => by
    simp only [Ch.chain, Bool.and_eq_true, decide_eq_true_eq] at hc
    obtain ⟨⟨hx, _⟩, ⟨⟨hy, hxy⟩, hr⟩⟩ := hc
    obtain ⟨b1, b2, _⟩ := (okSpan_iff _).1 hy
    have huy := hu y (by simp)
    have h' : ended (y :: r) = true := by
      unfold ended at h ⊢
      rw [List.any_cons] at h
      have : decide (x.to = 65535) = false := by simp; omega
      rwa [this, Bool.false_or] at h
    obtain ⟨_, j⟩ := last_of_ended (y :: r) x.to (by simp only [Ch.chain, Bool.and_eq_true, decide_eq_true_eq]; exact ⟨⟨hy, hxy⟩, hr⟩) (fun z hz => hu z (by simp [hz])) h'
    refine ⟨by simp, ?_⟩
    have e : (x :: y :: r).length - 1 = ((y :: r).length - 1) + 1 := by simp
    rw [e]
    exact j
theorem good_whole {l : List Span} (h : (manyOf l).2.2 = 0) : Good (whole l) := by
  obtain ⟨hl, hu, hs, _, _⟩ := manyOf_ok h
  have hk := chain_kept l (-1) (isL_links hl)
  have hrow : ∀ x ∈ kept l, isRow x = true → 0 < x.gl := by
    intro x hx hr
    have hg : hasGl x = true := (List.mem_filter.1 hx).2
    unfold hasGl at hg
    unfold isRow at hr
    simp only [Bool.or_eq_true, Bool.and_eq_true, decide_eq_true_eq] at hg hr
    omega
  have hgw := glyphs_whole l
  by_cases e : ended (kept l) = true
  · have hw : whole l = kept l := by unfold whole; rw [if_pos e]
    obtain ⟨h1, h2⟩ := last_of_ended _ _ hk hu e
    rw [hw] at hs ⊢
    exact ⟨hk, hu, hrow, h1, h2, hs⟩
  · have hw : whole l = kept l ++ [⟨65535, 65535, 0, 1⟩] := by unfold whole; rw [if_neg e]
    have hlt : ∀ x ∈ kept l, x.to ≤ 65534 := by
      intro x hx
      have h1 := hu x hx
      unfold ended at e
      rw [Bool.not_eq_true, List.any_eq_false] at e
      have := e x hx
      simp at this
      omega
    have hm : ∀ x ∈ whole l, x ∈ kept l ∨ x = ⟨65535, 65535, 0, 1⟩ := by
      intro x hx
      rw [hw] at hx
      simpa using hx
    refine ⟨?_, fun x hx => ?_, fun x hx hr => ?_, by rw [hw]; simp, ?_, by rw [hgw]; exact hs⟩
    · rw [hw]
      exact chain_append _ _ _ hk (q := 65534) (by omega) hlt (by decide)
    · rcases hm x hx with h1 | rfl
      · exact hu x h1
      · exact Int.le_refl _
    · rcases hm x hx with h1 | rfl
      · exact hrow x h1 hr
      · exact absurd hr (by decide)
    · rw [hw]
      simp [at1, List.getD]
/-- What is put, and got, tells the same glyph of each rune. -/
theorem get_put {l : List Span} (h : (put l).2 = 0) (more : List UInt8) : (get ((put l).1 ++ more)).2 = 0 ∧ isL (get ((put l).1 ++ more)).1 = true ∧ (∀ c, look (get ((put l).1 ++ more)).1 c = look l c) ∧ isL l = true ∧ (put l).1.length = 16 + 8 * (manyOf l).1 + 2 * (manyOf l).2.1 := by
  unfold put at h ⊢
  by_cases c : (manyOf l).2.2 ≠ 0
  · rw [if_pos c] at h; exact absurd h c
  · rw [if_neg c]
    have c0 : (manyOf l).2.2 = 0 := by simpa using c
    have G := good_whole c0
    obtain ⟨hl, _, _, e1, e2⟩ := manyOf_ok c0
    have hg := get_file G more
    have h0 : (get (file (whole l) ++ more)).2 = 0 := by rw [hg]
    refine ⟨h0, (get_right h0).1, fun c => ?_, hl, ?_⟩
    · show look (get (file (whole l) ++ more)).1 c = look l c
      rw [hg, ← look_whole hl c]
      exact look_flat _ (chain_all (P := fun x => okSpan x = true) (fun _ h => h) _ _ G.chain) G.row c
    · show (file (whole l)).length = _
      rw [file_len, e1, e2, glyphs_whole]
theorem put_refused {l : List Span} (h : (put l).2 ≠ 0) : (put l).1 = [] ∧ (put l).2 = (manyOf l).2.2 := by
  unfold put at *
  by_cases c : (manyOf l).2.2 ≠ 0
  · rw [if_pos c]; exact ⟨rfl, rfl⟩
  · rw [if_neg c] at h; exact absurd rfl h
/-- A span without a glyph behind the others makes nothing. -/
theorem put_more {l : List Span} {z : Span} (h : isL l = true) (hz : isL (l ++ [z]) = true) (hg : hasGl z = false) : put (l ++ [z]) = put l ∧ manyOf (l ++ [z]) = manyOf l := by
  have hk : kept (l ++ [z]) = kept l := by
    unfold kept
    rw [List.filter_append, List.filter_cons_of_neg (by rw [hg]; simp)]
    simp
  have hw : whole (l ++ [z]) = whole l := by unfold whole; rw [hk]
  have hm : manyOf (l ++ [z]) = manyOf l := by unfold manyOf; rw [hk, hw, h, hz]
  refine ⟨?_, hm⟩
  unfold put
  rw [hm, hw]
end Sg
/-
  The greatest power of two that is at most a number, by doubling, and bits.Len. Nothing of the program. No conditions beyond those stated.
-/
namespace Sg
theorem double_pow (n : Nat) : ∀ (f s : Nat), 2 ^ s ≤ n → n < 2 ^ s + f → ∃ t, Sf.double n f (2 ^ s) s = (2 ^ t, t) ∧ 2 ^ t ≤ n ∧ n < 2 ^ (t + 1)
  | 0, s, h1, h2 => by omega
  | f + 1, s, h1, h2 => by
    rw [Sf.double]
    by_cases h : 2 * 2 ^ s ≤ n
    · rw [if_pos h]
      have e : 2 * 2 ^ s = 2 ^ (s + 1) := by rw [Nat.pow_succ]; omega
      have h0 : 1 ≤ 2 ^ s := Nat.one_le_two_pow
      rw [e] at h ⊢
      have e2 : 2 ^ (s + 1) = 2 * 2 ^ s := e.symm
      exact double_pow n f (s + 1) h (by omega)
    · rw [if_neg h]
      refine ⟨s, rfl, h1, ?_⟩
      rw [Nat.pow_succ]; omega
theorem pow2_is {n : Nat} (h : 0 < n) (hn : n ≤ 8200) : ∃ t, Sf.pow2 n = (2 ^ t, t) ∧ 2 ^ t ≤ n ∧ n < 2 ^ (t + 1) ∧ Go.Lib.bitLen n = t + 1 ∧ t < 14 := by
  obtain ⟨t, e, h1, h2⟩ := double_pow n n 0 (by rw [Nat.pow_zero]; omega) (by rw [Nat.pow_zero]; omega)
  refine ⟨t, ?_, h1, h2, ?_, ?_⟩
  · unfold Sf.pow2
    rw [if_neg (by omega)]
    exact e
  · rw [Go.Lib.bitLen_shift t n h1 (by omega)]
    have hq : n / 2 ^ t = 1 := by
      have h0 : 0 < 2 ^ t := Nat.pow_pos (by omega)
      rw [Nat.pow_succ] at h2
      apply Nat.div_eq_of_lt_le
      · omega
      · omega
    rw [hq]
    rfl
  · have h3 : 2 ^ t < 2 ^ 14 := by
      have : (2 : Nat) ^ 14 = 16384 := by decide
      omega
    exact (Nat.pow_lt_pow_iff_right (by omega)).1 h3
end Sg
