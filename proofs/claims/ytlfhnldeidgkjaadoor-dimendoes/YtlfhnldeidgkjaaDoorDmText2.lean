/-
  Plain facts on texts: what Text tells is read as it was; digits, one by one. No conditions.
-/
import Derived.Test.YtlfhnldeidgkjaaDoorDmTextW
import Derived.Test.YtlfhnldeidgkjaaDoorDmParse
namespace Dm
open Go

/-- A number's last k digits. -/
def pad (k d : Nat) : List UInt8 := (List.range k).map fun t => Lib.dg d (k - 1 - t)
theorem pad_len (k d : Nat) : (pad k d).length = k := by simp [pad]
theorem pad_snoc (k d : Nat) : pad (k + 1) d = pad k (d / 10) ++ [Lib.dg d 0] := by
  unfold pad
  rw [List.range_succ, List.map_append]
  congr 1
  · apply List.map_congr_left
    intro t ht
    have : t < k := List.mem_range.1 ht
    rw [show k + 1 - 1 - t = (k - 1 - t) + 1 by omega, Lib.dg_succ]
  · simp
theorem dg_toNat (d j : Nat) : (Lib.dg d j).toNat = 48 + d / 10 ^ j % 10 := by
  unfold Lib.dg
  have : d / 10 ^ j % 10 < 10 := Nat.mod_lt _ (by omega)
  rw [UInt8.toNat_ofNat_of_lt' (by simp [UInt8.size]; omega)]
theorem dg_isDig (d j : Nat) : isDig (Lib.dg d j) = true := by
  rw [isDig_iff, dg_toNat]
  have : d / 10 ^ j % 10 < 10 := Nat.mod_lt _ (by omega)
  omega
theorem pad_all (k d : Nat) : (pad k d).all isDig = true := by
  unfold pad
  rw [List.all_eq_true]
  intro c hc
  obtain ⟨t, _, rfl⟩ := List.mem_map.1 hc
  exact dg_isDig _ _
theorem numv_pad : ∀ (k d : Nat), d < 10 ^ k → numv (pad k d) = d
  | 0, d, h => by
    have : d = 0 := by simpa using h
    subst this
    rfl
  | k + 1, d, h => by
    rw [pad_snoc, numv_snoc, numv_pad k (d / 10) (by rw [Nat.pow_succ] at h; omega), dg_toNat]
    simp
    omega
theorem dec_small (n : Nat) (h : n < 10) : Lib.decDigits n = [Lib.dg n 0] := by
  rw [Lib.decDigits, dif_pos h]
  unfold Lib.dg
  simp [Nat.mod_eq_of_lt h]
theorem dec_big (n : Nat) (h : ¬ n < 10) : Lib.decDigits n = Lib.decDigits (n / 10) ++ [Lib.dg n 0] := by
  rw [Lib.decDigits, dif_neg h]
  unfold Lib.dg
  simp
theorem dec_facts (n : Nat) : (Lib.decDigits n).all isDig = true ∧ numv (Lib.decDigits n) = n := by
  induction n using Nat.strongRecOn with
  | _ n ih =>
    by_cases h : n < 10
    · rw [dec_small n h]
      refine ⟨by simp [dg_isDig], ?_⟩
      simp [numv, dg_toNat]
      omega
    · obtain ⟨h1, h2⟩ := ih (n / 10) (by omega)
      rw [dec_big n h]
      refine ⟨by rw [all_snoc, h1, dg_isDig]; rfl, ?_⟩
      rw [numv_snoc, h2, dg_toNat]
      simp
      omega
/-- A one put in front keeps the zeros. -/
theorem dec_pad : ∀ (k d : Nat), d < 10 ^ k → Lib.decDigits (10 ^ k + d) = 49 :: pad k d
  | 0, d, h => by
    have : d = 0 := by simpa using h
    subst this
    rw [dec_small _ (by decide)]
    decide
  | k + 1, d, h => by
    have hp : 0 < 10 ^ k := Nat.pow_pos (by omega)
    have hs : 10 ^ (k + 1) = 10 ^ k * 10 := Nat.pow_succ ..
    rw [dec_big _ (by omega), pad_snoc]
    have e1 : (10 ^ (k + 1) + d) / 10 = 10 ^ k + d / 10 := by omega
    rw [e1, dec_pad k (d / 10) (by omega)]
    have e2 : Lib.dg (10 ^ (k + 1) + d) 0 = Lib.dg d 0 := by
      unfold Lib.dg
      congr 2
      simp
      omega
    rw [e2]
    rfl

theorem fraction_lt (p : Nat) (h : p < 65536) : fraction p (count p) < 10 ^ count p := by
  obtain ⟨c1, c2⟩ := count_bd p
  obtain ⟨f1, f2⟩ := fraction_le p (count p) h c2
  have hok := ok_count p
  have hp : 0 < 10 ^ count p := Nat.pow_pos (by omega)
  by_cases he : fraction p (count p) = 10 ^ count p
  · exfalso
    rw [he] at hok
    unfold scaled at hok
    generalize 10 ^ count p = t at *
    have : (131072 * t + t) / (2 * t) = 65536 := by
      apply Nat.div_eq_of_lt_le
      · omega
      · omega
    omega
  · omega
theorem digits_eq (p : Nat) (h : p < 65536) : digits p = pad (count p) (fraction p (count p)) := by
  unfold digits
  rw [dec_pad _ _ (fraction_lt p h)]
  rfl

/-! Parse of its parts. -/
theorem dig_ne {c : UInt8} (h : isDig c = true) : c ≠ 46 ∧ c ≠ 45 ∧ c ≠ 112 := by
  rw [isDig_iff] at h
  refine ⟨?_, ?_, ?_⟩ <;> (rintro rfl; revert h; decide)
theorem index_hit : ∀ (W F : List UInt8), W.all isDig = true → Lib.indexByte (W ++ 46 :: F) 46 = W.length
  | [], F, _ => by simp [Lib.indexByte]
  | c :: W, F, h => by
    simp only [List.all_cons, Bool.and_eq_true] at h
    have h1 := index_hit W F h.2
    have hne := (dig_ne h.1).1
    rw [List.cons_append, Lib.indexByte, h1]
    simp only [beq_iff_eq, hne, if_false, List.length_cons]
    rw [if_neg (by omega)]
    omega
theorem index_miss : ∀ (W : List UInt8), W.all isDig = true → Lib.indexByte W 46 = -1
  | [], _ => rfl
  | c :: W, h => by
    simp only [List.all_cons, Bool.and_eq_true] at h
    have h1 := index_miss W h.2
    have hne := (dig_ne h.1).1
    rw [Lib.indexByte, h1]
    simp [hne]
theorem suffix_pt (r : List UInt8) : Lib.hasSuffix (r ++ [112, 116]) [112, 116] = true ∧ Lib.trimSuffix (r ++ [112, 116]) [112, 116] = r := by
  have h : Lib.hasSuffix (r ++ [112, 116]) [112, 116] = true := by
    unfold Lib.hasSuffix
    rw [List.isSuffixOf_iff_suffix]
    exact List.suffix_append _ _
  refine ⟨h, ?_⟩
  unfold Lib.trimSuffix
  rw [if_pos h]
  simp
theorem prefix_minus (r : List UInt8) : Lib.hasPrefix (45 :: r) [45] = true ∧ Lib.trimPrefix (45 :: r) [45] = r := by
  have h : Lib.hasPrefix (45 :: r) [45] = true := by simp [Lib.hasPrefix]
  refine ⟨h, ?_⟩
  unfold Lib.trimPrefix
  rw [if_pos h]
  rfl
theorem prefix_none (c : UInt8) (r : List UInt8) (hc : c ≠ 45) : Lib.hasPrefix (c :: r) [45] = false ∧ Lib.trimPrefix (c :: r) [45] = c :: r := by
  have h : Lib.hasPrefix (c :: r) [45] = false := by
    show ((45 == c) && [].isPrefixOf r) = false
    rw [beq_eq_false_iff_ne.2 (Ne.symm hc)]; rfl
  refine ⟨h, ?_⟩
  unfold Lib.trimPrefix
  rw [h]
  rfl

def sign (minus : Bool) (r : List UInt8) : List UInt8 := if minus then 45 :: r else r
theorem sign_parts (minus : Bool) (c : UInt8) (r : List UInt8) (hc : c ≠ 45) : Lib.hasPrefix (sign minus (c :: r)) [45] = minus ∧ Lib.trimPrefix (sign minus (c :: r)) [45] = c :: r := by
  cases minus
  · exact prefix_none c r hc
  · exact prefix_minus _

theorem parse_both (minus : Bool) (W F : List UInt8) (hW : W.all isDig = true) (hn : W ≠ []) : parse (sign minus (W ++ 46 :: F ++ [112, 116])) = parts minus W true F := by
  obtain ⟨c, W', rfl⟩ : ∃ c W', W = c :: W' := by
    cases W with
    | nil => exact absurd rfl hn
    | cons c W' => exact ⟨c, W', rfl⟩
  have hc : c ≠ 45 := by
    simp only [List.all_cons, Bool.and_eq_true] at hW
    exact (dig_ne hW.1).2.1
  obtain ⟨h1, h2⟩ := sign_parts minus c (W' ++ 46 :: F ++ [112, 116]) hc
  obtain ⟨h3, h4⟩ := suffix_pt (c :: W' ++ 46 :: F)
  unfold parse
  have e : c :: W' ++ 46 :: F ++ [112, 116] = c :: (W' ++ 46 :: F ++ [112, 116]) := rfl
  rw [e, h1, h2, ← e, h3, h4, if_neg (by simp), cut_hit _ _ (index_hit (c :: W') F hW)]
  simp

theorem parse_whole (minus : Bool) (W : List UInt8) (hW : W.all isDig = true) (hn : W ≠ []) : parse (sign minus (W ++ [112, 116])) = parts minus W false [] := by
  obtain ⟨c, W', rfl⟩ : ∃ c W', W = c :: W' := by
    cases W with
    | nil => exact absurd rfl hn
    | cons c W' => exact ⟨c, W', rfl⟩
  have hc : c ≠ 45 := by
    simp only [List.all_cons, Bool.and_eq_true] at hW
    exact (dig_ne hW.1).2.1
  obtain ⟨h1, h2⟩ := sign_parts minus c (W' ++ [112, 116]) hc
  obtain ⟨h3, h4⟩ := suffix_pt (c :: W')
  unfold parse
  have e : c :: W' ++ [112, 116] = c :: (W' ++ [112, 116]) := rfl
  rw [e, h1, h2, ← e, h3, h4, if_neg (by simp), cut_miss _ (index_miss (c :: W') hW)]

theorem good_mk {l : List UInt8} {m : Nat} (h1 : 1 ≤ l.length) (h2 : l.length ≤ m) (h3 : l.all isDig = true) : good l m = true := by
  simp only [good, h3, decide_eq_true h1, decide_eq_true h2]; rfl

theorem parts_both (minus : Bool) (W F : List UInt8) (hW : good W 5 = true) (hF : good F 10 = true) :
    parts minus W true F = within (if minus then -((numv W * 65536 + scaled (numv F) F.length : Nat) : Int) else ((numv W * 65536 + scaled (numv F) F.length : Nat) : Int)) := by
  unfold parts
  rw [hW, hF, if_neg (by simp), if_neg (by simp)]
  simp

theorem text_eq (a : Int) : text a = sign (decide (a < 0)) (Lib.decDigits (a.natAbs / 65536) ++ 46 :: pad (count (a.natAbs % 65536)) (fraction (a.natAbs % 65536) (count (a.natAbs % 65536))) ++ [112, 116]) := by
  unfold text
  rw [digits_eq _ (by omega)]
  unfold sign
  by_cases h0 : a < 0
  · simp [h0]
  · simp [h0]

theorem parse_text (a : Int) (h : a.natAbs ≤ 1073741823) : parse (text a) = (a, 0) := by
  have hr : a.natAbs % 65536 < 65536 := Nat.mod_lt _ (by omega)
  obtain ⟨d1, d2⟩ := dec_facts (a.natAbs / 65536)
  have dl := whole_len (a.natAbs / 65536) (by omega)
  have dn := decDigits_ne (a.natAbs / 65536)
  obtain ⟨c1, c2⟩ := count_bd (a.natAbs % 65536)
  have hok := ok_count (a.natAbs % 65536)
  have hfl := fraction_lt (a.natAbs % 65536) hr
  rw [text_eq a, parse_both _ _ _ d1 (by intro h0; rw [h0] at dn; simp at dn), parts_both _ _ _ (good_mk dn dl d1) (good_mk (by rw [pad_len]; omega) (by rw [pad_len]; omega) (pad_all _ _)), d2, numv_pad _ _ hfl, pad_len, hok]
  have e : a.natAbs / 65536 * 65536 + a.natAbs % 65536 = a.natAbs := by omega
  rw [e]
  unfold within
  by_cases h0 : a < 0
  · simp only [h0, decide_true, if_true]
    rw [if_pos (by omega)]
    congr 1
    omega
  · simp only [h0, decide_false, Bool.false_eq_true, if_false]
    rw [if_pos (by omega)]
    congr 1
    omega
end Dm
