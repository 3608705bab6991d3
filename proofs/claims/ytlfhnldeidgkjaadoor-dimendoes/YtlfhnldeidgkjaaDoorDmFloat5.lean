/-
  Plain facts on dimen.Of: the sign turned, it grows, and how far what it tells is from the product. No conditions.
-/
import Derived.Test.YtlfhnldeidgkjaaDoorDmFloat4
namespace Fl
open Ieee

theorem product_comm (x y : Datum) : x.product y = y.product x := by
  cases x with
  | nan s f => cases y <;> rfl
  | infinity s =>
    cases y with
    | nan t g => rfl
    | infinity t => simp only [Datum.product]; rw [Bool.xor_comm]
    | number t n j => rfl
  | number s m i =>
    cases y with
    | nan t g => rfl
    | infinity t => rfl
    | number t n j => simp only [Datum.product]; rw [Bool.xor_comm, Nat.mul_comm, Int.add_comm]
theorem mul_comm (x y : Nat) : double.mul x y = double.mul y x := by
  unfold Format.mul; rw [product_comm]

theorem of_neg (f : Nat) (hf : f < 18446744073709551616) : of (neg f) = (-(of f).1, (of f).2) := by
  unfold of
  rw [mul_comm f, mul_comm (neg f)]
  rcases mul_neg 4679240012837945344 f hf with ⟨h1, h2⟩ | ⟨p, q, h1, h2, h3⟩
  · rw [h1, h2]; rfl
  · rw [h1, h2]; exact ans_opposite h3

theorem of_nan_any {f : Nat} {s : Bool} {t : Nat} (h : double.read f = .nan s t) : of f = (0, 3) := by
  unfold of Format.mul
  rw [h]
  rfl
theorem mul_inf {f : Nat} {s : Bool} (h : double.read f = .infinity s) : double.mul f 4679240012837945344 = some (double.word s double.infRung) := by
  unfold Format.mul
  rw [h, show double.read 4679240012837945344 = .number false 4503599627370496 (-36) from rfl]
  simp only [Datum.product, Bool.xor_false]
  rfl

/-- The product with 65536: exact, or endless. -/
theorem mul_num {f : Nat} {s : Bool} {v : Nat} (h : Num f s v) : (∃ p, double.mul f 4679240012837945344 = some p ∧ Num p s (v * 65536)) ∨ double.mul f 4679240012837945344 = some (double.word s double.infRung) := by
  obtain ⟨h1, h2⟩ := mul_two h 4679240012837945344 16 (by omega) rfl
  by_cases hv : v * 2 ^ 16 < 2 ^ 2098
  · exact .inl (h1 hv)
  · exact .inr (h2 (by omega))

theorem of_ok {f : Nat} {s : Bool} {v : Nat} (h : Num f s v) (hok : (of f).2 = 0) : ∃ p, double.mul f 4679240012837945344 = some p ∧ Num p s (v * 65536) ∧ (v * 65536 + H) / U ≤ 1073741823 ∧ (of f).1 = sv s ((v * 65536 + H) / U) := by
  rcases mul_num h with ⟨p, hp, hn⟩ | hp
  · refine ⟨p, hp, hn, ?_⟩
    unfold of at hok ⊢
    rw [hp] at hok ⊢
    simp only at hok ⊢
    rw [ans_num hn] at hok ⊢
    by_cases c : (v * 65536 + H) / U ≤ 1073741823
    · rw [if_pos c]; exact ⟨c, rfl⟩
    · rw [if_neg c] at hok; cases hok
  · exfalso
    unfold of at hok
    rw [hp] at hok
    simp only at hok
    rw [ans_inf (read_inf s)] at hok
    cases hok

theorem sv_mono {s t : Bool} {v u a b : Nat} (h : sv s v ≤ sv t u) (h1 : v ≤ u → a ≤ b) (h2 : u ≤ v → b ≤ a) (h0 : v = 0 → a = 0) (h3 : u = 0 → b = 0) : sv s a ≤ sv t b := by
  unfold sv at *
  cases s <;> cases t <;> simp at * <;> omega

/-- More tells no less. -/
theorem of_grows {f g : Nat} {s t : Bool} {v u : Nat} (hf : Num f s v) (hg : Num g t u) (h1 : (of f).2 = 0) (h2 : (of g).2 = 0) (hle : sv s v ≤ sv t u) : (of f).1 ≤ (of g).1 := by
  obtain ⟨p, _, _, _, e1⟩ := of_ok hf h1
  obtain ⟨q, _, _, _, e2⟩ := of_ok hg h2
  rw [e1, e2]
  have hz : (0 * 65536 + H) / U = 0 := by
    have := H_pos
    rw [U_eq, Nat.zero_mul, Nat.zero_add, Nat.div_eq_of_lt (by omega)]
  refine sv_mono hle (fun h => Nat.div_le_div_right (by omega)) (fun h => Nat.div_le_div_right (by omega)) (fun h => ?_) (fun h => ?_)
  · rw [h]; exact hz
  · rw [h]; exact hz

/-- What is over is at least the last length. -/
theorem of_over {f : Nat} (hnn : ¬ ∃ s t, double.read f = .nan s t) (h : (of f).2 ≠ 0) : ∃ p, double.mul f 4679240012837945344 = some p ∧ of f = (0, 2) ∧ (double.order p 4742290407612743680 = some .gt ∨ (double.order p 4742290407612743680 = some .lt ∧ double.order p 13965662444467519488 = some .lt)) := by
  have hinf : ∀ s, ans (double.word s double.infRung) = (0, 2) ∧ (double.order (double.word s double.infRung) 4742290407612743680 = some .gt ∨ (double.order (double.word s double.infRung) 4742290407612743680 = some .lt ∧ double.order (double.word s double.infRung) 13965662444467519488 = some .lt)) := by
    intro s
    refine ⟨ans_inf (read_inf s), ?_⟩
    rw [order_inf_num (read_inf s) num_max, order_inf_num (read_inf s) num_min]
    cases s
    · exact .inl rfl
    · exact .inr ⟨rfl, rfl⟩
  rcases kinds f with ⟨s, t, hr⟩ | ⟨s, hr⟩ | ⟨s, v, hv⟩
  · exact absurd ⟨s, t, hr⟩ hnn
  · refine ⟨_, mul_inf hr, ?_, (hinf s).2⟩
    unfold of; rw [mul_inf hr]; exact (hinf s).1
  · rcases mul_num hv with ⟨p, hp, hn⟩ | hp
    · refine ⟨p, hp, ?_⟩
      have ho : of f = ans p := by unfold of; rw [hp]
      rw [ho] at h ⊢
      rw [ans_num hn] at h ⊢
      by_cases c : (v * 65536 + H) / U ≤ 1073741823
      · rw [if_pos c] at h; exact absurd rfl h
      · rw [if_neg c]
        refine ⟨rfl, ?_⟩
        have hbig : 1073741823 * U < v * 65536 := by
          have h1 : 1073741824 ≤ (v * 65536 + H) / U := by omega
          rw [Nat.le_div_iff_mul_le U_pos] at h1
          have := U_eq
          have := H_pos
          omega
        have hpos := U_pos
        rw [order_num hn num_max, order_num hn num_min]
        generalize v * 65536 = P at *
        generalize 1073741823 * U = M at *
        cases s
        · left
          show some (compareOfLessAndEq _ _) = _
          unfold compareOfLessAndEq sv
          rw [if_neg (by simp; omega), if_neg (by simp; omega)]
        · right
          constructor
          · show some (compareOfLessAndEq _ _) = _
            unfold compareOfLessAndEq sv
            rw [if_pos (by simp; omega)]
          · show some (compareOfLessAndEq _ _) = _
            unfold compareOfLessAndEq sv
            rw [if_pos (by simp; omega)]
    · refine ⟨_, hp, ?_, (hinf s).2⟩
      unfold of; rw [hp]; exact (hinf s).1

theorem lit_H (m k a : Nat) (hm : m = 2 ^ k) (ha : k + a = 1073) : m * 2 ^ a = H := by
  unfold H; rw [hm, ← pow_sum k a 1073 ha]
theorem pow_lt_gen (a b : Nat) (h : a < b) : 2 ^ a < 2 ^ b := Nat.pow_lt_pow_right (by omega) h
theorem num_half : Num 4602678819172646912 false H := by
  have := num_of_read (show double.read 4602678819172646912 = .number false 4503599627370496 (-53) from rfl)
  rw [lit_H 4503599627370496 52 (-53 + 1074 : Int).toNat rfl rfl] at this
  exact this
theorem num_mhalf : Num 13826050856027422720 true H := by
  have := num_of_read (show double.read 13826050856027422720 = .number true 4503599627370496 (-53) from rfl)
  rw [lit_H 4503599627370496 52 (-53 + 1074 : Int).toNat rfl rfl] at this
  exact this
theorem num_zero : Num 0 false 0 := by
  have := num_of_read (show double.read 0 = .number false 0 (-1074) from rfl)
  rw [Nat.zero_mul] at this
  exact this

/-- The rest that rounding leaves is a number that the format has. -/
theorem rest_rep (m E : Nat) (hm : m < 9007199254740992) : ∃ m' e', m' < 9007199254740992 ∧ ((sv false ((m * 2 ^ E + H) / U * U)) - sv false (m * 2 ^ E)).natAbs = m' * 2 ^ e' := by
  have hUp := U_pos
  have hHp := H_pos
  have hU := U_eq
  by_cases hE : 1074 ≤ E
  · refine ⟨0, 0, by omega, ?_⟩
    have e1 : m * 2 ^ E = m * 2 ^ (E - 1074) * U := by
      unfold U; rw [Nat.mul_assoc, ← pow_sum (E - 1074) 1074 E (by omega)]
    have e2 : (m * 2 ^ E + H) / U * U = m * 2 ^ E := by
      rw [e1, Nat.add_comm, Nat.add_mul_div_right _ _ U_pos, Nat.div_eq_of_lt (by omega), Nat.zero_add]
    rw [e2]
    simp
  · have hUE : U = 2 ^ (1074 - E) * 2 ^ E := by unfold U; exact pow_sum _ _ 1074 (by omega)
    have hHE : H = 2 ^ (1073 - E) * 2 ^ E := by unfold H; exact pow_sum _ _ 1073 (by omega)
    have hPE : 0 < 2 ^ E := Nat.two_pow_pos _
    by_cases hs : 1074 - E ≤ 53
    · -- within the significand
      have hlo : (m * 2 ^ E + H) / U = (m + 2 ^ (1073 - E)) / 2 ^ (1074 - E) := by
        rw [hUE, hHE, ← Nat.add_mul, Nat.mul_div_mul_right _ _ hPE]
      have hd : 2 ^ (1074 - E) = 2 * 2 ^ (1073 - E) := pow_gen _ _ (by omega)
      have hb : 2 ^ (1073 - E) ≤ 2 ^ 52 := pow_mono _ _ (by omega)
      have hh : 0 < 2 ^ (1073 - E) := Nat.two_pow_pos _
      refine ⟨((((m + 2 ^ (1073 - E)) / 2 ^ (1074 - E) * 2 ^ (1074 - E) : Nat) : Int) - (m : Int)).natAbs, E, ?_, ?_⟩
      · rw [hd]
        generalize 2 ^ (1073 - E) = h at *
        have q1 := Nat.div_add_mod (m + h) (2 * h)
        have q2 := Nat.mod_lt (m + h) (show 0 < 2 * h by omega)
        rw [Nat.mul_comm] at q1
        generalize (m + h) / (2 * h) * (2 * h) = z at *
        omega
      · rw [hlo, hUE, ← Nat.mul_assoc]
        simp only [sv, Bool.false_eq_true, if_false]
        generalize (m + 2 ^ (1073 - E)) / 2 ^ (1074 - E) * 2 ^ (1074 - E) = z
        generalize 2 ^ E = P
        rw [show (((z * P : Nat) : Int) - ((m * P : Nat) : Int)) = ((z : Int) - m) * (P : Int) by rw [Int.sub_mul]; simp, Int.natAbs_mul, Int.natAbs_natCast]
    · refine ⟨m, E, hm, ?_⟩
      have hlt : m * 2 ^ E < H := by
        have h1 := lt_pow_shift (k := E) hm
        have h2 : 2 ^ (53 + E) ≤ H := by unfold H; exact pow_mono _ 1073 (by omega)
        omega
      rw [Nat.div_eq_of_lt (by omega), Nat.zero_mul]
      generalize m * 2 ^ E = q
      simp [sv]

/-- How the rest stands to a half. -/
theorem rest_order {p : Nat} {s : Bool} {P : Nat} (hp : Num p s P) (hn : (P + H) / U ≤ 1073741823) : ∃ z, double.sub (Go.floatOfInt .f64 (sv s ((P + H) / U))) p = some z ∧
    ((double.order z 4602678819172646912 = some .lt ∧ double.order z 13826050856027422720 = some .gt) ∨
     (double.order z 4602678819172646912 = some .eq ∧ double.order z 13826050856027422720 = some .gt ∧ double.order p 0 = some .gt) ∨
     (double.order z 4602678819172646912 = some .lt ∧ double.order z 13826050856027422720 = some .eq ∧ double.order p 0 = some .lt)) := by
  have hUp := U_pos
  have hHp := H_pos
  have hU := U_eq
  have q1 := Nat.div_add_mod (P + H) U
  have q2 := Nat.mod_lt (P + H) U_pos
  have hx := num_int (sv s ((P + H) / U)) (by rw [sv_natAbs]; exact hn)
  rw [sv_natAbs] at hx
  have hxe : sv (decide (sv s ((P + H) / U) < 0)) ((P + H) / U * U) = sv s ((P + H) / U * U) := by
    have := sv_int (sv s ((P + H) / U))
    rw [sv_natAbs] at this
    rw [sv_mul, sv_mul, this]
  obtain ⟨m, i, r1, r2, r3, r4⟩ := hp
  obtain ⟨m', e', hm', hrep⟩ := rest_rep m (i + 1074).toNat r3
  rw [← r4] at hrep
  have habs : (sv (decide (sv s ((P + H) / U) < 0)) ((P + H) / U * U) - sv s P).natAbs = m' * 2 ^ e' := by
    rw [hxe, ← hrep]
    generalize (P + H) / U * U = z
    unfold sv
    cases s <;> simp <;> omega
  have hp : Num p s P := ⟨m, i, r1, r2, r3, r4⟩
  rw [Nat.mul_comm] at q1
  have hsmall : m' * 2 ^ e' ≤ H := by
    rw [← hrep]
    generalize (P + H) / U * U = z at *
    unfold sv
    simp
    omega
  have htop : m' * 2 ^ e' < 2 ^ 2098 := by
    refine Nat.lt_of_le_of_lt hsmall ?_
    unfold H
    exact pow_lt_gen 1073 2098 (by omega)
  obtain ⟨z, n, hz, hzn, hzv⟩ := sub_num hx hp m' e' hm' htop habs
  refine ⟨z, hz, ?_⟩
  rw [hxe] at hzv
  rw [order_num hzn num_half, order_num hzn num_mhalf, order_num hp num_zero, hzv]
  have hz0 : (P + H) / U * U = 0 → P < H := by omega
  have hcase : (P + H) / U = 0 ∨ U ≤ (P + H) / U * U := by
    by_cases h0 : (P + H) / U = 0
    · exact .inl h0
    · right
      have := Nat.mul_le_mul_right U (Nat.pos_of_ne_zero h0)
      omega
  generalize hzz : (P + H) / U * U = Z at *
  have hzz0 : (P + H) / U = 0 → Z = 0 := by intro h; rw [← hzz, h, Nat.zero_mul]
  generalize (P + H) / U = N at *
  have c3 : ∀ a b : Int, some (compare a b) = some (if a < b then Ordering.lt else if a = b then .eq else .gt) := fun a b => rfl
  rw [c3, c3, c3]
  unfold sv
  cases s
  · simp only [Bool.false_eq_true, if_false, if_true]
    by_cases hb : (Z : Int) - P = H
    · right; left
      rw [if_neg (by omega), if_pos hb, if_neg (by omega), if_neg (by omega), if_neg (by omega), if_neg (by omega)]
      exact ⟨rfl, rfl, rfl⟩
    · left
      rw [if_pos (by omega), if_neg (by omega), if_neg (by omega)]
      exact ⟨rfl, rfl⟩
  · simp only [Bool.false_eq_true, if_false, if_true]
    by_cases hb : (Z : Int) - P = H
    · right; right
      rw [if_pos (by omega), if_neg (by omega), if_pos (by omega), if_pos (by omega)]
      exact ⟨rfl, rfl, rfl⟩
    · left
      rw [if_pos (by omega), if_neg (by omega), if_neg (by omega)]
      exact ⟨rfl, rfl⟩
end Fl
