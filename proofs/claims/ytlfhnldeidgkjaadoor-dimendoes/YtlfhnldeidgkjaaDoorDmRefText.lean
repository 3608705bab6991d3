/-
  The contract of the document's answer Text of layer 2: the same text as the plain function tells. No conditions.
-/
import Derived.Test.YtlfhnldeidgkjaaDoorDmRef2
namespace Go.Proofs.YtlfhnldeidgkjaaDoor
open Go.RowKit

set_option maxHeartbeats 400000 in
theorem rtext_no (a : Int) (w : World) (h : Fx.len a = false) :
    Calls Tryd.prog 16 #[.int .i64 a] w fun e w' => e = .returned (.tuple #[.string ⟨#[]⟩, .int .i64 1]) ∧ Lo w w' := by
  have HI := Lib.hid h
  clear h
  go_enter Tryd.func16, Tryd.ntmps16
  go_wp2_with fail
  refine (rlen_any a _).mono ?_
  rw [HI.out]
  rintro e w' ⟨rfl, rfl⟩
  go_wp2_with fail
  go_ret2
  exact ⟨rfl, Lo.refl _⟩

theorem rfrac_nearest (p k : Nat) (W : World) (hp : p < 65536) (hk : k ≤ 5) :
    Calls Tryd.prog 33 #[.int .i64 ((p * 10 ^ k : Nat) : Int), .int .i64 65536] W fun e w' => e = .returned (.int .i64 (Dm.fraction p k : Nat)) ∧ W = w' := by
  have h := (Dm.fraction_le p k hp hk).2
  have hm : p * 10 ^ k ≤ 65536 * 100000 := Nat.mul_le_mul (by omega) h
  have := rnearest_any (p * 10 ^ k) 65536 W (by omega) (by omega) (by omega)
  unfold Dm.fraction
  rw [show 2 * p * 10 ^ k = 2 * (p * 10 ^ k) by rw [Nat.mul_assoc]]
  exact this

theorem rscaled_nearest (d k t : Nat) (W : World) (hd : d ≤ 10000000000) (ht : t = 10 ^ k) (hk : k ≤ 10) :
    Calls Tryd.prog 33 #[.int .i64 ((65536 * d : Nat) : Int), .int .i64 t] W fun e w' => e = .returned (.int .i64 (Dm.scaled d k : Nat)) ∧ W = w' := by
  have h := Dm.pow10_bd k hk
  have hp : 0 < 10 ^ k := Nat.pow_pos (by omega)
  have := rnearest_any (65536 * d) t W (by omega) (by omega) (by omega)
  unfold Dm.scaled
  subst ht
  rw [show 131072 * d = 2 * (65536 * d) by omega]
  exact this

/-- The loop's test at a number of digits. -/
def Hit (p k : Nat) : Prop := Dm.fraction p k < 10 ^ k ∧ Dm.scaled (Dm.fraction p k) k = p
theorem hit_count (p : Nat) (h : p < 65536) : Hit p (Dm.count p) := ⟨Dm.fraction_lt p h, Dm.ok_count p⟩
theorem hit_not (p k : Nat) (h1 : 1 ≤ k) (h2 : k < Dm.count p) : ¬ Hit p k := fun h => Dm.count_least p k h1 h2 h.2

set_option maxHeartbeats 1600000 in
theorem rtext_loop (n : Nat) (neg : Bool) (w : World) (h : n ≤ 1073741823) (h0 : neg = true → 0 < n) :
    Calls Tryd.prog 16 #[.int .i64 (if neg then -(n : Int) else n)] w fun e w' => e = .returned (.tuple #[.string ⟨(Dm.text (if neg then -(n : Int) else n)).toArray⟩, .int .i64 0]) ∧ Lo w w' := by
  have hq : n / 65536 ≤ 16383 := by omega
  have hr : n % 65536 < 65536 := by omega
  have hx : Dm.text (if neg then -(n : Int) else n) = (if neg then [45] else []) ++ Lib.decDigits (n / 65536) ++ [46] ++ Dm.pad (Dm.count (n % 65536)) (Dm.fraction (n % 65536) (Dm.count (n % 65536))) ++ [112, 116] := by
    cases neg
    · simp only [Bool.false_eq_true, if_false]
      rw [Dm.text_nat, Dm.digits_eq _ hr]; rfl
    · simp only [if_true]
      rw [Dm.text_neg n (h0 rfl), Dm.digits_eq _ hr]; simp
  have HX := Lib.hid hx
  have hqc : (n : Int) / 65536 = ((n / 65536 : Nat) : Int) := by omega
  have hrc : (n : Int) % 65536 = ((n % 65536 : Nat) : Int) := by omega
  have hwl := Dm.whole_len (n / 65536) hq
  have HW := Lib.hid (fun W => rwhole_any (n / 65536) W hq)
  clear hx
  obtain ⟨c1, c2⟩ := Dm.count_bd (n % 65536)
  have HH := Lib.hid (hit_count (n % 65536) hr)
  have HNn := Lib.hid (hit_not (n % 65536))
  generalize n / 65536 = q at *
  generalize n % 65536 = p at *
  generalize Lib.decDigits q = dq at *
  generalize Dm.text (if neg then -(n : Int) else n) = tx at *
  cases neg with
  | false =>
    simp only [Bool.false_eq_true, if_false] at *
    have HI := Lib.hid (Fx.len_yes (n := (n : Int)) (by omega) (by omega))
    have hdn : decide ((n : Int) < 0) = false := by simp
    go_enter Tryd.func16, Tryd.ntmps16
    go_wp2_with fail
    refine (rlen_any (n : Int) _).mono ?_
    rw [HI.out]
    rintro e w' ⟨rfl, rfl⟩
    go_wp2_with fail
    rw [hrc]
    clear hrc
    go_loop [6, 7] (fun i _ => ∃ k : Nat, 1 ≤ k ∧ k ≤ Dm.count p ∧ i = .int .i64 k) (fun i _ => Dm.count p - (intOf i).toNat)
    case atStart => exact ⟨1, by omega, by omega, rfl⟩
    case round =>
      obtain ⟨k, k1, k2, rfl⟩ := hrel
      have HF := Lib.hid (fun W => rfrac_nearest p k W hr (by omega))
      have HT := Lib.hid (fun W => rten_any k (10 ^ k) W (by omega) rfl)
      obtain ⟨f1, f2⟩ := Dm.fraction_le p k hr (by omega)
      have HS := Lib.hid (fun W => rscaled_nearest (Dm.fraction p k) k (10 ^ k) W (by omega) rfl (by omega))
      have hhit : (k < Dm.count p ∧ ((10 ^ k ≤ Dm.fraction p k) ∨ (Dm.fraction p k < 10 ^ k ∧ Dm.scaled (Dm.fraction p k) k ≠ p))) ∨ (k = Dm.count p ∧ Dm.fraction p k < 10 ^ k ∧ Dm.scaled (Dm.fraction p k) k = p) := by
        by_cases hlt : k < Dm.count p
        · left
          refine ⟨hlt, ?_⟩
          by_cases hd : Dm.fraction p k < 10 ^ k
          · exact .inr ⟨hd, fun hs => HNn.out k k1 hlt ⟨hd, hs⟩⟩
          · exact .inl (by omega)
        · right
          obtain rfl : k = Dm.count p := by omega
          exact ⟨rfl, HH.out.1, HH.out.2⟩
      have HR : Hid (Dm.fraction p k < 10 ^ k → ∀ W, Calls Tryd.prog 35 #[.int .i64 (Dm.fraction p k : Nat), .int .i64 k] W fun e w' => e = .returned (.string ⟨(Dm.pad k (Dm.fraction p k)).toArray⟩) ∧ Lo W w') := Lib.hid (fun hd W => rfract_any (Dm.fraction p k) k W (by omega) hd)
      have hpl := Dm.pad_len k (Dm.fraction p k)
      have HX2 : Hid (k = Dm.count p → tx = [] ++ dq ++ [46] ++ Dm.pad k (Dm.fraction p k) ++ [112, 116]) := Lib.hid (fun e => by rw [HX.out, ← e])
      generalize Dm.pad k (Dm.fraction p k) = pd at *
      generalize Dm.scaled (Dm.fraction p k) k = g at *
      generalize Dm.fraction p k = d at *
      generalize hp10 : 10 ^ k = t at *
      have Hp10 := Lib.hid hp10
      have hpdl : pd.length ≤ 10 := by omega
      clear hp10 hpl
      have hmb : p * t ≤ 65536 * 100000 := Nat.mul_le_mul (by omega) f2
      have hpt : (p : Int) * (t : Int) = ((p * t : Nat) : Int) := by simp
      generalize p * t = m at *
      have hdm : (d : Int) * 65536 = ((65536 * d : Nat) : Int) := by omega
      have hdb : 65536 * d ≤ 65536 * 100000 := by omega
      generalize 65536 * d = dm at *
      rcases hhit with ⟨hlt, hd | ⟨hd, hs⟩⟩ | ⟨hke, hd, hs⟩
      · go_wp2_with fail
        refine (HT.out _).mono ?_
        rintro e w' ⟨rfl, rfl⟩
        go_wp2_with fail
        refine (HF.out _).mono ?_
        rintro e w' ⟨rfl, rfl⟩
        go_wp2_with fail
        refine (HT.out _).mono ?_
        rintro e w' ⟨rfl, rfl⟩
        go_wp2_with fail
        go_round
        case rel => exact ⟨k + 1, by omega, by omega, by go_num⟩
        case measure => simp [intOf]; omega
      · have hs' : ((g : Int) == (p : Int)) = false := by rw [beq_eq_false_iff_ne]; omega
        go_wp2_with fail
        refine (HT.out _).mono ?_
        rintro e w' ⟨rfl, rfl⟩
        go_wp2_with fail
        refine (HF.out _).mono ?_
        rintro e w' ⟨rfl, rfl⟩
        go_wp2_with fail
        refine (HT.out _).mono ?_
        rintro e w' ⟨rfl, rfl⟩
        go_wp2_with fail
        refine (HT.out _).mono ?_
        rintro e w' ⟨rfl, rfl⟩
        go_wp2_with fail
        refine (HS.out _).mono ?_
        rintro e w' ⟨rfl, rfl⟩
        go_wp2_with fail
        go_round
        case rel => exact ⟨k + 1, by omega, by omega, by go_num⟩
        case measure => simp [intOf]; omega
      · have hs' : ((g : Int) == (p : Int)) = true := by rw [hs]; simp
        have HR2 := Lib.hid (HR.out hd)
        have HX3 := Lib.hid (HX2.out hke)
        clear hs hke HX2 HR
        go_wp2_with fail
        refine (HT.out _).mono ?_
        rintro e w' ⟨rfl, rfl⟩
        go_wp2_with fail
        refine (HF.out _).mono ?_
        rintro e w' ⟨rfl, rfl⟩
        go_wp2_with fail
        refine (HT.out _).mono ?_
        rintro e w' ⟨rfl, rfl⟩
        go_wp2_with fail
        refine (HT.out _).mono ?_
        rintro e w' ⟨rfl, rfl⟩
        go_wp2_with fail
        refine (HS.out _).mono ?_
        rintro e w' ⟨rfl, rfl⟩
        go_wp2_with fail
        refine (HW.out _).mono ?_
        rintro e w1 ⟨rfl, L1⟩
        go_wp2_with fail
        refine (HR2.out _).mono ?_
        rintro e w2 ⟨rfl, L2⟩
        go_wp2_with fail
        go_ret2
        exact ⟨by rw [HX3.out]; rfl, L1.trans L2⟩
  | true =>
    simp only [if_true] at *
    have hn0 := h0 trivial
    have HI := Lib.hid (Fx.len_yes (n := -(n : Int)) (by omega) (by omega))
    have hdn : decide (-(n : Int) < 0) = true := by simp; omega
    go_enter Tryd.func16, Tryd.ntmps16
    go_wp2_with fail
    refine (rlen_any (-(n : Int)) _).mono ?_
    rw [HI.out]
    rintro e w' ⟨rfl, rfl⟩
    go_wp2_with fail
    rw [hrc]
    clear hrc
    go_loop [6, 7] (fun i _ => ∃ k : Nat, 1 ≤ k ∧ k ≤ Dm.count p ∧ i = .int .i64 k) (fun i _ => Dm.count p - (intOf i).toNat)
    case atStart => exact ⟨1, by omega, by omega, rfl⟩
    case round =>
      obtain ⟨k, k1, k2, rfl⟩ := hrel
      have HF := Lib.hid (fun W => rfrac_nearest p k W hr (by omega))
      have HT := Lib.hid (fun W => rten_any k (10 ^ k) W (by omega) rfl)
      obtain ⟨f1, f2⟩ := Dm.fraction_le p k hr (by omega)
      have HS := Lib.hid (fun W => rscaled_nearest (Dm.fraction p k) k (10 ^ k) W (by omega) rfl (by omega))
      have hhit : (k < Dm.count p ∧ ((10 ^ k ≤ Dm.fraction p k) ∨ (Dm.fraction p k < 10 ^ k ∧ Dm.scaled (Dm.fraction p k) k ≠ p))) ∨ (k = Dm.count p ∧ Dm.fraction p k < 10 ^ k ∧ Dm.scaled (Dm.fraction p k) k = p) := by
        by_cases hlt : k < Dm.count p
        · left
          refine ⟨hlt, ?_⟩
          by_cases hd : Dm.fraction p k < 10 ^ k
          · exact .inr ⟨hd, fun hs => HNn.out k k1 hlt ⟨hd, hs⟩⟩
          · exact .inl (by omega)
        · right
          obtain rfl : k = Dm.count p := by omega
          exact ⟨rfl, HH.out.1, HH.out.2⟩
      have HR : Hid (Dm.fraction p k < 10 ^ k → ∀ W, Calls Tryd.prog 35 #[.int .i64 (Dm.fraction p k : Nat), .int .i64 k] W fun e w' => e = .returned (.string ⟨(Dm.pad k (Dm.fraction p k)).toArray⟩) ∧ Lo W w') := Lib.hid (fun hd W => rfract_any (Dm.fraction p k) k W (by omega) hd)
      have hpl := Dm.pad_len k (Dm.fraction p k)
      have HX2 : Hid (k = Dm.count p → tx = [45] ++ dq ++ [46] ++ Dm.pad k (Dm.fraction p k) ++ [112, 116]) := Lib.hid (fun e => by rw [HX.out, ← e])
      generalize Dm.pad k (Dm.fraction p k) = pd at *
      generalize Dm.scaled (Dm.fraction p k) k = g at *
      generalize Dm.fraction p k = d at *
      generalize hp10 : 10 ^ k = t at *
      have Hp10 := Lib.hid hp10
      have hpdl : pd.length ≤ 10 := by omega
      clear hp10 hpl
      have hmb : p * t ≤ 65536 * 100000 := Nat.mul_le_mul (by omega) f2
      have hpt : (p : Int) * (t : Int) = ((p * t : Nat) : Int) := by simp
      generalize p * t = m at *
      have hdm : (d : Int) * 65536 = ((65536 * d : Nat) : Int) := by omega
      have hdb : 65536 * d ≤ 65536 * 100000 := by omega
      generalize 65536 * d = dm at *
      rcases hhit with ⟨hlt, hd | ⟨hd, hs⟩⟩ | ⟨hke, hd, hs⟩
      · go_wp2_with fail
        refine (HT.out _).mono ?_
        rintro e w' ⟨rfl, rfl⟩
        go_wp2_with fail
        refine (HF.out _).mono ?_
        rintro e w' ⟨rfl, rfl⟩
        go_wp2_with fail
        refine (HT.out _).mono ?_
        rintro e w' ⟨rfl, rfl⟩
        go_wp2_with fail
        go_round
        case rel => exact ⟨k + 1, by omega, by omega, by go_num⟩
        case measure => simp [intOf]; omega
      · have hs' : ((g : Int) == (p : Int)) = false := by rw [beq_eq_false_iff_ne]; omega
        go_wp2_with fail
        refine (HT.out _).mono ?_
        rintro e w' ⟨rfl, rfl⟩
        go_wp2_with fail
        refine (HF.out _).mono ?_
        rintro e w' ⟨rfl, rfl⟩
        go_wp2_with fail
        refine (HT.out _).mono ?_
        rintro e w' ⟨rfl, rfl⟩
        go_wp2_with fail
        refine (HT.out _).mono ?_
        rintro e w' ⟨rfl, rfl⟩
        go_wp2_with fail
        refine (HS.out _).mono ?_
        rintro e w' ⟨rfl, rfl⟩
        go_wp2_with fail
        go_round
        case rel => exact ⟨k + 1, by omega, by omega, by go_num⟩
        case measure => simp [intOf]; omega
      · have hs' : ((g : Int) == (p : Int)) = true := by rw [hs]; simp
        have HR2 := Lib.hid (HR.out hd)
        have HX3 := Lib.hid (HX2.out hke)
        clear hs hke HX2 HR
        go_wp2_with fail
        refine (HT.out _).mono ?_
        rintro e w' ⟨rfl, rfl⟩
        go_wp2_with fail
        refine (HF.out _).mono ?_
        rintro e w' ⟨rfl, rfl⟩
        go_wp2_with fail
        refine (HT.out _).mono ?_
        rintro e w' ⟨rfl, rfl⟩
        go_wp2_with fail
        refine (HT.out _).mono ?_
        rintro e w' ⟨rfl, rfl⟩
        go_wp2_with fail
        refine (HS.out _).mono ?_
        rintro e w' ⟨rfl, rfl⟩
        go_wp2_with fail
        refine (HW.out _).mono ?_
        rintro e w1 ⟨rfl, L1⟩
        go_wp2_with fail
        refine (HR2.out _).mono ?_
        rintro e w2 ⟨rfl, L2⟩
        go_wp2_with fail
        go_ret2
        exact ⟨by rw [HX3.out]; rfl, L1.trans L2⟩

theorem rtext_yes (a : Int) (w : World) (h : Fx.len a = true) :
    Calls Tryd.prog 16 #[.int .i64 a] w fun e w' => e = .returned (.tuple #[.string ⟨(Dm.text a).toArray⟩, .int .i64 0]) ∧ Lo w w' := by
  obtain ⟨h1, h2⟩ := (Fx.len_iff a).1 h
  by_cases h0 : 0 ≤ a
  · obtain ⟨n, rfl⟩ := Int.eq_ofNat_of_zero_le h0
    have := rtext_loop n false w (by omega) (fun h => by cases h)
    simpa using this
  · obtain ⟨n, hn⟩ := Int.eq_ofNat_of_zero_le (a := -a) (by omega)
    obtain rfl : a = -(n : Int) := by omega
    have := rtext_loop n true w (by omega) (fun _ => by omega)
    simpa using this
end Go.Proofs.YtlfhnldeidgkjaaDoor
