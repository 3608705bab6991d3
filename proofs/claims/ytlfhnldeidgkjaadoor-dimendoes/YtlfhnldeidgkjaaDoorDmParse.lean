/-
  The contract of dimen.Parse: it answers what the plain function on texts says, for all texts. No conditions.
-/
import Derived.Test.YtlfhnldeidgkjaaDoorDmNumber
namespace Dm
open Go
theorem cut_len (l : List UInt8) : (Lib.cut l [46]).1.length ≤ l.length ∧ (Lib.cut l [46]).2.1.length ≤ l.length := by
  unfold Lib.cut
  by_cases h : 0 ≤ Lib.index l [46]
  · rw [if_pos h]; simp; omega
  · rw [if_neg h]; simp
theorem good_len {l : List UInt8} {m : Nat} (h : good l m = true) : l.length ≤ m := by
  simp [good] at h; omega
theorem good_lt {l : List UInt8} {m : Nat} (h : good l m = true) : numv l < 10 ^ m := by
  simp only [good, Bool.and_eq_true, decide_eq_true_eq] at h
  have h1 := numv_lt l h.2
  have h2 : 10 ^ l.length ≤ 10 ^ m := Nat.pow_le_pow_right (by omega) h.1.2
  omega
theorem scaled_le (n k : Nat) (h : n < 10 ^ k) : scaled n k ≤ 65536 := by
  unfold scaled
  have hp : 0 < 10 ^ k := Nat.pow_pos (by omega)
  generalize 10 ^ k = t at *
  have : (131072 * n + t) / (2 * t) < 65537 := by
    rw [Nat.div_lt_iff_lt_mul (by omega)]
    omega
  omega
end Dm
namespace Go.Proofs.YtlfhnldeidgkjaaDoor
open Go.RowKit

set_option maxHeartbeats 800000 in
/-- No unit. -/
theorem parse1_unit (a : Addr) (l : List UInt8) (w : World) (hc : w.cell? a = some (.string ⟨l.toArray⟩)) (hl : l.length ≤ 9223372036854775807)
    (h : Lib.hasSuffix (Lib.trimPrefix l [45]) [112, 116] = false) :
    Calls Tryd.prog 36 #[.pointer (some a)] w fun e w' => e = .panicked (raise 5) ∧ Lo w w' := by
  have HH := Lib.hid h
  have h1 := Lib.trimPrefix_le l [45]
  clear h
  go_enter Tryd.func36, Tryd.ntmps36
  go_wp2_with fail
  refine (Tryd.strings_CutPrefix ⟨l.toArray⟩ ⟨#[45]⟩ _).mono ?_
  rintro e w' ⟨rfl, rfl⟩
  rw [show (ByteArray.mk l.toArray).data.toList = l from rfl, show (ByteArray.mk #[45]).data.toList = [45] from rfl]
  generalize Lib.hasPrefix l [45] = minus at *
  generalize Lib.trimPrefix l [45] = r at *
  go_wp2_with fail
  refine (Tryd.strings_CutSuffix ⟨r.toArray⟩ ⟨#[112, 116]⟩ _ (by show r.toArray.size ≤ _; simp; omega)).mono ?_
  rintro e w' ⟨rfl, rfl⟩
  rw [show (ByteArray.mk r.toArray).data.toList = r from rfl, show (ByteArray.mk #[112, 116]).data.toList = [112, 116] from rfl, HH.out]
  go_wp2_with fail
  exact ⟨rfl, rfl, Lo.refl _⟩
set_option maxHeartbeats 800000 in
theorem parse1_whole (a : Addr) (l W F : List UInt8) (minus : Bool) (w : World) (pt : Bool)
    (hc : w.cell? a = some (.string ⟨l.toArray⟩)) (hl : l.length ≤ 9223372036854775807) (hu : Lib.hasSuffix (Lib.trimPrefix l [45]) [112, 116] = true) (hm : Lib.hasPrefix l [45] = minus)
    (hk : Lib.cut (Lib.trimSuffix (Lib.trimPrefix l [45]) [112, 116]) [46] = (W, F, pt)) (hg : Dm.good W 5 = false) :
    Calls Tryd.prog 36 #[.pointer (some a)] w fun e w' => e = .panicked (raise 5) ∧ Lo w w' := by
  have hlc := Dm.cut_len (Lib.trimSuffix (Lib.trimPrefix l [45]) [112, 116])
  rw [hk] at hlc
  have hls1 := Lib.trimPrefix_le l [45]
  have hls2 := Lib.trimSuffix_le (Lib.trimPrefix l [45]) [112, 116]
  have hW : W.length ≤ 9223372036854775807 := by have h9 : W.length ≤ _ := hlc.1; omega
  clear hlc hls1 hls2
  have HG := Lib.hid (fun W0 => number_bad W 5 W0 (by omega) hW hg)
  clear hg
  have HU := Lib.hid hu
  have HK := Lib.hid hk
  have HM := Lib.hid hm
  have h1 := Lib.trimPrefix_le l [45]
  have h2 := Lib.trimSuffix_le (Lib.trimPrefix l [45]) [112, 116]
  clear hu hk hm
  go_enter Tryd.func36, Tryd.ntmps36
  go_wp2_with fail
  refine (Tryd.strings_CutPrefix ⟨l.toArray⟩ ⟨#[45]⟩ _).mono ?_
  rintro e w' ⟨rfl, rfl⟩
  rw [show (ByteArray.mk l.toArray).data.toList = l from rfl, show (ByteArray.mk #[45]).data.toList = [45] from rfl, HM.out]
  generalize Lib.trimPrefix l [45] = r at *
  go_wp2_with fail
  refine (Tryd.strings_CutSuffix ⟨r.toArray⟩ ⟨#[112, 116]⟩ _ (by show r.toArray.size ≤ _; simp; omega)).mono ?_
  rintro e w' ⟨rfl, rfl⟩
  rw [show (ByteArray.mk r.toArray).data.toList = r from rfl, show (ByteArray.mk #[112, 116]).data.toList = [112, 116] from rfl, HU.out]
  generalize Lib.trimSuffix r [112, 116] = r2 at *
  go_wp2_with fail
  refine (cut_dot r2 _ (by omega)).mono ?_
  rintro e w1 ⟨rfl, L1⟩
  rw [HK.out]
  go_wp2_with fail
  refine (HG.out _).mono ?_
  rintro e w2 ⟨rfl, L2⟩
  exact ⟨rfl, rfl, L1.trans L2⟩

set_option maxHeartbeats 800000 in
theorem parse1_fract (a : Addr) (l W F : List UInt8) (minus : Bool) (w : World) 
    (hc : w.cell? a = some (.string ⟨l.toArray⟩)) (hl : l.length ≤ 9223372036854775807) (hu : Lib.hasSuffix (Lib.trimPrefix l [45]) [112, 116] = true) (hm : Lib.hasPrefix l [45] = minus)
    (hk : Lib.cut (Lib.trimSuffix (Lib.trimPrefix l [45]) [112, 116]) [46] = (W, F, true)) (hg : Dm.good W 5 = true) (hf : Dm.good F 10 = false) :
    Calls Tryd.prog 36 #[.pointer (some a)] w fun e w' => e = .panicked (raise 5) ∧ Lo w w' := by
  have hlc := Dm.cut_len (Lib.trimSuffix (Lib.trimPrefix l [45]) [112, 116])
  rw [hk] at hlc
  have hls1 := Lib.trimPrefix_le l [45]
  have hls2 := Lib.trimSuffix_le (Lib.trimPrefix l [45]) [112, 116]
  have hF : F.length ≤ 9223372036854775807 := by have h9 : F.length ≤ _ := hlc.2; omega
  clear hlc hls1 hls2
  have HG := Lib.hid (fun W0 => number_good W 5 W0 (by omega) hg)
  have HF := Lib.hid (fun W0 => number_bad F 10 W0 (by omega) hF hf)
  have hv := Dm.good_lt hg
  clear hg hf
  generalize Dm.numv W = v at *
  have HU := Lib.hid hu
  have HK := Lib.hid hk
  have HM := Lib.hid hm
  have h1 := Lib.trimPrefix_le l [45]
  have h2 := Lib.trimSuffix_le (Lib.trimPrefix l [45]) [112, 116]
  clear hu hk hm
  go_enter Tryd.func36, Tryd.ntmps36
  go_wp2_with fail
  refine (Tryd.strings_CutPrefix ⟨l.toArray⟩ ⟨#[45]⟩ _).mono ?_
  rintro e w' ⟨rfl, rfl⟩
  rw [show (ByteArray.mk l.toArray).data.toList = l from rfl, show (ByteArray.mk #[45]).data.toList = [45] from rfl, HM.out]
  generalize Lib.trimPrefix l [45] = r at *
  go_wp2_with fail
  refine (Tryd.strings_CutSuffix ⟨r.toArray⟩ ⟨#[112, 116]⟩ _ (by show r.toArray.size ≤ _; simp; omega)).mono ?_
  rintro e w' ⟨rfl, rfl⟩
  rw [show (ByteArray.mk r.toArray).data.toList = r from rfl, show (ByteArray.mk #[112, 116]).data.toList = [112, 116] from rfl, HU.out]
  generalize Lib.trimSuffix r [112, 116] = r2 at *
  go_wp2_with fail
  refine (cut_dot r2 _ (by omega)).mono ?_
  rintro e w1 ⟨rfl, L1⟩
  rw [HK.out]
  go_wp2_with fail
  refine (HG.out _).mono ?_
  rintro e w2 ⟨rfl, L2⟩
  go_wp2_with fail
  refine (HF.out _).mono ?_
  rintro e w3 ⟨rfl, L3⟩
  exact ⟨rfl, rfl, (L1.trans L2).trans L3⟩

set_option maxHeartbeats 800000 in
theorem parse1_pos_ok_whole (a : Addr) (l W F : List UInt8) (minus : Bool) (w : World) (n : Nat)
    (hc : w.cell? a = some (.string ⟨l.toArray⟩)) (hl : l.length ≤ 9223372036854775807) (hu : Lib.hasSuffix (Lib.trimPrefix l [45]) [112, 116] = true) (hm : Lib.hasPrefix l [45] = minus)
    (hk : Lib.cut (Lib.trimSuffix (Lib.trimPrefix l [45]) [112, 116]) [46] = (W, F, false)) (hmi : minus = false) (hg : Dm.good W 5 = true) (hnv : n = Dm.numv W * 65536) (hn : n ≤ 1073741823) :
    Calls Tryd.prog 36 #[.pointer (some a)] w fun e w' => e = .returned (.int .i64 ((n : Int))) ∧ Lo w w' := by
  have HG := Lib.hid (fun W0 => number_good W 5 W0 (by omega) hg)
  have hv := Dm.good_lt hg
  clear hg
  generalize Dm.numv W = v at *
  subst hnv
  subst hmi
  have HU := Lib.hid hu
  have HK := Lib.hid hk
  have HM := Lib.hid hm
  have h1 := Lib.trimPrefix_le l [45]
  have h2 := Lib.trimSuffix_le (Lib.trimPrefix l [45]) [112, 116]
  clear hu hk hm
  go_enter Tryd.func36, Tryd.ntmps36
  go_wp2_with fail
  refine (Tryd.strings_CutPrefix ⟨l.toArray⟩ ⟨#[45]⟩ _).mono ?_
  rintro e w' ⟨rfl, rfl⟩
  rw [show (ByteArray.mk l.toArray).data.toList = l from rfl, show (ByteArray.mk #[45]).data.toList = [45] from rfl, HM.out]
  generalize Lib.trimPrefix l [45] = r at *
  go_wp2_with fail
  refine (Tryd.strings_CutSuffix ⟨r.toArray⟩ ⟨#[112, 116]⟩ _ (by show r.toArray.size ≤ _; simp; omega)).mono ?_
  rintro e w' ⟨rfl, rfl⟩
  rw [show (ByteArray.mk r.toArray).data.toList = r from rfl, show (ByteArray.mk #[112, 116]).data.toList = [112, 116] from rfl, HU.out]
  generalize Lib.trimSuffix r [112, 116] = r2 at *
  go_wp2_with fail
  refine (cut_dot r2 _ (by omega)).mono ?_
  rintro e w1 ⟨rfl, L1⟩
  rw [HK.out]
  go_wp2_with fail
  refine (HG.out _).mono ?_
  rintro e w2 ⟨rfl, L2⟩
  go_wp2_with fail
  refine (within_yes _ _ (by omega) (by omega)).mono ?_
  rintro e w4 ⟨rfl, rfl⟩
  go_wp2_with fail
  go_ret
  exact ⟨rfl, L1.trans L2⟩

set_option maxHeartbeats 800000 in
theorem parse1_pos_ok_both (a : Addr) (l W F : List UInt8) (minus : Bool) (w : World) (n : Nat)
    (hc : w.cell? a = some (.string ⟨l.toArray⟩)) (hl : l.length ≤ 9223372036854775807) (hu : Lib.hasSuffix (Lib.trimPrefix l [45]) [112, 116] = true) (hm : Lib.hasPrefix l [45] = minus)
    (hk : Lib.cut (Lib.trimSuffix (Lib.trimPrefix l [45]) [112, 116]) [46] = (W, F, true)) (hmi : minus = false) (hg : Dm.good W 5 = true) (hf : Dm.good F 10 = true) (hnv : n = Dm.numv W * 65536 + Dm.scaled (Dm.numv F) F.length) (hn : n ≤ 1073741823) :
    Calls Tryd.prog 36 #[.pointer (some a)] w fun e w' => e = .returned (.int .i64 ((n : Int))) ∧ Lo w w' := by
  have HG := Lib.hid (fun W0 => number_good W 5 W0 (by omega) hg)
  have HF := Lib.hid (fun W0 => number_good F 10 W0 (by omega) hf)
  have hv := Dm.good_lt hg
  have hv2 := Dm.good_lt hf
  have hfl := Dm.good_len hf
  have hsc := Dm.scaled_le (Dm.numv F) F.length (Dm.numv_lt F (by simp only [Dm.good, Bool.and_eq_true] at hf; exact hf.2))
  have HS := Lib.hid (fun W0 => scaled_any (Dm.numv F) F.length W0 hfl (by omega))
  clear hg hf
  generalize Dm.scaled (Dm.numv F) F.length = g at *
  generalize Dm.numv F = f at *
  generalize Dm.numv W = v at *
  subst hnv
  subst hmi
  have HU := Lib.hid hu
  have HK := Lib.hid hk
  have HM := Lib.hid hm
  have h1 := Lib.trimPrefix_le l [45]
  have h2 := Lib.trimSuffix_le (Lib.trimPrefix l [45]) [112, 116]
  clear hu hk hm
  go_enter Tryd.func36, Tryd.ntmps36
  go_wp2_with fail
  refine (Tryd.strings_CutPrefix ⟨l.toArray⟩ ⟨#[45]⟩ _).mono ?_
  rintro e w' ⟨rfl, rfl⟩
  rw [show (ByteArray.mk l.toArray).data.toList = l from rfl, show (ByteArray.mk #[45]).data.toList = [45] from rfl, HM.out]
  generalize Lib.trimPrefix l [45] = r at *
  go_wp2_with fail
  refine (Tryd.strings_CutSuffix ⟨r.toArray⟩ ⟨#[112, 116]⟩ _ (by show r.toArray.size ≤ _; simp; omega)).mono ?_
  rintro e w' ⟨rfl, rfl⟩
  rw [show (ByteArray.mk r.toArray).data.toList = r from rfl, show (ByteArray.mk #[112, 116]).data.toList = [112, 116] from rfl, HU.out]
  generalize Lib.trimSuffix r [112, 116] = r2 at *
  go_wp2_with fail
  refine (cut_dot r2 _ (by omega)).mono ?_
  rintro e w1 ⟨rfl, L1⟩
  rw [HK.out]
  go_wp2_with fail
  refine (HG.out _).mono ?_
  rintro e w2 ⟨rfl, L2⟩
  go_wp2_with fail
  refine (HF.out _).mono ?_
  rintro e w3 ⟨rfl, L3⟩
  go_wp2_with fail
  refine (HS.out _).mono ?_
  rintro e w5 ⟨rfl, rfl⟩
  go_wp2_with fail
  refine (within_yes _ _ (by omega) (by omega)).mono ?_
  rintro e w4 ⟨rfl, rfl⟩
  go_wp2_with fail
  go_ret
  exact ⟨rfl, (L1.trans L2).trans L3⟩

set_option maxHeartbeats 800000 in
theorem parse1_pos_over_whole (a : Addr) (l W F : List UInt8) (minus : Bool) (w : World) (n : Nat)
    (hc : w.cell? a = some (.string ⟨l.toArray⟩)) (hl : l.length ≤ 9223372036854775807) (hu : Lib.hasSuffix (Lib.trimPrefix l [45]) [112, 116] = true) (hm : Lib.hasPrefix l [45] = minus)
    (hk : Lib.cut (Lib.trimSuffix (Lib.trimPrefix l [45]) [112, 116]) [46] = (W, F, false)) (hmi : minus = false) (hg : Dm.good W 5 = true) (hnv : n = Dm.numv W * 65536) (hn : 1073741823 < n) :
    Calls Tryd.prog 36 #[.pointer (some a)] w fun e w' => e = .panicked (raise 2) ∧ Lo w w' := by
  have HG := Lib.hid (fun W0 => number_good W 5 W0 (by omega) hg)
  have hv := Dm.good_lt hg
  clear hg
  generalize Dm.numv W = v at *
  subst hnv
  subst hmi
  have HU := Lib.hid hu
  have HK := Lib.hid hk
  have HM := Lib.hid hm
  have h1 := Lib.trimPrefix_le l [45]
  have h2 := Lib.trimSuffix_le (Lib.trimPrefix l [45]) [112, 116]
  clear hu hk hm
  go_enter Tryd.func36, Tryd.ntmps36
  go_wp2_with fail
  refine (Tryd.strings_CutPrefix ⟨l.toArray⟩ ⟨#[45]⟩ _).mono ?_
  rintro e w' ⟨rfl, rfl⟩
  rw [show (ByteArray.mk l.toArray).data.toList = l from rfl, show (ByteArray.mk #[45]).data.toList = [45] from rfl, HM.out]
  generalize Lib.trimPrefix l [45] = r at *
  go_wp2_with fail
  refine (Tryd.strings_CutSuffix ⟨r.toArray⟩ ⟨#[112, 116]⟩ _ (by show r.toArray.size ≤ _; simp; omega)).mono ?_
  rintro e w' ⟨rfl, rfl⟩
  rw [show (ByteArray.mk r.toArray).data.toList = r from rfl, show (ByteArray.mk #[112, 116]).data.toList = [112, 116] from rfl, HU.out]
  generalize Lib.trimSuffix r [112, 116] = r2 at *
  go_wp2_with fail
  refine (cut_dot r2 _ (by omega)).mono ?_
  rintro e w1 ⟨rfl, L1⟩
  rw [HK.out]
  go_wp2_with fail
  refine (HG.out _).mono ?_
  rintro e w2 ⟨rfl, L2⟩
  go_wp2_with fail
  refine (within_no _ _ (by omega)).mono ?_
  rintro e w4 ⟨rfl, rfl⟩
  exact ⟨rfl, rfl, L1.trans L2⟩

set_option maxHeartbeats 800000 in
theorem parse1_pos_over_both (a : Addr) (l W F : List UInt8) (minus : Bool) (w : World) (n : Nat)
    (hc : w.cell? a = some (.string ⟨l.toArray⟩)) (hl : l.length ≤ 9223372036854775807) (hu : Lib.hasSuffix (Lib.trimPrefix l [45]) [112, 116] = true) (hm : Lib.hasPrefix l [45] = minus)
    (hk : Lib.cut (Lib.trimSuffix (Lib.trimPrefix l [45]) [112, 116]) [46] = (W, F, true)) (hmi : minus = false) (hg : Dm.good W 5 = true) (hf : Dm.good F 10 = true) (hnv : n = Dm.numv W * 65536 + Dm.scaled (Dm.numv F) F.length) (hn : 1073741823 < n) :
    Calls Tryd.prog 36 #[.pointer (some a)] w fun e w' => e = .panicked (raise 2) ∧ Lo w w' := by
  have HG := Lib.hid (fun W0 => number_good W 5 W0 (by omega) hg)
  have HF := Lib.hid (fun W0 => number_good F 10 W0 (by omega) hf)
  have hv := Dm.good_lt hg
  have hv2 := Dm.good_lt hf
  have hfl := Dm.good_len hf
  have hsc := Dm.scaled_le (Dm.numv F) F.length (Dm.numv_lt F (by simp only [Dm.good, Bool.and_eq_true] at hf; exact hf.2))
  have HS := Lib.hid (fun W0 => scaled_any (Dm.numv F) F.length W0 hfl (by omega))
  clear hg hf
  generalize Dm.scaled (Dm.numv F) F.length = g at *
  generalize Dm.numv F = f at *
  generalize Dm.numv W = v at *
  subst hnv
  subst hmi
  have HU := Lib.hid hu
  have HK := Lib.hid hk
  have HM := Lib.hid hm
  have h1 := Lib.trimPrefix_le l [45]
  have h2 := Lib.trimSuffix_le (Lib.trimPrefix l [45]) [112, 116]
  clear hu hk hm
  go_enter Tryd.func36, Tryd.ntmps36
  go_wp2_with fail
  refine (Tryd.strings_CutPrefix ⟨l.toArray⟩ ⟨#[45]⟩ _).mono ?_
  rintro e w' ⟨rfl, rfl⟩
  rw [show (ByteArray.mk l.toArray).data.toList = l from rfl, show (ByteArray.mk #[45]).data.toList = [45] from rfl, HM.out]
  generalize Lib.trimPrefix l [45] = r at *
  go_wp2_with fail
  refine (Tryd.strings_CutSuffix ⟨r.toArray⟩ ⟨#[112, 116]⟩ _ (by show r.toArray.size ≤ _; simp; omega)).mono ?_
  rintro e w' ⟨rfl, rfl⟩
  rw [show (ByteArray.mk r.toArray).data.toList = r from rfl, show (ByteArray.mk #[112, 116]).data.toList = [112, 116] from rfl, HU.out]
  generalize Lib.trimSuffix r [112, 116] = r2 at *
  go_wp2_with fail
  refine (cut_dot r2 _ (by omega)).mono ?_
  rintro e w1 ⟨rfl, L1⟩
  rw [HK.out]
  go_wp2_with fail
  refine (HG.out _).mono ?_
  rintro e w2 ⟨rfl, L2⟩
  go_wp2_with fail
  refine (HF.out _).mono ?_
  rintro e w3 ⟨rfl, L3⟩
  go_wp2_with fail
  refine (HS.out _).mono ?_
  rintro e w5 ⟨rfl, rfl⟩
  go_wp2_with fail
  refine (within_no _ _ (by omega)).mono ?_
  rintro e w4 ⟨rfl, rfl⟩
  exact ⟨rfl, rfl, (L1.trans L2).trans L3⟩

set_option maxHeartbeats 800000 in
theorem parse1_neg_ok_whole (a : Addr) (l W F : List UInt8) (minus : Bool) (w : World) (n : Nat)
    (hc : w.cell? a = some (.string ⟨l.toArray⟩)) (hl : l.length ≤ 9223372036854775807) (hu : Lib.hasSuffix (Lib.trimPrefix l [45]) [112, 116] = true) (hm : Lib.hasPrefix l [45] = minus)
    (hk : Lib.cut (Lib.trimSuffix (Lib.trimPrefix l [45]) [112, 116]) [46] = (W, F, false)) (hmi : minus = true) (hg : Dm.good W 5 = true) (hnv : n = Dm.numv W * 65536) (hn : n ≤ 1073741823) :
    Calls Tryd.prog 36 #[.pointer (some a)] w fun e w' => e = .returned (.int .i64 (-(n : Int))) ∧ Lo w w' := by
  have HG := Lib.hid (fun W0 => number_good W 5 W0 (by omega) hg)
  have hv := Dm.good_lt hg
  clear hg
  generalize Dm.numv W = v at *
  subst hnv
  subst hmi
  have HU := Lib.hid hu
  have HK := Lib.hid hk
  have HM := Lib.hid hm
  have h1 := Lib.trimPrefix_le l [45]
  have h2 := Lib.trimSuffix_le (Lib.trimPrefix l [45]) [112, 116]
  clear hu hk hm
  go_enter Tryd.func36, Tryd.ntmps36
  go_wp2_with fail
  refine (Tryd.strings_CutPrefix ⟨l.toArray⟩ ⟨#[45]⟩ _).mono ?_
  rintro e w' ⟨rfl, rfl⟩
  rw [show (ByteArray.mk l.toArray).data.toList = l from rfl, show (ByteArray.mk #[45]).data.toList = [45] from rfl, HM.out]
  generalize Lib.trimPrefix l [45] = r at *
  go_wp2_with fail
  refine (Tryd.strings_CutSuffix ⟨r.toArray⟩ ⟨#[112, 116]⟩ _ (by show r.toArray.size ≤ _; simp; omega)).mono ?_
  rintro e w' ⟨rfl, rfl⟩
  rw [show (ByteArray.mk r.toArray).data.toList = r from rfl, show (ByteArray.mk #[112, 116]).data.toList = [112, 116] from rfl, HU.out]
  generalize Lib.trimSuffix r [112, 116] = r2 at *
  go_wp2_with fail
  refine (cut_dot r2 _ (by omega)).mono ?_
  rintro e w1 ⟨rfl, L1⟩
  rw [HK.out]
  go_wp2_with fail
  refine (HG.out _).mono ?_
  rintro e w2 ⟨rfl, L2⟩
  go_wp2_with fail
  refine (within_yes _ _ (by omega) (by omega)).mono ?_
  rintro e w4 ⟨rfl, rfl⟩
  go_wp2_with fail
  go_ret
  exact ⟨rfl, L1.trans L2⟩

set_option maxHeartbeats 800000 in
theorem parse1_neg_ok_both (a : Addr) (l W F : List UInt8) (minus : Bool) (w : World) (n : Nat)
    (hc : w.cell? a = some (.string ⟨l.toArray⟩)) (hl : l.length ≤ 9223372036854775807) (hu : Lib.hasSuffix (Lib.trimPrefix l [45]) [112, 116] = true) (hm : Lib.hasPrefix l [45] = minus)
    (hk : Lib.cut (Lib.trimSuffix (Lib.trimPrefix l [45]) [112, 116]) [46] = (W, F, true)) (hmi : minus = true) (hg : Dm.good W 5 = true) (hf : Dm.good F 10 = true) (hnv : n = Dm.numv W * 65536 + Dm.scaled (Dm.numv F) F.length) (hn : n ≤ 1073741823) :
    Calls Tryd.prog 36 #[.pointer (some a)] w fun e w' => e = .returned (.int .i64 (-(n : Int))) ∧ Lo w w' := by
  have HG := Lib.hid (fun W0 => number_good W 5 W0 (by omega) hg)
  have HF := Lib.hid (fun W0 => number_good F 10 W0 (by omega) hf)
  have hv := Dm.good_lt hg
  have hv2 := Dm.good_lt hf
  have hfl := Dm.good_len hf
  have hsc := Dm.scaled_le (Dm.numv F) F.length (Dm.numv_lt F (by simp only [Dm.good, Bool.and_eq_true] at hf; exact hf.2))
  have HS := Lib.hid (fun W0 => scaled_any (Dm.numv F) F.length W0 hfl (by omega))
  clear hg hf
  generalize Dm.scaled (Dm.numv F) F.length = g at *
  generalize Dm.numv F = f at *
  generalize Dm.numv W = v at *
  subst hnv
  subst hmi
  have HU := Lib.hid hu
  have HK := Lib.hid hk
  have HM := Lib.hid hm
  have h1 := Lib.trimPrefix_le l [45]
  have h2 := Lib.trimSuffix_le (Lib.trimPrefix l [45]) [112, 116]
  clear hu hk hm
  go_enter Tryd.func36, Tryd.ntmps36
  go_wp2_with fail
  refine (Tryd.strings_CutPrefix ⟨l.toArray⟩ ⟨#[45]⟩ _).mono ?_
  rintro e w' ⟨rfl, rfl⟩
  rw [show (ByteArray.mk l.toArray).data.toList = l from rfl, show (ByteArray.mk #[45]).data.toList = [45] from rfl, HM.out]
  generalize Lib.trimPrefix l [45] = r at *
  go_wp2_with fail
  refine (Tryd.strings_CutSuffix ⟨r.toArray⟩ ⟨#[112, 116]⟩ _ (by show r.toArray.size ≤ _; simp; omega)).mono ?_
  rintro e w' ⟨rfl, rfl⟩
  rw [show (ByteArray.mk r.toArray).data.toList = r from rfl, show (ByteArray.mk #[112, 116]).data.toList = [112, 116] from rfl, HU.out]
  generalize Lib.trimSuffix r [112, 116] = r2 at *
  go_wp2_with fail
  refine (cut_dot r2 _ (by omega)).mono ?_
  rintro e w1 ⟨rfl, L1⟩
  rw [HK.out]
  go_wp2_with fail
  refine (HG.out _).mono ?_
  rintro e w2 ⟨rfl, L2⟩
  go_wp2_with fail
  refine (HF.out _).mono ?_
  rintro e w3 ⟨rfl, L3⟩
  go_wp2_with fail
  refine (HS.out _).mono ?_
  rintro e w5 ⟨rfl, rfl⟩
  go_wp2_with fail
  refine (within_yes _ _ (by omega) (by omega)).mono ?_
  rintro e w4 ⟨rfl, rfl⟩
  go_wp2_with fail
  go_ret
  exact ⟨rfl, (L1.trans L2).trans L3⟩

set_option maxHeartbeats 800000 in
theorem parse1_neg_over_whole (a : Addr) (l W F : List UInt8) (minus : Bool) (w : World) (n : Nat)
    (hc : w.cell? a = some (.string ⟨l.toArray⟩)) (hl : l.length ≤ 9223372036854775807) (hu : Lib.hasSuffix (Lib.trimPrefix l [45]) [112, 116] = true) (hm : Lib.hasPrefix l [45] = minus)
    (hk : Lib.cut (Lib.trimSuffix (Lib.trimPrefix l [45]) [112, 116]) [46] = (W, F, false)) (hmi : minus = true) (hg : Dm.good W 5 = true) (hnv : n = Dm.numv W * 65536) (hn : 1073741823 < n) :
    Calls Tryd.prog 36 #[.pointer (some a)] w fun e w' => e = .panicked (raise 2) ∧ Lo w w' := by
  have HG := Lib.hid (fun W0 => number_good W 5 W0 (by omega) hg)
  have hv := Dm.good_lt hg
  clear hg
  generalize Dm.numv W = v at *
  subst hnv
  subst hmi
  have HU := Lib.hid hu
  have HK := Lib.hid hk
  have HM := Lib.hid hm
  have h1 := Lib.trimPrefix_le l [45]
  have h2 := Lib.trimSuffix_le (Lib.trimPrefix l [45]) [112, 116]
  clear hu hk hm
  go_enter Tryd.func36, Tryd.ntmps36
  go_wp2_with fail
  refine (Tryd.strings_CutPrefix ⟨l.toArray⟩ ⟨#[45]⟩ _).mono ?_
  rintro e w' ⟨rfl, rfl⟩
  rw [show (ByteArray.mk l.toArray).data.toList = l from rfl, show (ByteArray.mk #[45]).data.toList = [45] from rfl, HM.out]
  generalize Lib.trimPrefix l [45] = r at *
  go_wp2_with fail
  refine (Tryd.strings_CutSuffix ⟨r.toArray⟩ ⟨#[112, 116]⟩ _ (by show r.toArray.size ≤ _; simp; omega)).mono ?_
  rintro e w' ⟨rfl, rfl⟩
  rw [show (ByteArray.mk r.toArray).data.toList = r from rfl, show (ByteArray.mk #[112, 116]).data.toList = [112, 116] from rfl, HU.out]
  generalize Lib.trimSuffix r [112, 116] = r2 at *
  go_wp2_with fail
  refine (cut_dot r2 _ (by omega)).mono ?_
  rintro e w1 ⟨rfl, L1⟩
  rw [HK.out]
  go_wp2_with fail
  refine (HG.out _).mono ?_
  rintro e w2 ⟨rfl, L2⟩
  go_wp2_with fail
  refine (within_no _ _ (by omega)).mono ?_
  rintro e w4 ⟨rfl, rfl⟩
  exact ⟨rfl, rfl, L1.trans L2⟩

set_option maxHeartbeats 800000 in
theorem parse1_neg_over_both (a : Addr) (l W F : List UInt8) (minus : Bool) (w : World) (n : Nat)
    (hc : w.cell? a = some (.string ⟨l.toArray⟩)) (hl : l.length ≤ 9223372036854775807) (hu : Lib.hasSuffix (Lib.trimPrefix l [45]) [112, 116] = true) (hm : Lib.hasPrefix l [45] = minus)
    (hk : Lib.cut (Lib.trimSuffix (Lib.trimPrefix l [45]) [112, 116]) [46] = (W, F, true)) (hmi : minus = true) (hg : Dm.good W 5 = true) (hf : Dm.good F 10 = true) (hnv : n = Dm.numv W * 65536 + Dm.scaled (Dm.numv F) F.length) (hn : 1073741823 < n) :
    Calls Tryd.prog 36 #[.pointer (some a)] w fun e w' => e = .panicked (raise 2) ∧ Lo w w' := by
  have HG := Lib.hid (fun W0 => number_good W 5 W0 (by omega) hg)
  have HF := Lib.hid (fun W0 => number_good F 10 W0 (by omega) hf)
  have hv := Dm.good_lt hg
  have hv2 := Dm.good_lt hf
  have hfl := Dm.good_len hf
  have hsc := Dm.scaled_le (Dm.numv F) F.length (Dm.numv_lt F (by simp only [Dm.good, Bool.and_eq_true] at hf; exact hf.2))
  have HS := Lib.hid (fun W0 => scaled_any (Dm.numv F) F.length W0 hfl (by omega))
  clear hg hf
  generalize Dm.scaled (Dm.numv F) F.length = g at *
  generalize Dm.numv F = f at *
  generalize Dm.numv W = v at *
  subst hnv
  subst hmi
  have HU := Lib.hid hu
  have HK := Lib.hid hk
  have HM := Lib.hid hm
  have h1 := Lib.trimPrefix_le l [45]
  have h2 := Lib.trimSuffix_le (Lib.trimPrefix l [45]) [112, 116]
  clear hu hk hm
  go_enter Tryd.func36, Tryd.ntmps36
  go_wp2_with fail
  refine (Tryd.strings_CutPrefix ⟨l.toArray⟩ ⟨#[45]⟩ _).mono ?_
  rintro e w' ⟨rfl, rfl⟩
  rw [show (ByteArray.mk l.toArray).data.toList = l from rfl, show (ByteArray.mk #[45]).data.toList = [45] from rfl, HM.out]
  generalize Lib.trimPrefix l [45] = r at *
  go_wp2_with fail
  refine (Tryd.strings_CutSuffix ⟨r.toArray⟩ ⟨#[112, 116]⟩ _ (by show r.toArray.size ≤ _; simp; omega)).mono ?_
  rintro e w' ⟨rfl, rfl⟩
  rw [show (ByteArray.mk r.toArray).data.toList = r from rfl, show (ByteArray.mk #[112, 116]).data.toList = [112, 116] from rfl, HU.out]
  generalize Lib.trimSuffix r [112, 116] = r2 at *
  go_wp2_with fail
  refine (cut_dot r2 _ (by omega)).mono ?_
  rintro e w1 ⟨rfl, L1⟩
  rw [HK.out]
  go_wp2_with fail
  refine (HG.out _).mono ?_
  rintro e w2 ⟨rfl, L2⟩
  go_wp2_with fail
  refine (HF.out _).mono ?_
  rintro e w3 ⟨rfl, L3⟩
  go_wp2_with fail
  refine (HS.out _).mono ?_
  rintro e w5 ⟨rfl, rfl⟩
  go_wp2_with fail
  refine (within_no _ _ (by omega)).mono ?_
  rintro e w4 ⟨rfl, rfl⟩
  exact ⟨rfl, rfl, (L1.trans L2).trans L3⟩


theorem parse1_split (a : Addr) (l : List UInt8) (w : World) (hc : w.cell? a = some (.string ⟨l.toArray⟩)) (hl : l.length ≤ 9223372036854775807) :
    (Dm.parse l).2 = 0 ∧ (Calls Tryd.prog 36 #[.pointer (some a)] w fun e w' => e = .returned (.int .i64 (Dm.parse l).1) ∧ Lo w w') ∨
    (Dm.parse l).1 = 0 ∧ (Calls Tryd.prog 36 #[.pointer (some a)] w fun e w' => e = .panicked (raise (Dm.parse l).2) ∧ Lo w w') := by
  unfold Dm.parse
  by_cases hu : Lib.hasSuffix (Lib.trimPrefix l [45]) [112, 116] = false
  · rw [if_pos hu]
    exact .inr ⟨rfl, parse1_unit a l w hc hl hu⟩
  · rw [if_neg hu]
    have hu' : Lib.hasSuffix (Lib.trimPrefix l [45]) [112, 116] = true := by simpa using hu
    obtain ⟨W, F, pt, hk⟩ : ∃ W F pt, Lib.cut (Lib.trimSuffix (Lib.trimPrefix l [45]) [112, 116]) [46] = (W, F, pt) := ⟨_, _, _, rfl⟩
    rw [hk]
    show (Dm.parts (Lib.hasPrefix l [45]) W pt F).2 = 0 ∧ _ ∨ (Dm.parts (Lib.hasPrefix l [45]) W pt F).1 = 0 ∧ _
    unfold Dm.parts
    by_cases hg : Dm.good W 5 = false
    · rw [if_pos hg]
      exact .inr ⟨rfl, parse1_whole a l W F _ w pt hc hl hu' rfl hk hg⟩
    · rw [if_neg hg]
      have hg' : Dm.good W 5 = true := by simpa using hg
      cases pt with
      | true =>
        by_cases hf : Dm.good F 10 = false
        · rw [if_pos ⟨rfl, hf⟩]
          exact .inr ⟨rfl, parse1_fract a l W F _ w hc hl hu' rfl hk hg' hf⟩
        · rw [if_neg (fun h => hf h.2)]
          have hf' : Dm.good F 10 = true := by simpa using hf
          simp only [if_true]
          generalize hn : Dm.numv W * 65536 + Dm.scaled (Dm.numv F) F.length = n
          unfold Dm.within
          cases hm : Lib.hasPrefix l [45] with
          | true =>
            simp only [if_true]
            by_cases hn2 : n ≤ 1073741823
            · rw [if_pos (by omega)]
              exact .inl ⟨rfl, parse1_neg_ok_both a l W F true w n hc hl hu' hm hk rfl hg' hf' hn.symm hn2⟩
            · rw [if_neg (by omega)]
              exact .inr ⟨rfl, parse1_neg_over_both a l W F true w n hc hl hu' hm hk rfl hg' hf' hn.symm (by omega)⟩
          | false =>
            simp only [Bool.false_eq_true, if_false]
            by_cases hn2 : n ≤ 1073741823
            · rw [if_pos (by omega)]
              exact .inl ⟨rfl, parse1_pos_ok_both a l W F false w n hc hl hu' hm hk rfl hg' hf' hn.symm hn2⟩
            · rw [if_neg (by omega)]
              exact .inr ⟨rfl, parse1_pos_over_both a l W F false w n hc hl hu' hm hk rfl hg' hf' hn.symm (by omega)⟩
      | false =>
        rw [if_neg (fun h => by cases h.1)]
        simp only [Bool.false_eq_true, if_false, Nat.add_zero]
        generalize hn : Dm.numv W * 65536 = n
        unfold Dm.within
        cases hm : Lib.hasPrefix l [45] with
        | true =>
          simp only [if_true]
          by_cases hn2 : n ≤ 1073741823
          · rw [if_pos (by omega)]
            exact .inl ⟨rfl, parse1_neg_ok_whole a l W F true w n hc hl hu' hm hk rfl hg' hn.symm hn2⟩
          · rw [if_neg (by omega)]
            exact .inr ⟨rfl, parse1_neg_over_whole a l W F true w n hc hl hu' hm hk rfl hg' hn.symm (by omega)⟩
        | false =>
          simp only [Bool.false_eq_true, if_false]
          by_cases hn2 : n ≤ 1073741823
          · rw [if_pos (by omega)]
            exact .inl ⟨rfl, parse1_pos_ok_whole a l W F false w n hc hl hu' hm hk rfl hg' hn.symm hn2⟩
          · rw [if_neg (by omega)]
            exact .inr ⟨rfl, parse1_pos_over_whole a l W F false w n hc hl hu' hm hk rfl hg' hn.symm (by omega)⟩

set_option maxHeartbeats 400000 in
theorem parse_any (l : List UInt8) (w : World) (hl : l.length ≤ 9223372036854775807) :
    Calls Tryd.prog 17 #[.string ⟨l.toArray⟩] w fun e w' => e = .returned (.tuple #[.int .i64 (Dm.parse l).1, .int .i64 (Dm.parse l).2]) ∧ Lo w w' := by
  have hmf : ∀ (fn : Fn) (first cap : Array Value) (w : World), (Instr.makeFunc fn first cap).run Tryd.prog w = .ok (.func fn first cap) w := fun _ _ _ _ => rfl
  have HC := Lib.hid (caught_any 36 #[.pointer (some ⟨w.heap.size, 0, none⟩)] (Dm.parse l) (w.alloc (.cells #[.string ⟨l.toArray⟩] 9)) (fun W => by simp [go_sem])
    (parse1_split ⟨w.heap.size, 0, none⟩ l _ (by rw [(boxed_lo _).cell (by simp)]; simp [go_sem]) hl))
  generalize Dm.parse l = y at *
  go_enter Tryd.func17, Tryd.ntmps17
  go_wp2_with fail
  refine HC.out.mono ?_
  rintro e w1 ⟨rfl, hlo⟩
  clear HC
  go_wp2_with fail
  go_ret2
  exact ⟨rfl, ((Lo.refl w).alloc _).trans hlo⟩
end Go.Proofs.YtlfhnldeidgkjaaDoor
