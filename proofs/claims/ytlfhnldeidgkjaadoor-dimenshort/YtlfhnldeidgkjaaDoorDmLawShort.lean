/-
  The walk of the law DimenShort: it returns true for every int. No conditions but that the package variable of powers of ten reads as it is laid.
-/
import Derived.Test.YtlfhnldeidgkjaaDoorDmLawBack
namespace Dm
open Go
/-- A fraction of so few digits that is read as p is the nearest one. -/
theorem scaled_only (j m p : Nat) (h1 : 1 ≤ j) (h4 : j ≤ 4) (h : scaled m j = p) : m = fraction p j := by
  unfold scaled at h
  unfold fraction
  obtain rfl | rfl | rfl | rfl : j = 1 ∨ j = 2 ∨ j = 3 ∨ j = 4 := by omega
  all_goals
    simp only [Nat.reducePow] at *
    omega
theorem short_ne (p m : Nat) (h : 2 ≤ count p) : scaled m (count p - 1) ≠ p := by
  intro hs
  have hb := count_bd p
  have := scaled_only (count p - 1) m p (by omega) (by omega) hs
  rw [this] at hs
  exact count_least p (count p - 1) (by omega) (by omega) hs
theorem short_le (p : Nat) (h : 2 ≤ count p) : scaled (fraction p (count p) / 10) (count p - 1) ≤ p := by
  have hb := count_bd p
  have hok := ok_count p
  generalize fraction p (count p) = d at *
  generalize count p = k at *
  unfold scaled at *
  obtain rfl | rfl | rfl | rfl : k = 2 ∨ k = 3 ∨ k = 4 ∨ k = 5 := by omega
  all_goals
    simp only [Nat.reducePow, Nat.reduceSub] at *
    omega
end Dm
namespace Go.Proofs.YtlfhnldeidgkjaaDoor
open Go.RowKit

set_option maxHeartbeats 800000 in
theorem dimenShort_no (a : Int) (w : World) (ht : Tab w) (h : Fx.len a = false) :
    Calls Tryd.prog 5 #[.int .i64 a] w fun e w' => e = .returned (.bool true) ∧ Lo w w' := by
  have HT := Lib.hid ht
  have HX := Lib.hid (fun W => text_no a W h)
  clear ht h
  go_enter Tryd.func5, Tryd.ntmps5
  go_wp2_with fail
  refine (HX.out _).mono ?_
  rintro e w1 ⟨rfl, L1⟩
  go_wp2_with fail
  refine (told_any _ (HT.out.lo L1)).mono ?_
  rintro e w2 ⟨rfl, L2⟩
  go_wp2_with fail
  go_ret
  exact ⟨rfl, L1.trans L2⟩

theorem ba_get (l : List UInt8) (k : Nat) (h : k < (ByteArray.mk l.toArray).size) : (ByteArray.mk l.toArray)[k] = l.getD k 0 := by
  have h' : k < l.length := h
  show l.toArray[k] = _
  simp [List.getD, List.getElem?_eq_getElem h']
theorem ne46 (l : List UInt8) (k : Nat) (h : k < (ByteArray.mk l.toArray).size) (hne : l.getD k 0 ≠ 46) : (((ByteArray.mk l.toArray)[k].toNat : Int) != 46) = true := by
  rw [ba_get]
  rw [bne_iff_ne]
  intro he
  apply hne
  apply UInt8.toNat_inj.1
  show (l.getD k 0).toNat = 46
  omega
theorem eq46 (l : List UInt8) (k : Nat) (h : k < (ByteArray.mk l.toArray).size) (he : l.getD k 0 = 46) : (((ByteArray.mk l.toArray)[k].toNat : Int) != 46) = false := by
  rw [ba_get, he]; rfl

set_option maxHeartbeats 800000 in
theorem dimenShort_one (a : Int) (l : List UInt8) (n : Nat) (w : World) (ht : Tab w) (h : Fx.len a = true) (hl : Dm.text a = l) (hlen : l.length = n + 4) (hn : n ≤ 50) (hd : l.getD n 0 = 46) (hb : ∀ j, j < n → l.getD j 0 ≠ 46) :
    Calls Tryd.prog 5 #[.int .i64 a] w fun e w' => e = .returned (.bool true) ∧ Lo w w' := by
  have HT := Lib.hid ht
  have HX := Lib.hid (fun W hW => text_yes a W h hW)
  rw [hl] at HX
  have HB := Lib.hid hb
  have HD := Lib.hid hd
  have HN := Lib.hid hlen
  clear ht h hb hd hl hlen
  go_enter Tryd.func5, Tryd.ntmps5
  go_wp2_with fail
  refine (HX.out _ HT.out).mono ?_
  rintro e w1 ⟨rfl, L1⟩
  go_wp2_with fail
  go_loop [5] (fun i => ∃ k : Nat, k ≤ n ∧ i = .int .i64 k) (fun i => n - (intOf i).toNat)
  case atStart => exact ⟨0, Nat.zero_le _, rfl⟩
  case round =>
    obtain ⟨k, hk, rfl⟩ := hrel
    have hlt : k < l.length := by have := HN.out; omega
    by_cases hkn : k < n
    · have hne := ne46 l k hlt (HB.out k hkn)
      go_wp2_with fail
      go_round
      case rel => exact ⟨k + 1, by omega, by go_num⟩
      case measure => simp [intOf]; omega
    · obtain rfl : k = n := by omega
      have heq := eq46 l k hlt HD.out
      have hc1 : decide ((l.length : Int) < k + 4) = false := by have := HN.out; simp; omega
      have hc2 : ((l.length : Int) == k + 4) = true := by have := HN.out; simp; omega
      go_wp2_with fail
      refine (told_any _ (HT.out.lo L1)).mono ?_
      rintro e w2 ⟨rfl, L2⟩
      go_wp2_with fail
      go_ret
      exact ⟨rfl, L1.trans L2⟩
end Go.Proofs.YtlfhnldeidgkjaaDoor
