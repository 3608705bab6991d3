/-
  The contract of dimen.Text. No conditions but that the package variable of powers of ten reads as it is laid.
-/
import Derived.Test.YtlfhnldeidgkjaaDoorDmDigits
namespace Dm
open Go
theorem cat_list (l m : List UInt8) : (⟨l.toArray⟩ : ByteArray) ++ ⟨m.toArray⟩ = ⟨(l ++ m).toArray⟩ := by
  apply ByteArray.ext
  simp [ByteArray.data_append]
theorem nDigits_le : ∀ (k u : Nat), u < 10 ^ (k + 1) → Lib.nDigits u ≤ k + 1
  | 0, u, h => by rw [Lib.nDigits_small (by omega)]; omega
  | k + 1, u, h => by
    by_cases hu : u < 10
    · rw [Lib.nDigits_small hu]; omega
    · rw [Lib.nDigits_big hu]
      have := nDigits_le k (u / 10) (by rw [Nat.pow_succ] at h; omega)
      omega
theorem decDigits_len (u : Nat) : (Lib.decDigits u).length = Lib.nDigits u := by rw [Lib.decDigits_eq]; simp
theorem whole_len (q : Nat) (h : q ≤ 16383) : (Lib.decDigits q).length ≤ 5 := by
  rw [decDigits_len]; exact nDigits_le 4 q (by omega)
theorem fract_len (r : Nat) (h : r < 65536) : (digits r).length ≤ 5 := by
  unfold digits
  obtain ⟨h1, h2⟩ := count_bd r
  obtain ⟨h3, h4⟩ := fraction_le r (count r) h h2
  rw [List.length_drop, decDigits_len]
  have := nDigits_le 5 (10 ^ count r + fraction r (count r)) (by omega)
  omega
theorem text_nat (n : Nat) : text (n : Int) = Lib.decDigits (n / 65536) ++ [46] ++ digits (n % 65536) ++ [112, 116] := by
  unfold text; rw [if_neg (by omega), Int.natAbs_natCast]; rfl
theorem text_neg (n : Nat) (h : 0 < n) : text (-(n : Int)) = 45 :: (Lib.decDigits (n / 65536) ++ [46] ++ digits (n % 65536) ++ [112, 116]) := by
  unfold text; rw [if_pos (by omega), Int.natAbs_neg, Int.natAbs_natCast]; simp
end Dm
namespace Go.Proofs.YtlfhnldeidgkjaaDoor
open Go.RowKit

set_option maxHeartbeats 400000 in
theorem text_no (a : Int) (w : World) (h : Fx.len a = false) :
    Calls Tryd.prog 15 #[.int .i64 a] w fun e w' => e = .returned (.tuple #[.string ⟨#[]⟩, .int .i64 1]) ∧ Lo w w' := by
  have HI := Lib.hid ((one_len a).trans h)
  clear h
  go_enter Tryd.func15, Tryd.ntmps15
  go_wp2_with fail
  refine (is_any _ [a] _ (row1 _ _ (by simp) a)).mono ?_
  rw [HI.out]
  rintro e w' ⟨rfl, rfl⟩
  go_wp2_with fail
  go_ret2
  exact ⟨rfl, (Lo.refl w).alloc _⟩

set_option maxHeartbeats 400000 in
theorem text_pos (n : Nat) (w : World) (h : n ≤ 1073741823) (ht : Tab w) :
    Calls Tryd.prog 15 #[.int .i64 n] w fun e w' => e = .returned (.tuple #[.string ⟨(Dm.text n).toArray⟩, .int .i64 0]) ∧ Lo w w' := by
  have HI := Lib.hid ((one_len n).trans (Fx.len_yes (by omega) (by omega)))
  have HT := Lib.hid ht
  have HX := Lib.hid (Dm.text_nat n)
  have hq : n / 65536 ≤ 16383 := by omega
  have hr : n % 65536 < 65536 := by omega
  have hqc : (n : Int) / 65536 = ((n / 65536 : Nat) : Int) := by omega
  have hrc : (n : Int) % 65536 = ((n % 65536 : Nat) : Int) := by omega
  clear ht
  generalize n / 65536 = q at *
  generalize n % 65536 = r at *
  go_enter Tryd.func15, Tryd.ntmps15
  go_wp2_with fail
  refine (is_any _ [(n : Int)] _ (row1 _ _ (by simp) (n : Int))).mono ?_
  rw [HI.out]
  rintro e w' ⟨rfl, rfl⟩
  have l1 : Lo w (w.alloc (.cells #[.int .i64 n] 3)) := (Lo.refl w).alloc _
  go_wp2_with fail
  refine (format_any q _ (by omega) (HT.out.lo l1)).mono ?_
  rintro e w1 ⟨rfl, l2⟩
  have L := l1.trans l2
  have hl1 := Dm.whole_len q hq
  clear l1 l2
  generalize Lib.decDigits q = dq at *
  go_wp2_with fail
  refine (digits_any r _ hr (HT.out.lo L)).mono ?_
  rintro e w2 ⟨rfl, l3⟩
  have L2 := L.trans l3
  have hl2 := Dm.fract_len r hr
  clear L l3
  generalize Dm.digits r = dr at *
  go_wp2_with fail
  go_ret2
  exact ⟨by rw [HX.out]; rfl, L2⟩

set_option maxHeartbeats 400000 in
theorem text_minus (n : Nat) (w : World) (h : n ≤ 1073741823) (h0 : 0 < n) (ht : Tab w) :
    Calls Tryd.prog 15 #[.int .i64 (-(n : Int))] w fun e w' => e = .returned (.tuple #[.string ⟨(Dm.text (-(n : Int))).toArray⟩, .int .i64 0]) ∧ Lo w w' := by
  have HI := Lib.hid ((one_len (-(n : Int))).trans (Fx.len_yes (by omega) (by omega)))
  have HT := Lib.hid ht
  have HX := Lib.hid (Dm.text_neg n h0)
  have hq : n / 65536 ≤ 16383 := by omega
  have hr : n % 65536 < 65536 := by omega
  have hqc : (n : Int) / 65536 = ((n / 65536 : Nat) : Int) := by omega
  have hrc : (n : Int) % 65536 = ((n % 65536 : Nat) : Int) := by omega
  clear ht
  generalize n / 65536 = q at *
  generalize n % 65536 = r at *
  go_enter Tryd.func15, Tryd.ntmps15
  go_wp2_with fail
  refine (is_any _ [-(n : Int)] _ (row1 _ _ (by simp) (-(n : Int)))).mono ?_
  rw [HI.out]
  rintro e w' ⟨rfl, rfl⟩
  have l1 : Lo w (w.alloc (.cells #[.int .i64 (-(n : Int))] 3)) := (Lo.refl w).alloc _
  go_wp2_with fail
  refine (format_any q _ (by omega) (HT.out.lo l1)).mono ?_
  rintro e w1 ⟨rfl, l2⟩
  have L := l1.trans l2
  have hl1 := Dm.whole_len q hq
  clear l1 l2
  generalize Lib.decDigits q = dq at *
  go_wp2_with fail
  refine (digits_any r _ hr (HT.out.lo L)).mono ?_
  rintro e w2 ⟨rfl, l3⟩
  have L2 := L.trans l3
  have hl2 := Dm.fract_len r hr
  clear L l3
  generalize Dm.digits r = dr at *
  go_wp2_with fail
  go_ret2
  exact ⟨by rw [HX.out]; rfl, L2⟩

theorem text_yes (a : Int) (w : World) (h : Fx.len a = true) (ht : Tab w) :
    Calls Tryd.prog 15 #[.int .i64 a] w fun e w' => e = .returned (.tuple #[.string ⟨(Dm.text a).toArray⟩, .int .i64 0]) ∧ Lo w w' := by
  obtain ⟨h1, h2⟩ := (Fx.len_iff a).1 h
  by_cases h0 : 0 ≤ a
  · obtain ⟨n, rfl⟩ := Int.eq_ofNat_of_zero_le h0
    exact text_pos n w (by omega) ht
  · obtain ⟨n, hn⟩ := Int.eq_ofNat_of_zero_le (a := -a) (by omega)
    obtain rfl : a = -(n : Int) := by omega
    exact text_minus n w (by omega) (by omega) ht
end Go.Proofs.YtlfhnldeidgkjaaDoor
