/-
  Contracts of the document's answers for layer 3, further: Bytes, Up, Sum, Pad, Piece, Ints, Own of the references. No conditions beyond those stated.
-/
import Derived.Test.YtmbiceakncmjbaaBnRef
namespace Bn
theorem bytes_eq (v : Int) (n : Nat) : bytes v n = tail n (if v < 0 then v + ((256 ^ n : Nat) : Int) else v).toNat := rfl
theorem chunks_four (v : Nat) (l : List UInt8) (h : 4 ≤ l.length) : chunks v l = chunks ((v + be (l.take 4)) % 4294967296) (l.drop 4) := by
  match l, h with
  | a :: b :: c :: d :: r, _ => rfl
theorem one_four (l : List UInt8) : one l 4 = be l := by unfold one; rw [if_neg (by rintro ⟨h, _⟩; omega)]
end Bn
namespace Go.Proofs.Ytmbiceakncmjbaa
open Go.RowKit

set_option maxHeartbeats 800000 in
/-- The loop of Bytes, from a number that is not below 0 on. -/
theorem rbytes_pos (u n : Nat) (w : World) (hn : n ≤ 4) (hu : u < 4294967296) :
    Calls Try.prog 36 #[.int .i64 u, .int .i64 n] w fun e w' => e = .returned (.string ⟨(Bn.tail n u).toArray⟩) ∧ Lo w w' := by
  have h0 : ¬ (u : Int) < 0 := by omega
  go_enter Try.func36, Try.ntmps36
  go_wp2_with fail
  go_loopw [0, 5, 6] (fun a o i W => ∃ (k m : Nat) (l : List UInt8), k ≤ n ∧ i = .int .i64 k ∧ a = .int .i64 m ∧ o = .string ⟨l.toArray⟩ ∧ Hid (m = u / 256 ^ k) ∧ Hid (l = Bn.tail k u) ∧ Lo w W) (fun _ _ i _ => n - (intOf i).toNat)
  case atStart => exact ⟨0, u, [], Nat.zero_le _, rfl, rfl, rfl, Lib.hid (by simp), Lib.hid rfl, Lo.refl _⟩
  case round =>
    obtain ⟨k, m, l, hk, rfl, rfl, rfl, Hm, Hl, hlo⟩ := hrel
    have hmb : m < 4294967296 := by rw [Hm.out]; exact Nat.lt_of_le_of_lt (Nat.div_le_self _ _) hu
    have hll : l.length ≤ 4 := by rw [Hl.out, Bn.tail_len]; omega
    by_cases hlt : k < n
    · have hone : ∀ W : World, (convert 49 9 (.slice (some ⟨W.heap.size, 0, none⟩) 1 1)).run Try.prog (W.alloc (.cells #[.int .u8 ((m : Int) % 256)] 5)) = .ok (.string ⟨[UInt8.ofNat ((m : Int) % 256).toNat].toArray⟩) (W.alloc (.cells #[.int .u8 ((m : Int) % 256)] 5)) := fun W => one_byte W _ (by omega) (by omega)
      go_wp2_with fail
      exact ⟨⟨k + 1, m / 256, UInt8.ofNat (m % 256) :: l, by omega, by go_num, by go_num, congrArg Value.string (Gk.cat_list [UInt8.ofNat (m % 256)] l), Lib.hid (by rw [Hm.out, Nat.pow_succ, Nat.div_div_eq_div_mul]), Lib.hid (by rw [Bn.tail_cons, Bn.dig, Hm.out, Hl.out]), hlo.alloc _⟩, by simp [intOf]; omega⟩
    · obtain rfl : k = n := by omega
      go_wp2_with fail
      go_ret
      exact ⟨congrArg (fun l : List UInt8 => Ending.returned (Value.string ⟨l.toArray⟩)) Hl.out, hlo⟩

set_option maxHeartbeats 800000 in
theorem rbytes_neg (x : Int) (u n : Nat) (w : World) (hn : n ≤ 4) (hu : u < 4294967296) (h0 : x < 0) (hx : x + ((256 ^ n : Nat) : Int) = u) (_hP1 : 256 ^ n ≤ 4294967296) :
    Calls Try.prog 36 #[.int .i64 x, .int .i64 n] w fun e w' => e = .returned (.string ⟨(Bn.tail n u).toArray⟩) ∧ Lo w w' := by
  have HP := Lib.hid (fun W => rpower_any n W hn)
  generalize 256 ^ n = P at *
  go_enter Try.func36, Try.ntmps36
  go_wp2_with fail
  refine (HP.out _).mono ?_
  rintro e w1 ⟨rfl, rfl⟩
  go_wp2_with fail
  go_loopw [0, 5, 6] (fun a o i W => ∃ (k m : Nat) (l : List UInt8), k ≤ n ∧ i = .int .i64 k ∧ a = .int .i64 m ∧ o = .string ⟨l.toArray⟩ ∧ Hid (m = u / 256 ^ k) ∧ Hid (l = Bn.tail k u) ∧ Lo w W) (fun _ _ i _ => n - (intOf i).toNat)
  case atStart => exact ⟨0, u, [], Nat.zero_le _, rfl, congrArg (Value.int .i64) (by omega), rfl, Lib.hid (by simp), Lib.hid rfl, Lo.refl _⟩
  case round =>
    obtain ⟨k, m, l, hk, rfl, rfl, rfl, Hm, Hl, hlo⟩ := hrel
    have hmb : m < 4294967296 := by rw [Hm.out]; exact Nat.lt_of_le_of_lt (Nat.div_le_self _ _) hu
    have hll : l.length ≤ 4 := by rw [Hl.out, Bn.tail_len]; omega
    by_cases hlt : k < n
    · have hone : ∀ W : World, (convert 49 9 (.slice (some ⟨W.heap.size, 0, none⟩) 1 1)).run Try.prog (W.alloc (.cells #[.int .u8 ((m : Int) % 256)] 5)) = .ok (.string ⟨[UInt8.ofNat ((m : Int) % 256).toNat].toArray⟩) (W.alloc (.cells #[.int .u8 ((m : Int) % 256)] 5)) := fun W => one_byte W _ (by omega) (by omega)
      go_wp2_with fail
      exact ⟨⟨k + 1, m / 256, UInt8.ofNat (m % 256) :: l, by omega, by go_num, by go_num, congrArg Value.string (Gk.cat_list [UInt8.ofNat (m % 256)] l), Lib.hid (by rw [Hm.out, Nat.pow_succ, Nat.div_div_eq_div_mul]), Lib.hid (by rw [Bn.tail_cons, Bn.dig, Hm.out, Hl.out]), hlo.alloc _⟩, by simp [intOf]; omega⟩
    · obtain rfl : k = n := by omega
      go_wp2_with fail
      go_ret
      exact ⟨congrArg (fun l : List UInt8 => Ending.returned (Value.string ⟨l.toArray⟩)) Hl.out, hlo⟩

theorem rbytes_any (x z : Int) (w : World) (hz : Bn.isSize z = true) (hf : Bn.fits x z = true) :
    Calls Try.prog 36 #[.int .i64 x, .int .i64 z.natAbs] w fun e w' => e = .returned (.string ⟨(Bn.bytes x z.natAbs).toArray⟩) ∧ Lo w w' := by
  have h4 := (Bn.isSize_wide hz).2
  have hP1 : 256 ^ z.natAbs ≤ 4294967296 := Nat.le_trans (Nat.pow_le_pow_right (by omega) h4) (by decide)
  have hge := Bn.fits_ge hf
  have hlt : x < ((256 ^ z.natAbs : Nat) : Int) := by
    unfold Bn.fits at hf
    generalize 256 ^ z.natAbs = P at *
    by_cases h : z < 0
    · rw [if_pos h] at hf; simp only [Bool.and_eq_true, decide_eq_true_eq] at hf; omega
    · rw [if_neg h] at hf; simp only [Bool.and_eq_true, decide_eq_true_eq] at hf; omega
  rw [Bn.bytes_eq]
  by_cases h0 : x < 0
  · rw [if_pos h0]
    exact rbytes_neg x _ z.natAbs w h4 (by omega) h0 (by omega) hP1
  · rw [if_neg h0]
    obtain ⟨u, rfl⟩ := Int.eq_ofNat_of_zero_le (show 0 ≤ x by omega)
    rw [Int.toNat_natCast]
    exact rbytes_pos u z.natAbs w h4 (by omega)

set_option maxHeartbeats 800000 in
theorem rup_any (l : List UInt8) (n : Nat) (w : World) (h1 : 1 ≤ n) (h2 : n ≤ 64) (hl : l.length ≤ 1000000) :
    Calls Try.prog 40 #[.string ⟨l.toArray⟩, .int .i64 n] w fun e w' => e = .returned (.string ⟨(Bn.up l n).toArray⟩) ∧ w = w' := by
  generalize hy : Bn.up l n = y
  have hyl : y.length ≤ 1000064 := by
    rw [← hy, Bn.up_len]
    have := Nat.mod_lt (n - l.length % n) (show 0 < n by omega)
    omega
  have HY := Lib.hid hy
  clear hy
  have hnz : ¬ (n : Int) = 0 := by omega
  go_enter Try.func40, Try.ntmps40
  go_wp2_with fail
  go_loop [0] (fun s => ∃ m : List UInt8, s = .string ⟨m.toArray⟩ ∧ m.length ≤ y.length ∧ Hid (Bn.up m n = y)) (fun s => match s with | .string b => y.length - b.size | _ => 0)
  case atStart => exact ⟨l, rfl, by rw [← HY.out, Bn.up_len]; omega, HY⟩
  case round =>
    obtain ⟨m, rfl, hm, HU⟩ := hrel
    by_cases h0 : m.length % n = 0
    · have hr : (m.length : Int) % (n : Int) = 0 := by
        have : ((m.length % n : Nat) : Int) = 0 := by rw [h0]; rfl
        rwa [Int.natCast_emod] at this
      have HE : Hid (m = y) := Lib.hid (by rw [← HU.out, Bn.up_done m n h0])
      clear h0
      go_wp2_with fail
      go_ret
      exact ⟨ret_str (by rw [HE.out]), rfl⟩
    · have HS := Lib.hid (Bn.up_step m n (by omega) h0)
      have hlt : m.length + 1 ≤ y.length := by
        have := HU.out
        rw [← HS.out] at this
        rw [← this, Bn.up_len, List.length_append, List.length_singleton]; omega
      generalize hr0 : m.length % n = r at *
      have hr : (m.length : Int) % (n : Int) = r := by rw [← hr0, Int.natCast_emod]
      have hrz : ((r : Int) == 0) = false := by simp; omega
      clear hr0
      go_wp2_with fail
      go_round
      case rel => exact ⟨m ++ [0], congrArg Value.string (Gk.cat_list m [0]), by simp; omega, Lib.hid (by rw [HS.out]; exact HU.out)⟩
      case measure =>
        have hs : (⟨m.toArray⟩ : ByteArray).size = m.length := rfl
        have hs1 : (⟨#[0]⟩ : ByteArray).size = 1 := rfl
        simp
        omega

set_option maxHeartbeats 800000 in
theorem rsum_any (l : List UInt8) (w : World) (hl : l.length ≤ 1000000) :
    Calls Try.prog 21 #[.string ⟨l.toArray⟩] w fun e w' => e = .returned (.int .i64 (Bn.sum l : Nat)) ∧ w = w' := by
  have HU := Lib.hid (fun W => rup_any l 4 W (by omega) (by omega) hl)
  have hm4 := Bn.up_mod l 4 (by omega)
  have hul : (Bn.up l 4).length ≤ 1000004 := by rw [Bn.up_len]; omega
  generalize hy : Bn.sum l = y
  unfold Bn.sum at hy
  generalize Bn.up l 4 = s at *
  have HY := Lib.hid hy
  clear hy
  go_enter Try.func21, Try.ntmps21
  go_wp2_with fail
  refine (HU.out _).mono ?_
  rintro e w1 ⟨rfl, rfl⟩
  go_wp2_with fail
  go_loop [3, 4] (fun v i => ∃ k x : Nat, k ≤ s.length ∧ k % 4 = 0 ∧ x < 4294967296 ∧ i = .int .i64 k ∧ v = .int .i64 x ∧ Hid (Bn.chunks x (s.drop k) = y)) (fun _ i => s.length - (intOf i).toNat)
  case atStart => exact ⟨0, 0, Nat.zero_le _, rfl, by omega, rfl, rfl, Lib.hid (by rw [List.drop_zero]; exact HY.out)⟩
  case round =>
    obtain ⟨k, x, hk, hk4, hx, rfl, rfl, HC⟩ := hrel
    by_cases hlt : k < s.length
    · have hk4' : k + 4 ≤ s.length := by omega
      have hx1 : (⟨s.toArray⟩ : ByteArray).extract k (k + 4) = ⟨((s.drop k).take 4).toArray⟩ := by rw [Gk.extract_list, Nat.add_sub_cancel_left]
      have HF : Hid (Bn.chunks x (s.drop k) = Bn.chunks ((x + Bn.be ((s.drop k).take 4)) % 4294967296) (s.drop (k + 4))) := Lib.hid (by rw [Bn.chunks_four x (s.drop k) (by simp; omega), List.drop_drop])
      have HO := Lib.hid (fun W => rone_any ((s.drop k).take 4) 4 W (by simp; omega))
      rw [Bn.one_four] at HO
      have hbe : Bn.be ((s.drop k).take 4) < 4294967296 := by
        have := Bn.be_lt ((s.drop k).take 4)
        exact Nat.lt_of_lt_of_le this (Nat.le_trans (Nat.pow_le_pow_right (by omega) (show ((s.drop k).take 4).length ≤ 4 by simp; omega)) (by decide))
      generalize (s.drop k).take 4 = t at *
      generalize Bn.be t = b at *
      go_wp2_with fail
      refine (HO.out _).mono ?_
      rintro e w1 ⟨rfl, rfl⟩
      go_wp2_with fail
      go_round
      case rel => exact ⟨k + 4, (x + b) % 4294967296, by omega, by omega, by omega, by go_num, by go_num, Lib.hid (by rw [← HF.out]; exact HC.out)⟩
      case measure => simp [intOf]; omega
    · have HE : Hid (x = y) := Lib.hid (by
        have := HC.out
        rw [List.drop_of_length_le (by omega)] at this
        exact this)
      go_wp2_with fail
      go_ret
      exact ⟨ret_int (by rw [HE.out]), rfl⟩

set_option maxHeartbeats 400000 in
theorem rpad_any (l : List UInt8) (n : Int) (w : World) (hl : l.length ≤ 1000000) :
    Calls Try.prog 19 #[.string ⟨l.toArray⟩, .int .i64 n] w fun e w' => e = strErr (Bn.pad l n) ∧ w = w' := by
  unfold Bn.pad
  by_cases c1 : n < 1
  · rw [if_pos (.inl c1)]
    go_enter Try.func19, Try.ntmps19
    go_wp2_with fail
    go_ret2
    exact ⟨rfl, rfl⟩
  · by_cases c2 : 64 < n
    · rw [if_pos (.inr c2)]
      go_enter Try.func19, Try.ntmps19
      go_wp2_with fail
      go_ret2
      exact ⟨rfl, rfl⟩
    · rw [if_neg (by omega)]
      obtain ⟨q, rfl⟩ := Int.eq_ofNat_of_zero_le (show 0 ≤ n by omega)
      rw [Int.toNat_natCast]
      have HU := Lib.hid (fun W => rup_any l q W (by omega) (by omega) hl)
      generalize Bn.up l q = y at *
      go_enter Try.func19, Try.ntmps19
      go_wp2_with fail
      refine (HU.out _).mono ?_
      rintro e w1 ⟨rfl, rfl⟩
      go_wp2_with fail
      go_ret2
      exact ⟨rfl, rfl⟩

set_option maxHeartbeats 400000 in
theorem rpiece_any (l : List UInt8) (pos n : Int) (w : World) (hl : l.length ≤ 1000000) :
    Calls Try.prog 17 #[.string ⟨l.toArray⟩, .int .i64 pos, .int .i64 n] w fun e w' => e = strErr (Bn.piece l pos n) ∧ w = w' := by
  unfold Bn.piece
  by_cases c1 : pos < 0
  · rw [if_pos (.inl c1)]
    go_enter Try.func17, Try.ntmps17
    go_wp2_with fail
    go_ret2
    exact ⟨rfl, rfl⟩
  · by_cases c2 : n < 0
    · rw [if_pos (.inr c2)]
      go_enter Try.func17, Try.ntmps17
      go_wp2_with fail
      go_ret2
      exact ⟨rfl, rfl⟩
    · rw [if_neg (by omega)]
      by_cases c3 : (l.length : Int) < pos
      · rw [if_pos (.inl c3)]
        go_enter Try.func17, Try.ntmps17
        go_wp2_with fail
        go_ret2
        exact ⟨rfl, rfl⟩
      · by_cases c4 : (l.length : Int) - pos < n
        · rw [if_pos (.inr c4)]
          go_enter Try.func17, Try.ntmps17
          go_wp2_with fail
          go_ret2
          exact ⟨rfl, rfl⟩
        · rw [if_neg (by omega)]
          obtain ⟨q, rfl⟩ := Int.eq_ofNat_of_zero_le (show 0 ≤ pos by omega)
          obtain ⟨m, rfl⟩ := Int.eq_ofNat_of_zero_le (show 0 ≤ n by omega)
          rw [Int.toNat_natCast, Int.toNat_natCast]
          go_enter Try.func17, Try.ntmps17
          go_wp2_with fail
          go_ret2
          exact ⟨ret_str2 (by rw [Gk.extract_list, Nat.add_sub_cancel_left]), rfl⟩
end Go.Proofs.Ytmbiceakncmjbaa
