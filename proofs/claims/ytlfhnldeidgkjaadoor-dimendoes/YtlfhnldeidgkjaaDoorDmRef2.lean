/-
  Contracts of the document's answers for texts of layer 2 (Nearest, ten, Number, Digits, Value of the references). No conditions.
-/
import Derived.Test.YtlfhnldeidgkjaaDoorDmRef
import Derived.Test.YtlfhnldeidgkjaaDoorDmText2
import Derived.Laws.IdiomStrings
namespace Dm
open Go
theorem pad_cons (k n : Nat) : pad (k + 1) n = (48 + UInt8.ofNat (n / 10 ^ k % 10)) :: pad k n := by
  unfold pad
  rw [List.range_succ_eq_map, List.map_cons, List.map_map]
  congr 1
  · unfold Lib.dg
    rw [UInt8.ofNat_add]
    rfl
  · apply List.map_congr_left
    intro t _
    show Lib.dg n (k + 1 - 1 - (t + 1)) = Lib.dg n (k - 1 - t)
    congr 1
    omega
theorem dec_eq_pad (q : Nat) : Lib.decDigits q = pad (Lib.nDigits q) q := Lib.decDigits_eq q
theorem nDigits_min (q i : Nat) (h : i < Lib.nDigits q) : i < 1 ∨ 0 < q / 10 ^ i := by
  induction q using Nat.strongRecOn generalizing i with
  | _ q ih =>
    by_cases hq : q < 10
    · rw [Lib.nDigits_small hq] at h; omega
    · rw [Lib.nDigits_big hq] at h
      cases i with
      | zero => left; omega
      | succ j =>
        right
        rcases ih (q / 10) (by omega) j (by omega) with h1 | h1
        · obtain rfl : j = 0 := by omega
          simp; omega
        · rw [Nat.pow_succ, Nat.mul_comm, ← Nat.div_div_eq_div_mul]; exact h1
end Dm
namespace Go.Proofs.YtlfhnldeidgkjaaDoor
open Go.RowKit

set_option maxHeartbeats 400000 in
theorem rfar_any (n : Nat) (w : World) : Calls Tryd.prog 52 #[.int .i64 n] w fun e w' => e = .returned (.int .i64 n) ∧ w = w' := by
  have h : ¬ (n : Int) < 0 := by omega
  go_enter Tryd.func52, Tryd.ntmps52
  go_wp2
  go_ret
  exact ⟨rfl, rfl⟩

set_option maxHeartbeats 400000 in
theorem rnearest_any (n c : Nat) (w : World) (hn : n ≤ 1000000000000000) (hc : c ≤ 1000000000000) (hc0 : 0 < c) :
    Calls Tryd.prog 33 #[.int .i64 n, .int .i64 c] w fun e w' => e = .returned (.int .i64 ((2 * n + c) / (2 * c) : Nat)) ∧ w = w' := by
  have hq : (n : Int) / c = ((n / c : Nat) : Int) := by simp
  have hr : (n : Int) % c = ((n % c : Nat) : Int) := by simp
  have hv : (2 * n + c) / (2 * c) = n / c + (if c ≤ 2 * (n % c) then 1 else 0) := by
    have q1 := Nat.div_add_mod n c
    have q2 := Nat.mod_lt n hc0
    rw [Nat.mul_comm] at q1
    generalize n / c = q at *
    generalize n % c = r at *
    subst q1
    by_cases h : c ≤ 2 * r
    · rw [if_pos h]
      apply Nat.div_eq_of_lt_le
      · have : (q + 1) * (2 * c) = 2 * (q * c) + 2 * c := by rw [Nat.add_mul, Nat.one_mul, ← Nat.mul_assoc, Nat.mul_comm q 2, Nat.mul_assoc]
        omega
      · have : (q + 1 + 1) * (2 * c) = 2 * (q * c) + 2 * c + 2 * c := by rw [Nat.add_mul, Nat.add_mul, Nat.one_mul, ← Nat.mul_assoc, Nat.mul_comm q 2, Nat.mul_assoc]
        omega
    · rw [if_neg h]
      apply Nat.div_eq_of_lt_le
      · have : (q + 0) * (2 * c) = 2 * (q * c) := by rw [Nat.add_zero, ← Nat.mul_assoc, Nat.mul_comm q 2, Nat.mul_assoc]
        omega
      · have : (q + 0 + 1) * (2 * c) = 2 * (q * c) + 2 * c := by rw [Nat.add_zero, Nat.add_mul, Nat.one_mul, ← Nat.mul_assoc, Nat.mul_comm q 2, Nat.mul_assoc]
        omega
  have hqb : n / c ≤ 1000000000000000 := Nat.le_trans (Nat.div_le_self _ _) hn
  have hrb : n % c < c := Nat.mod_lt _ hc0
  have hcz : ¬ (c : Int) = 0 := by omega
  have hn0 : ¬ (n : Int) < 0 := by omega
  have HV := Lib.hid hv
  clear hv
  generalize (2 * n + c) / (2 * c) = y at *
  generalize n / c = q at *
  generalize n % c = r at *
  by_cases h : c ≤ 2 * r
  · have hy : y = q + 1 := by rw [HV.out, if_pos h]
    have HY := Lib.hid hy
    clear hy HV
    go_enter Tryd.func33, Tryd.ntmps33
    go_wp2_with fail
    refine (rfar_any n _).mono ?_
    rintro e w' ⟨rfl, rfl⟩
    go_wp2_with fail
    refine (rfar_any n _).mono ?_
    rintro e w' ⟨rfl, rfl⟩
    go_wp2_with fail
    go_ret
    exact ⟨ret_int (by rw [HY.out]; simp), rfl⟩
  · have hy : y = q := by rw [HV.out, if_neg h]; rfl
    have HY := Lib.hid hy
    clear hy HV
    go_enter Tryd.func33, Tryd.ntmps33
    go_wp2_with fail
    refine (rfar_any n _).mono ?_
    rintro e w' ⟨rfl, rfl⟩
    go_wp2_with fail
    refine (rfar_any n _).mono ?_
    rintro e w' ⟨rfl, rfl⟩
    go_wp2_with fail
    go_ret
    exact ⟨ret_int (by rw [HY.out]), rfl⟩

set_option maxHeartbeats 400000 in
theorem rten_any (k t : Nat) (w : World) (hk : k ≤ 10) (ht : t = 10 ^ k) :
    Calls Tryd.prog 34 #[.int .i64 k] w fun e w' => e = .returned (.int .i64 (t : Int)) ∧ w = w' := by
  have HT := Lib.hid ht
  clear ht
  go_enter Tryd.func34, Tryd.ntmps34
  go_wp2
  go_loop [3, 4] (fun n i => ∃ j p : Nat, j ≤ k ∧ i = .int .i64 j ∧ n = .int .i64 p ∧ Hid (p = 10 ^ j)) (fun _ i => k - (intOf i).toNat)
  case atStart => exact ⟨0, 1, Nat.zero_le _, rfl, rfl, Lib.hid rfl⟩
  case round =>
    obtain ⟨j, p, hj, rfl, rfl, HP⟩ := hrel
    have hp : p ≤ 10000000000 := by rw [HP.out]; exact Dm.pow10_bd j (by omega)
    by_cases hlt : j < k
    · go_wp2
      go_round
      case rel => exact ⟨j + 1, 10 * p, by omega, by go_num, by go_num, Lib.hid (by rw [HP.out, Nat.pow_succ, Nat.mul_comm])⟩
      case measure => simp [intOf]; omega
    · go_wp2
      go_ret
      obtain rfl : j = k := by omega
      exact ⟨ret_int (by rw [HP.out, HT.out]), rfl⟩

theorem one_byte (W : World) (c : Int) (h0 : 0 ≤ c) (h1 : c < 256) : (convert 37 9 (.slice (some ⟨W.heap.size, 0, none⟩) 1 1)).run Tryd.prog (W.alloc (.cells #[.int .u8 c] 5)) = .ok (.string ⟨[UInt8.ofNat c.toNat].toArray⟩) (W.alloc (.cells #[.int .u8 c] 5)) := by
  have := run_convert_bytes_back (P := Tryd.prog) (W.alloc (.cells #[.int .u8 c] 5)) 37 9 5 ⟨W.heap.size, 0, none⟩ 1 [UInt8.ofNat c.toNat] Tryd.underlying37 Tryd.underlying5 Tryd.underlying9 (fun j hj => by
    obtain rfl : j = 0 := by simp at hj; omega
    rw [Addr.add_lit]
    simp [go_sem]
    omega)
  exact this

theorem dg_eq (n : Nat) (i : Nat) : Lib.dg n i = UInt8.ofNat (48 + n / 10 ^ i % 10) := rfl

set_option maxHeartbeats 800000 in
theorem rnumber_any (n least I : Nat) (w : World) (hl : least ≤ I) (hI : I ≤ 10) (hn : n < 10 ^ I) (hmin : ∀ i, i < I → i < least ∨ 0 < n / 10 ^ i) :
    Calls Tryd.prog 35 #[.int .i64 n, .int .i64 least] w fun e w' => e = .returned (.string ⟨(Dm.pad I n).toArray⟩) ∧ Lo w w' := by
  have hnb : n < 10000000000 := by
    have := Nat.pow_le_pow_right (n := 10) (by omega) hI
    omega
  have HM := Lib.hid hmin
  have HN := Lib.hid hn
  clear hmin hn
  have hpl : ∀ i m, (Dm.pad i m).length = i := Dm.pad_len
  have HPL := Lib.hid hpl
  clear hpl
  go_enter Tryd.func35, Tryd.ntmps35
  go_wp2_with fail
  go_loopw [0, 5, 6] (fun a o i W => ∃ (k m : Nat) (l : List UInt8), k ≤ I ∧ i = .int .i64 k ∧ a = .int .i64 m ∧ o = .string ⟨l.toArray⟩ ∧ Hid (m = n / 10 ^ k) ∧ Hid (l = Dm.pad k n) ∧ Lo w W) (fun _ _ i _ => I - (intOf i).toNat)
  case atStart => exact ⟨0, n, [], Nat.zero_le _, rfl, rfl, rfl, Lib.hid (by simp), Lib.hid rfl, Lo.refl _⟩
  case round =>
    obtain ⟨k, m, l, hk, rfl, rfl, rfl, Hm, Hl, hlo⟩ := hrel
    have hmb : m < 10000000000 := by rw [Hm.out]; exact Nat.lt_of_le_of_lt (Nat.div_le_self _ _) hnb
    have hll : l.length = k := by rw [Hl.out, HPL.out]
    have HLL := Lib.hid hll
    have hlb : l.length ≤ 10 := by omega
    clear hll
    by_cases hlt : k < I
    · have hgo := HM.out k hlt
      rw [← Hm.out] at hgo
      have hone : ∀ W : World, (convert 37 9 (.slice (some ⟨W.heap.size, 0, none⟩) 1 1)).run Tryd.prog (W.alloc (.cells #[.int .u8 (48 + (m : Int) % 10)] 5)) = .ok (.string ⟨[UInt8.ofNat (48 + (m : Int) % 10).toNat].toArray⟩) (W.alloc (.cells #[.int .u8 (48 + (m : Int) % 10)] 5)) := fun W => one_byte W _ (by omega) (by omega)
      by_cases hkl : k < least
      · go_wp2_with fail
        exact ⟨⟨k + 1, m / 10, (48 + UInt8.ofNat (m % 10)) :: l, by omega, by go_num, by go_num, congrArg Value.string (Dm.cat_list [48 + UInt8.ofNat (m % 10)] l), Lib.hid (by rw [Hm.out, Nat.pow_succ, Nat.div_div_eq_div_mul]), Lib.hid (by rw [Dm.pad_cons, Hm.out, Hl.out]), hlo.alloc _⟩, by simp [intOf]; omega⟩
      · have hm0 : 0 < m := by omega
        go_wp2_with fail
        exact ⟨⟨k + 1, m / 10, (48 + UInt8.ofNat (m % 10)) :: l, by omega, by go_num, by go_num, congrArg Value.string (Dm.cat_list [48 + UInt8.ofNat (m % 10)] l), Lib.hid (by rw [Hm.out, Nat.pow_succ, Nat.div_div_eq_div_mul]), Lib.hid (by rw [Dm.pad_cons, Hm.out, Hl.out]), hlo.alloc _⟩, by simp [intOf]; omega⟩
    · obtain rfl : k = I := by omega
      have hm0 : m = 0 := by rw [Hm.out]; exact Nat.div_eq_of_lt HN.out
      subst hm0
      have hkl : ¬ (k : Int) < least := by omega
      go_wp2_with fail
      go_ret
      exact ⟨congrArg (fun l : List UInt8 => Ending.returned (Value.string ⟨l.toArray⟩)) Hl.out, hlo⟩

theorem rwhole_any (q : Nat) (w : World) (h : q ≤ 16383) :
    Calls Tryd.prog 35 #[.int .i64 q, .int .i64 1] w fun e w' => e = .returned (.string ⟨(Lib.decDigits q).toArray⟩) ∧ Lo w w' := by
  rw [Dm.dec_eq_pad]
  have hl : Lib.nDigits q ≤ 5 := Dm.nDigits_le 4 q (by omega)
  exact rnumber_any q 1 (Lib.nDigits q) w (Lib.nDigits_pos q) (by omega) (Lib.lt_pow_nDigits q) (fun i hi => Dm.nDigits_min q i hi)

theorem rfract_any (d k : Nat) (w : World) (hk : k ≤ 10) (hd : d < 10 ^ k) :
    Calls Tryd.prog 35 #[.int .i64 d, .int .i64 k] w fun e w' => e = .returned (.string ⟨(Dm.pad k d).toArray⟩) ∧ Lo w w' :=
  rnumber_any d k k w (Nat.le_refl _) hk hd (fun _ hi => .inl hi)

end Go.Proofs.YtlfhnldeidgkjaaDoor
namespace Dm
open Go
/-- How many digits stand in front. -/
def digs (l : List UInt8) : Nat := (l.takeWhile isDig).length
theorem digs_le (l : List UInt8) : digs l ≤ l.length := by
  unfold digs
  induction l with
  | nil => simp
  | cons c l ih =>
    by_cases h : isDig c = true
    · simp [h]; exact ih
    · simp [h]
theorem digs_at : ∀ (l : List UInt8) (k : Nat), k < digs l → isDig (l.getD k 0) = true
  | [], k, h => by simp [digs] at h
  | c :: l, k, h => by
    unfold digs at h
    by_cases hc : isDig c = true
    · cases k with
      | zero => simpa using hc
      | succ k =>
        simp [hc] at h
        have := digs_at l k h
        simpa using this
    · simp [hc] at h
theorem digs_end : ∀ (l : List UInt8), digs l < l.length → isDig (l.getD (digs l) 0) = false
  | [], h => by simp at h
  | c :: l, h => by
    unfold digs at *
    by_cases hc : isDig c = true
    · simp [hc] at h ⊢
      have := digs_end l h
      simpa [digs] using this
    · simp [hc]
end Dm
namespace Go.Proofs.YtlfhnldeidgkjaaDoor
open Go.RowKit

theorem ba_at (l : List UInt8) (k : Nat) (c : UInt8) (hc : l.getD k 0 = c) (h : k < (ByteArray.mk l.toArray).size) : (ByteArray.mk l.toArray)[k] = c := by
  have h' : k < l.length := h
  rw [← hc]
  show l.toArray[k] = _
  simp [List.getD, List.getElem?_eq_getElem h']

set_option maxHeartbeats 800000 in
theorem rdigits0 (l : List UInt8) (w : World) (hl : l.length ≤ 1000) :
    Calls Tryd.prog 43 #[.string ⟨l.toArray⟩, .int .i64 0] w fun e w' => e = .returned (.int .i64 (Dm.digs l : Nat)) ∧ w = w' := by
  have hle := Dm.digs_le l
  have HA := Lib.hid (Dm.digs_at l)
  have HE := Lib.hid (Dm.digs_end l)
  go_enter Tryd.func43, Tryd.ntmps43
  go_wp2
  go_loop [5] (fun i => ∃ k : Nat, k ≤ Dm.digs l ∧ i = .int .i64 k) (fun i => Dm.digs l - (intOf i).toNat)
  case atStart => exact ⟨0, Nat.zero_le _, rfl⟩
  case round =>
    obtain ⟨k, hk, rfl⟩ := hrel
    by_cases hlt : k < Dm.digs l
    · have hd := (Dm.isDig_iff _).1 (HA.out k hlt)
      have hkl : k < l.length := by omega
      generalize hc : l.getD k 0 = c at *
      have hget := ba_at l k c hc
      have HC := Lib.hid hc
      obtain ⟨d1, d2⟩ := hd
      clear hc
      go_wp2
      go_round
      case rel => exact ⟨k + 1, by omega, by go_num⟩
      case measure => simp [intOf]; omega
    · obtain rfl : k = Dm.digs l := by omega
      by_cases hkl : Dm.digs l < l.length
      · have hd := HE.out hkl
        generalize hc : l.getD (Dm.digs l) 0 = c at *
        have hget := ba_at l (Dm.digs l) c hc
        have HC := Lib.hid hc
        clear hc
        have hb : c.toNat < 48 ∨ 57 < c.toNat := by
          have : ¬ (48 ≤ c.toNat ∧ c.toNat ≤ 57) := fun h => by rw [(Dm.isDig_iff c).2 h] at hd; cases hd
          omega
        clear hd
        rcases hb with hb | hb
        · go_wp2
          go_ret
          exact ⟨rfl, rfl⟩
        · have hb2 : 48 ≤ c.toNat := by omega
          go_wp2
          go_ret
          exact ⟨rfl, rfl⟩
      · go_wp2
        go_ret
        exact ⟨rfl, rfl⟩

set_option maxHeartbeats 800000 in
theorem rdigits1 (f : UInt8) (l : List UInt8) (w : World) (hl : l.length ≤ 1000) :
    Calls Tryd.prog 43 #[.string ⟨(f :: l).toArray⟩, .int .i64 1] w fun e w' => e = .returned (.int .i64 (Dm.digs l : Nat)) ∧ w = w' := by
  have hle := Dm.digs_le l
  have HA := Lib.hid (Dm.digs_at l)
  have HE := Lib.hid (Dm.digs_end l)
  have hm : (f :: l).length = l.length + 1 := rfl
  generalize hL : f :: l = L at *
  have HL := Lib.hid hL
  have HM := Lib.hid hm
  clear hL hm
  go_enter Tryd.func43, Tryd.ntmps43
  go_wp2
  go_loop [5] (fun i => ∃ k : Nat, k ≤ Dm.digs l ∧ i = .int .i64 k) (fun i => Dm.digs l - (intOf i).toNat)
  case atStart => exact ⟨0, Nat.zero_le _, rfl⟩
  case round =>
    obtain ⟨k, hk, rfl⟩ := hrel
    have e1 : ((1 : Int) + k).toNat = k + 1 := by omega
    by_cases hlt : k < Dm.digs l
    · have hd := (Dm.isDig_iff _).1 (HA.out k hlt)
      have hkl : k + 1 < L.length := by have := HM.out; omega
      generalize hc : l.getD k 0 = c at *
      have hget := ba_at L (k + 1) c (by rw [← HL.out, ← hc]; simp)
      have HC := Lib.hid hc
      obtain ⟨d1, d2⟩ := hd
      clear hc
      go_wp2
      go_round
      case rel => exact ⟨k + 1, by omega, by go_num⟩
      case measure => simp [intOf]; omega
    · obtain rfl : k = Dm.digs l := by omega
      by_cases hkl : Dm.digs l < l.length
      · have hd := HE.out hkl
        have hkL : Dm.digs l + 1 < L.length := by have := HM.out; omega
        generalize hc : l.getD (Dm.digs l) 0 = c at *
        have hget := ba_at L (Dm.digs l + 1) c (by rw [← HL.out, ← hc]; simp)
        have HC := Lib.hid hc
        clear hc
        have hb : c.toNat < 48 ∨ 57 < c.toNat := by
          have : ¬ (48 ≤ c.toNat ∧ c.toNat ≤ 57) := fun h => by rw [(Dm.isDig_iff c).2 h] at hd; cases hd
          omega
        clear hd
        rcases hb with hb | hb
        · go_wp2
          go_ret
          exact ⟨rfl, rfl⟩
        · have hb2 : 48 ≤ c.toNat := by omega
          go_wp2
          go_ret
          exact ⟨rfl, rfl⟩
      · have hkL : ¬ (1 + (Dm.digs l : Int) < L.length) := by have := HM.out; omega
        go_wp2
        go_ret
        exact ⟨rfl, rfl⟩

set_option maxHeartbeats 800000 in
theorem rvalue_any (l : List UInt8) (w : World) (hl : l.length ≤ 10) (hd : l.all Dm.isDig = true) :
    Calls Tryd.prog 44 #[.string ⟨l.toArray⟩] w fun e w' => e = .returned (.int .i64 (Dm.numv l : Nat)) ∧ w = w' := by
  have HD := Lib.hid hd
  clear hd
  go_enter Tryd.func44, Tryd.ntmps44
  go_wp2
  go_loop [3, 4] (fun n i => ∃ k v : Nat, k ≤ l.length ∧ i = .int .i64 k ∧ n = .int .i64 v ∧ Hid (v = Dm.numv (l.take k))) (fun _ i => l.length - (intOf i).toNat)
  case atStart => exact ⟨0, 0, Nat.zero_le _, rfl, rfl, Lib.hid rfl⟩
  case round =>
    obtain ⟨k, v, hk, rfl, rfl, HV⟩ := hrel
    have hv : v < 10000000000 := by
      have hall : (l.take k).all Dm.isDig = true := by
        rw [List.all_eq_true]; intro c hc; exact List.all_eq_true.1 HD.out c (List.mem_of_mem_take hc)
      have := Dm.numv_lt (l.take k) hall
      rw [HV.out]
      have h5 : 10 ^ (l.take k).length ≤ 10 ^ 10 := Nat.pow_le_pow_right (by omega) (by simp; omega)
      omega
    by_cases hlt : k < l.length
    · have hmem := Dm.getD_mem l k hlt
      have HS := Lib.hid (Dm.take_snoc l k hlt)
      generalize hc : l.getD k 0 = c at *
      have hget := ba_at l k c hc
      have HC := Lib.hid hc
      obtain ⟨d1, d2⟩ := (Dm.isDig_iff c).1 (List.all_eq_true.1 HD.out c hmem)
      clear hc hmem
      go_wp2
      go_round
      case rel => exact ⟨k + 1, 10 * v + (c.toNat - 48), by omega, by go_num, congrArg (Value.int .i64) (by omega), Lib.hid (by rw [HS.out, Dm.numv_snoc, ← HV.out])⟩
      case measure => simp [intOf]; omega
    · go_wp2
      go_ret
      have e1 : l.take k = l := List.take_of_length_le (by omega)
      have e3 := HV.out
      rw [e1] at e3
      exact ⟨ret_int (by rw [e3]), rfl⟩
end Go.Proofs.YtlfhnldeidgkjaaDoor
