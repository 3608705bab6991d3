/-
  Facts that the walks rest on: BnRefP, CoRef, BnRefW, CuRefA. No conditions beyond those stated.
-/
import Derived.Test.YtcnmfgdeanbhoaaPart11
import Derived.Test.YtcnmfgdeanbhoaaPart08
import Derived.Test.YtcnmfgdeanbhoaaGround
import Derived.Test.YtcnmfgdeanbhoaaPart12
/-
  Contracts of the document's answers for layer 3: Power and One. No conditions beyond those stated.
-/
namespace Go.Proofs.Ytcnmfgdeanbhoaa
open Go.RowKit

set_option maxHeartbeats 400000 in
theorem rpower_any (n : Nat) (w : World) (hn : n ≤ 4) : Calls Try.prog 71 #[.int .i64 n] w fun e w' => e = .returned (.int .i64 (256 ^ n : Nat)) ∧ w = w' := by
  go_enter Try.func71, Try.ntmps71
  go_wp2_with fail
  go_loop [3, 4] (fun s i => ∃ k v : Nat, k ≤ n ∧ i = .int .i64 k ∧ s = .int .i64 v ∧ Hid (v = 256 ^ k)) (fun _ i => n - (intOf i).toNat)
  case atStart => exact ⟨0, 1, Nat.zero_le _, rfl, rfl, Lib.hid rfl⟩
  case round =>
    obtain ⟨k, v, hk, rfl, rfl, HV⟩ := hrel
    have hv : v ≤ 4294967296 := by
      rw [HV.out]
      exact Nat.le_trans (Nat.pow_le_pow_right (by omega) (show k ≤ 4 by omega)) (by decide)
    by_cases hlt : k < n
    · go_wp2_with fail
      go_round
      case rel => exact ⟨k + 1, 256 * v, by omega, by go_num, by go_num, Lib.hid (by rw [Nat.pow_succ, HV.out, Nat.mul_comm])⟩
      case measure => simp [intOf]; omega
    · obtain rfl : k = n := by omega
      go_wp2_with fail
      go_ret
      exact ⟨ret_int (by rw [HV.out]; simp), rfl⟩

set_option maxHeartbeats 800000 in
theorem rone_any (l : List UInt8) (size : Int) (w : World) (hl : l.length ≤ 4) :
    Calls Try.prog 61 #[.string ⟨l.toArray⟩, .int .i64 size] w fun e w' => e = .returned (.int .i64 (Bn.one l size)) ∧ w = w' := by
  generalize hy : Bn.one l size = y
  have HY := Lib.hid hy
  clear hy
  have HP := Lib.hid (fun W => rpower_any l.length W hl)
  have hP1 : 256 ^ l.length ≤ 4294967296 := Nat.le_trans (Nat.pow_le_pow_right (by omega) hl) (by decide)
  have HBE := Lib.hid (Bn.be_lt l)
  have HYD : Hid (y = if size < 0 ∧ 256 ^ l.length / 2 ≤ Bn.be l then (Bn.be l : Int) - ((256 ^ l.length : Nat) : Int) else (Bn.be l : Int)) := Lib.hid (by rw [← HY.out]; rfl)
  clear HY
  generalize 256 ^ l.length = P at *
  go_enter Try.func61, Try.ntmps61
  go_wp2_with fail
  go_loop [5, 6] (fun s i => ∃ k v : Nat, k ≤ l.length ∧ i = .int .i64 k ∧ s = .int .i64 v ∧ Hid (v = Bn.be (l.take k))) (fun _ i => l.length - (intOf i).toNat)
  case atStart => exact ⟨0, 0, Nat.zero_le _, rfl, rfl, Lib.hid rfl⟩
  case round =>
    obtain ⟨k, v, hk, rfl, rfl, HV⟩ := hrel
    have hv : v < 1099511627776 := by
      rw [HV.out]
      refine Nat.lt_of_lt_of_le (Bn.be_take_lt l k) (Nat.le_trans (Nat.pow_le_pow_right (by omega) (show k ≤ 5 by omega)) (by decide))
    by_cases hlt : k < l.length
    · have hc := ba_get l k
      have HB := Lib.hid (Bn.be_take l k hlt)
      generalize l.getD k 0 = c at *
      have hc2 : c.toNat < 256 := UInt8.toNat_lt c
      go_wp2_with fail
      go_round
      case rel => exact ⟨k + 1, 256 * v + c.toNat, by omega, by go_num, by go_num, Lib.hid (by rw [HB.out, HV.out])⟩
      case measure => simp [intOf]; omega
    · have HV2 : Hid (Bn.be l = v) := Lib.hid (by rw [HV.out, List.take_of_length_le (by omega)])
      have hy := HYD.out
      rw [HV2.out] at hy
      by_cases hs : size < 0
      · by_cases hc : P / 2 ≤ v
        · rw [if_pos ⟨hs, hc⟩] at hy
          have HY := Lib.hid hy
          clear hy HYD
          go_wp2_with fail
          refine (HP.out _).mono ?_
          rintro e w1 ⟨rfl, rfl⟩
          go_wp2_with fail
          refine (HP.out _).mono ?_
          rintro e w1 ⟨rfl, rfl⟩
          go_wp2_with fail
          go_ret
          exact ⟨ret_int (by rw [HY.out]), rfl⟩
        · rw [if_neg (fun h => hc h.2)] at hy
          have HY := Lib.hid hy
          clear hy HYD
          go_wp2_with fail
          refine (HP.out _).mono ?_
          rintro e w1 ⟨rfl, rfl⟩
          go_wp2_with fail
          go_ret
          exact ⟨ret_int (by rw [HY.out]), rfl⟩
      · rw [if_neg (fun h => hs h.1)] at hy
        have HY := Lib.hid hy
        clear hy HYD
        go_wp2_with fail
        go_ret
        exact ⟨ret_int (by rw [HY.out]), rfl⟩
end Go.Proofs.Ytcnmfgdeanbhoaa
/-
  Contracts of the document's answers for layer 12: Is, word. No conditions beyond those stated.
-/
namespace Go.Proofs.Ytcnmfgdeanbhoaa
open Go.RowKit

set_option maxHeartbeats 4000000 in
theorem ris12_any (v : Value) (l : List Int) (w : World) (h : Row w v l) (hn : l.length ≤ 1000000) :
    Calls Try.prog 43 #[v] w fun e w' => e = .returned (.bool (Co.isCov l)) ∧ Lo w w' := by
  obtain ⟨p, c, rfl, _⟩ := h.form
  have HR := Lib.hid h
  generalize hy : Co.isCov l = y
  have HY : Hid (Co.asc (-1) (l.drop 0) = y) := Lib.hid (by rw [List.drop_zero]; exact hy)
  generalize hN : l.length = n at *
  have HN := Lib.hid hN
  clear hN h hy
  go_enter Try.func43, Try.ntmps43
  go_wp2_with fail
  go_loopw [3] (fun i W => ∃ (k : Nat) (z : Int), k ≤ n ∧ i = .int .i64 k ∧ Hid (-1 ≤ z ∧ (k = 0 → z = -1) ∧ (0 < k → l.getD (k - 1) 0 = z)) ∧ Hid (Co.asc z (l.drop k) = y) ∧ Hid (Lo w W)) (fun i _ => n - (intOf i).toNat)
  case atStart => exact ⟨0, -1, Nat.zero_le _, rfl, Lib.hid ⟨by omega, fun _ => rfl, fun h => by omega⟩, HY, Lib.hid (Lo.refl _)⟩
  case round =>
    obtain ⟨k, z, hk, rfl, HZ, HI, HL⟩ := hrel
    by_cases hlt : k < n
    · have hrow := HR.out.lo HL.out
      obtain ⟨b, off, rfl, ck⟩ := hrow.at_ hlt
      have HS : Hid ((decide (z < l.getD k 0) && decide (l.getD k 0 ≤ 65534) && Co.asc (l.getD k 0) (l.drop (k + 1))) = y) := Lib.hid (by rw [← Co.asc_step (by rw [HN.out]; exact hlt)]; exact HI.out)
      have hk0 : (0 : Int) ≤ (k : Int) := by omega
      have hkn : (k : Int) < (n : Int) := by omega
      clear HI
      cases k with
      | zero =>
        have hz : z = -1 := HZ.out.2.1 rfl
        subst hz
        rw [Nat.add_zero] at ck
        clear hrow
        generalize hx : l.getD 0 0 = x at *
        have HX := Lib.hid hx
        clear hx HZ
        by_cases h1 : x < 0
        · have HF : Hid (y = false) := Lib.hid (by rw [← HS.out, decide_eq_false (show ¬ (-1 : Int) < x by omega)]; rfl)
          go_wp2_with fail
          go_quiet (fail)
          have HL2 := Lib.hid (HL.out.drewN nq)
          go_wp2_with fail
          go_ret
          exact ⟨ret_bool HF.out.symm, HL2.out⟩
        · by_cases h2 : 65534 < x
          · have HF : Hid (y = false) := Lib.hid (by rw [← HS.out, decide_eq_false (show ¬ x ≤ 65534 by omega), Bool.and_false]; rfl)
            have he1 : decide (x < 0) = false := decide_eq_false h1
            have he2 : decide (65534 < x) = true := decide_eq_true h2
            clear h1 h2
            go_wp2_with fail
            go_quiet (fail)
            have HL2 := Lib.hid (HL.out.drewN nq)
            go_wp2_with fail
            go_ret
            exact ⟨ret_bool HF.out.symm, HL2.out⟩
          · have HT : Hid (Co.asc x (l.drop (0 + 1)) = y) := Lib.hid (by rw [← HS.out, decide_eq_true (show (-1 : Int) < x by omega), decide_eq_true (show x ≤ 65534 by omega)]; rfl)
            have hx0 : -1 ≤ x := by omega
            have HZ4 : Hid (-1 ≤ x ∧ (0 + 1 = 0 → x = -1) ∧ (0 < 0 + 1 → l.getD (0 + 1 - 1) 0 = x)) := Lib.hid ⟨hx0, fun h => by omega, fun _ => HX.out⟩
            have he1 : decide (x < 0) = false := decide_eq_false h1
            have he2 : decide (65534 < x) = false := decide_eq_false h2
            clear h1 h2
            go_wp2_with fail
            go_quiet (fail)
            have HL2 := Lib.hid (HL.out.drewN nq)
            go_wp2_with fail
            go_roundw
            case rel => exact ⟨1, x, by omega, by go_num, HZ4, HT, HL2⟩
            case measure => simp [intOf]; omega
      | succ j =>
        obtain ⟨b', off', e1, cj⟩ := hrow.at_ (k := j) (by omega)
        simp only [Option.some.injEq, Addr.mk.injEq, and_true] at e1
        obtain ⟨rfl, rfl⟩ := e1
        have hzz : l.getD j 0 = z := HZ.out.2.2 (by omega)
        have hz1 : -1 ≤ z := HZ.out.1
        rw [hzz] at cj
        clear hrow hzz
        clear HZ
        generalize hq : j + 1 = q at *
        generalize hx : l.getD q 0 = x at *
        have HX := Lib.hid hx
        clear hx
        have hq1 : IntKind.i64.wrap ((q : Int) - 1) = (j : Int) := by rw [IntWalk.i64_in _ (by omega)]; omega
        have hq2 : decide (0 < q) = true := decide_eq_true (by omega)
        have hj0 : (0 : Int) ≤ (j : Int) := by omega
        have hjn : (j : Int) < (n : Int) := by omega
        have hjt : (q : Int) - 1 = (j : Int) := by omega
        have HQ := Lib.hid hq
        clear hq
        by_cases h1 : x < 0
        · have HF : Hid (y = false) := Lib.hid (by rw [← HS.out, decide_eq_false (show ¬ z < x by omega)]; rfl)
          go_wp2_with fail
          go_quiet (fail)
          have HL2 := Lib.hid (HL.out.drewN nq)
          go_wp2_with fail
          go_ret
          exact ⟨ret_bool HF.out.symm, HL2.out⟩
        · by_cases h2 : 65534 < x
          · have HF : Hid (y = false) := Lib.hid (by rw [← HS.out, decide_eq_false (show ¬ x ≤ 65534 by omega), Bool.and_false]; rfl)
            have he1 : decide (x < 0) = false := decide_eq_false h1
            have he2 : decide (65534 < x) = true := decide_eq_true h2
            clear h1 h2
            go_wp2_with fail
            go_quiet (fail)
            have HL2 := Lib.hid (HL.out.drewN nq)
            go_wp2_with fail
            go_ret
            exact ⟨ret_bool HF.out.symm, HL2.out⟩
          · by_cases h3 : x ≤ z
            · have HF : Hid (y = false) := Lib.hid (by rw [← HS.out, decide_eq_false (show ¬ z < x by omega)]; rfl)
              have he1 : decide (x < 0) = false := decide_eq_false h1
              have he2 : decide (65534 < x) = false := decide_eq_false h2
              have he3 : decide (x ≤ z) = true := decide_eq_true h3
              clear h1 h2 h3
              go_wp2_with fail
              go_quiet (fail)
              have HL2 := Lib.hid (HL.out.drewN nq)
              go_wp2_with fail
              go_ret
              exact ⟨ret_bool HF.out.symm, HL2.out⟩
            · have HT : Hid (Co.asc x (l.drop (q + 1)) = y) := Lib.hid (by rw [← HS.out, decide_eq_true (show z < x by omega), decide_eq_true (show x ≤ 65534 by omega)]; rfl)
              have hx0 : -1 ≤ x := by omega
              have HZ4 : Hid (-1 ≤ x ∧ (q + 1 = 0 → x = -1) ∧ (0 < q + 1 → l.getD (q + 1 - 1) 0 = x)) := Lib.hid ⟨hx0, fun h => by omega, fun _ => HX.out⟩
              have he1 : decide (x < 0) = false := decide_eq_false h1
              have he2 : decide (65534 < x) = false := decide_eq_false h2
              have he3 : decide (x ≤ z) = false := decide_eq_false h3
              clear h1 h2 h3
              go_wp2_with fail
              go_quiet (fail)
              have HL2 := Lib.hid (HL.out.drewN nq)
              go_wp2_with fail
              go_roundw
              case rel => exact ⟨q + 1, x, by omega, by go_num, HZ4, HT, HL2⟩
              case measure => simp [intOf]; omega
    · obtain rfl : k = n := by omega
      have HF : Hid (y = true) := Lib.hid (by rw [← HI.out, List.drop_of_length_le (by rw [HN.out]; omega)]; rfl)
      go_wp2_with fail
      go_ret
      exact ⟨ret_bool HF.out.symm, HL.out⟩

set_option maxHeartbeats 400000 in
theorem rword12_any (s : List UInt8) (p : Nat) (w : World) (h : p + 2 ≤ s.length) (hl : s.length ≤ 9223372036854775807) :
    Calls Try.prog 62 #[.string ⟨s.toArray⟩, .int .i64 (p : Int)] w fun e w' => e = .returned (.int .i64 (Co.word s p)) ∧ w = w' := by
  have HO := Lib.hid (fun W => rone_any ((s.drop p).take 2) 2 W (by rw [List.length_take]; omega))
  have hx : (⟨s.toArray⟩ : ByteArray).extract p (p + 2) = ⟨((s.drop p).take 2).toArray⟩ := by rw [Gk.extract_list, show p + 2 - p = 2 by omega]
  have h1 : (p : Int) + 2 ≤ (s.length : Int) := by omega
  go_enter Try.func62, Try.ntmps62
  go_wp2_with fail
  refine (HO.out _).mono ?_
  rintro e w' ⟨rfl, rfl⟩
  go_wp2_with fail
  go_ret
  exact ⟨rfl, rfl⟩

end Go.Proofs.Ytcnmfgdeanbhoaa
/-
  Contracts of the document's answers for layer 3: Wide, Fits of the references. No conditions beyond those stated.
-/
namespace Go.Proofs.Ytcnmfgdeanbhoaa
open Go.RowKit

set_option maxHeartbeats 400000 in
/-- Wide, of whatever number. -/
theorem rwide_some (n : Int) (w : World) : Calls Try.prog 73 #[.int .i64 n] w fun e w' => e = .returned (.int .i64 (if n < 0 then wrap64 (0 - n) else n)) ∧ w = w' := by
  by_cases h : n < 0
  · rw [if_pos h]
    go_enter Try.func73, Try.ntmps73
    go_wp2_with fail
    go_ret
    exact ⟨ret_int (by first | rfl | (congr 1; omega) | omega), rfl⟩
  · rw [if_neg h]
    go_enter Try.func73, Try.ntmps73
    go_wp2_with fail
    go_ret
    exact ⟨rfl, rfl⟩
theorem rwide_any (n : Int) (w : World) (h : Bn.isSize n = true) : Calls Try.prog 73 #[.int .i64 n] w fun e w' => e = .returned (.int .i64 n.natAbs) ∧ w = w' := by
  have hv : (if n < 0 then wrap64 (0 - n) else n) = (n.natAbs : Int) := by
    rw [Bn.isSize_iff] at h
    by_cases hn : n < 0
    · rw [if_pos hn, wrap_id (by omega) (by omega)]; omega
    · rw [if_neg hn]; omega
  rw [← hv]
  exact rwide_some n w

set_option maxHeartbeats 800000 in
theorem rfits_any (v n : Int) (w : World) (h : Bn.isSize n = true) :
    Calls Try.prog 46 #[.int .i64 v, .int .i64 n] w fun e w' => e = .returned (.bool (Bn.fits v n)) ∧ w = w' := by
  have HW := Lib.hid (fun W => rwide_any n W h)
  have HP := Lib.hid (fun W => rpower_any n.natAbs W (Bn.isSize_wide h).2)
  have hP1 : 256 ^ n.natAbs ≤ 4294967296 := Nat.le_trans (Nat.pow_le_pow_right (by omega) (Bn.isSize_wide h).2) (by decide)
  generalize hy : Bn.fits v n = y
  have HY := Lib.hid hy
  unfold Bn.fits at HY
  clear hy h
  generalize 256 ^ n.natAbs = P at *
  generalize n.natAbs = q at *
  have hq : ((P / 2 : Nat) : Int) = (P : Int) / 2 := by omega
  by_cases hn : n < 0
  · rw [if_pos hn, hq] at HY
    by_cases h1 : -((P : Int) / 2) ≤ v
    · by_cases h2 : v < (P : Int) / 2
      · have HYY : Hid (y = true) := Lib.hid (by rw [← HY.out]; simp [h1, h2])
        go_enter Try.func46, Try.ntmps46
        go_wp2_with fail
        refine (HW.out _).mono ?_
        rintro e w1 ⟨rfl, rfl⟩
        go_wp2_with fail
        refine (HP.out _).mono ?_
        rintro e w1 ⟨rfl, rfl⟩
        go_wp2_with fail
        go_ret
        exact ⟨ret_bool (by rw [HYY.out]; try (simp <;> omega)), rfl⟩
      · have HYY : Hid (y = false) := Lib.hid (by rw [← HY.out]; simp [h1]; omega)
        go_enter Try.func46, Try.ntmps46
        go_wp2_with fail
        refine (HW.out _).mono ?_
        rintro e w1 ⟨rfl, rfl⟩
        go_wp2_with fail
        refine (HP.out _).mono ?_
        rintro e w1 ⟨rfl, rfl⟩
        go_wp2_with fail
        go_ret
        exact ⟨ret_bool (by rw [HYY.out]; try (simp <;> omega)), rfl⟩
    · have HYY : Hid (y = false) := Lib.hid (by rw [← HY.out]; simp; omega)
      go_enter Try.func46, Try.ntmps46
      go_wp2_with fail
      refine (HW.out _).mono ?_
      rintro e w1 ⟨rfl, rfl⟩
      go_wp2_with fail
      refine (HP.out _).mono ?_
      rintro e w1 ⟨rfl, rfl⟩
      go_wp2_with fail
      go_ret
      exact ⟨ret_bool (by rw [HYY.out]; try (simp <;> omega)), rfl⟩
  · rw [if_neg hn] at HY
    by_cases h1 : 0 ≤ v
    · by_cases h2 : v < (P : Int)
      · have HYY : Hid (y = true) := Lib.hid (by rw [← HY.out]; simp [h1, h2])
        go_enter Try.func46, Try.ntmps46
        go_wp2_with fail
        refine (HW.out _).mono ?_
        rintro e w1 ⟨rfl, rfl⟩
        go_wp2_with fail
        refine (HP.out _).mono ?_
        rintro e w1 ⟨rfl, rfl⟩
        go_wp2_with fail
        go_ret
        exact ⟨ret_bool (by rw [HYY.out]; try (simp <;> omega)), rfl⟩
      · have HYY : Hid (y = false) := Lib.hid (by rw [← HY.out]; simp [h1]; omega)
        go_enter Try.func46, Try.ntmps46
        go_wp2_with fail
        refine (HW.out _).mono ?_
        rintro e w1 ⟨rfl, rfl⟩
        go_wp2_with fail
        refine (HP.out _).mono ?_
        rintro e w1 ⟨rfl, rfl⟩
        go_wp2_with fail
        go_ret
        exact ⟨ret_bool (by rw [HYY.out]; try (simp <;> omega)), rfl⟩
    · have HYY : Hid (y = false) := Lib.hid (by rw [← HY.out]; simp; omega)
      go_enter Try.func46, Try.ntmps46
      go_wp2_with fail
      refine (HW.out _).mono ?_
      rintro e w1 ⟨rfl, rfl⟩
      go_wp2_with fail
      refine (HP.out _).mono ?_
      rintro e w1 ⟨rfl, rfl⟩
      go_wp2_with fail
      go_ret
      exact ⟨ret_bool (by rw [HYY.out]; try (simp <;> omega)), rfl⟩
end Go.Proofs.Ytcnmfgdeanbhoaa
/-
  Contracts of the document's answers for layer 15: Is, At. No conditions beyond those stated.
-/
namespace Cu
open Bn He
theorem isS_bad1 {x : Stair} (h1 : x.1.length ≤ 64) (h : x.2.length = x.1.length + 1) {k : Nat} (hk : k < x.1.length) (hf : fits (x.1.getD k 0) (-2) = false) : isS x = false := by
  rw [isS_all h1 h, allS_bad hk hf]; simp
theorem isS_bad2 {x : Stair} (h1 : x.1.length ≤ 64) (h : x.2.length = x.1.length + 1) {k : Nat} (hk : k < x.2.length) (hf : fits (x.2.getD k 0) (-2) = false) : isS x = false := by
  rw [isS_all h1 h, allS_bad hk hf]; simp
theorem isS_bad3 {x : Stair} (h1 : x.1.length ≤ 64) (h : x.2.length = x.1.length + 1) {k : Nat} (hk : k + 1 < x.1.length) (hf : x.1.getD (k + 1) 0 ≤ x.1.getD k 0) : isS x = false := by
  rw [isS_all h1 h, inc_bad hk hf]; simp
theorem isS_ok {x : Stair} (h1 : x.1.length ≤ 64) (h : x.2.length = x.1.length + 1) (ha : ∀ i, i < x.1.length → fits (x.1.getD i 0) (-2) = true ∧ (0 < i → x.1.getD (i - 1) 0 < x.1.getD i 0)) (hb : ∀ i, i < x.2.length → fits (x.2.getD i 0) (-2) = true) : isS x = true := by
  rw [isS_all h1 h, allS_all fun i hi => (ha i hi).1, allS_all hb, inc_at.2 fun i hi => by simpa using (ha (i + 1) hi).2 (by omega)]; rfl
theorem isS_zero {x : Stair} (h2 : x.2.length = 0) : isS x = decide (x.1.length = 0) := by
  by_cases h : x.1.length = 0
  · rw [isS_none2 h h2, decide_eq_true h]
  · rw [isS_other (by omega) (by omega), decide_eq_false h]
/-- The count, one after another. -/
theorem cnt_snoc {h : List Int} {k : Nat} (v : Int) (hk : k < h.length) : cnt v (h.take (k + 1)) = cnt v (h.take k) + if h.getD k 0 ≤ v then 1 else 0 := by
  unfold cnt
  rw [takeI_snoc hk, List.filter_append, List.length_append]
  by_cases c : h.getD k 0 ≤ v
  · rw [if_pos c]; simp [-List.getD_eq_getElem?_getD, c]
  · rw [if_neg c]; simp [-List.getD_eq_getElem?_getD, c]
end Cu
namespace Go.Proofs.Ytcnmfgdeanbhoaa
open Go.RowKit

set_option maxHeartbeats 3200000 in
theorem rcuis_any (u v : Value) (x : Cu.Stair) (w : World) (h1 : Row w u x.1) (h2 : Row w v x.2) :
    Calls Try.prog 19 #[.agg #[u, v]] w fun e w' => e = .returned (.bool (Cu.isS x)) ∧ Lo w w' := by
  have HFi := Lib.hid (fun z W => rfits_any z (-2) W (by decide))
  obtain ⟨pu, cu, rfl, hm1⟩ := h1.form
  obtain ⟨pv, cv, rfl, hm2⟩ := h2.form
  have HR1 := Lib.hid h1
  have HR2 := Lib.hid h2
  by_cases hm : x.2.length = 0
  · rw [Cu.isS_zero hm]
    rw [hm] at HR2
    rw [hm]
    clear h1 h2 hm hm2
    generalize x.1.length = n at *
    by_cases hn : n = 0
    · subst hn
      go_enter Try.func19, Try.ntmps19
      go_wp2_with fail
      go_ret
      exact ⟨rfl, (Lo.refl w).alloc _⟩
    · have hb : ((n : Int) == 0) = false := by rw [beq_eq_false_iff_ne]; omega
      rw [decide_eq_false hn]
      go_enter Try.func19, Try.ntmps19
      go_wp2_with fail
      go_ret
      exact ⟨rfl, (Lo.refl w).alloc _⟩
  · by_cases hB : 64 < x.1.length
    · rw [Cu.isS_long hB]
      clear h1 h2 HR1 HR2
      generalize x.1.length = n at *
      generalize x.2.length = m at *
      have h0 : ((m : Int) == 0) = false := by rw [beq_eq_false_iff_ne]; omega
      have h64 : (64 : Int) < (n : Int) := by omega
      clear hB hm
      go_enter Try.func19, Try.ntmps19
      go_wp2_with fail
      go_ret
      exact ⟨ret_bool rfl, (Lo.refl w).alloc _⟩
    · by_cases hC : x.2.length = x.1.length + 1
      · have HB1 := Lib.hid (fun k hk hf => @Cu.isS_bad1 x (by omega) hC k hk hf)
        have HB2 := Lib.hid (fun k hk hf => @Cu.isS_bad2 x (by omega) hC k hk hf)
        have HB3 := Lib.hid (fun k hk hf => @Cu.isS_bad3 x (by omega) hC k hk hf)
        have HOk := Lib.hid (@Cu.isS_ok x (by omega) hC)
        rw [hC] at HB2 HOk HR2 hm2 ⊢
        generalize Cu.isS x = y at *
        have hn64 : x.1.length ≤ 64 := by omega
        have HN1 : Hid (x.1.length = x.1.length) := Lib.hid rfl
        have HN2 := Lib.hid hC
        obtain ⟨a, b⟩ := x
        dsimp only at *
        generalize hn : a.length = n at *
        have HNa := Lib.hid hn
        clear h1 h2 hn hB hC hm HN1
        go_enter Try.func19, Try.ntmps19
        have h0 : (((n + 1 : Nat) : Int) == 0) = false := by rw [beq_eq_false_iff_ne]; omega
        have h64 : ¬ (64 : Int) < (n : Int) := by omega
        go_wp2_with fail
        clear hm1 hm2
        generalize hw0 : w.alloc (.cells #[.slice pu n cu, .slice pv (n + 1) cv] 35) = w0
        have HX0 : Hid (w0.heap[w.heap.size]? = some (.cells #[.slice pu n cu, .slice pv (n + 1) cv] 35 (0, 0))) := Lib.hid (by rw [← hw0]; exact new_block w _)
        have HL0 : Hid (Lo w w0) := Lib.hid (by rw [← hw0]; exact (Lo.refl w).alloc _)
        clear hw0
        have HR10 := Lib.hid (HR1.out.lo HL0.out)
        have HR20 := Lib.hid (HR2.out.lo HL0.out)
        clear HR1 HR2
        go_loopw [3] (fun i W => ∃ (k : Nat), k ≤ n ∧ i = .int .i64 k ∧ Hid (∀ i, i < k → Bn.fits (a.getD i 0) (-2) = true ∧ (0 < i → a.getD (i - 1) 0 < a.getD i 0)) ∧ Hid (Lo w0 W)) (fun i _ => n - (intOf i).toNat)
        case atStart => exact ⟨0, by omega, rfl, Lib.hid (fun i h => by omega), Lib.hid (Lo.refl _)⟩
        case round =>
          obtain ⟨k, hk, rfl, HI, HL1⟩ := hrel
          obtain ⟨d0, d1⟩ := two_cells (lo_block HL1.out HX0.out)
          by_cases hlt : k < n
          · have hrow := HR10.out.lo HL1.out
            obtain ⟨b1, off1, rfl, ck⟩ := hrow.at_ (k := k) hlt
            have HB1k := Lib.hid (HB1.out k hlt)
            have HS : Hid (Bn.fits (a.getD k 0) (-2) = true → (0 < k → a.getD (k - 1) 0 < a.getD k 0) → ∀ i, i < k + 1 → Bn.fits (a.getD i 0) (-2) = true ∧ (0 < i → a.getD (i - 1) 0 < a.getD i 0)) := Lib.hid (fun h h2 i hi => by
              rcases Nat.lt_or_ge i k with h1 | h1
              · exact HI.out i h1
              · obtain rfl : i = k := by omega
                exact ⟨h, h2⟩)
            cases k with
            | zero =>
              rw [Nat.add_zero] at ck
              generalize a.getD 0 0 = z at *
              have HFk := Lib.hid (fun W => HFi.out z W)
              cases hf : Bn.fits z (-2) with
              | false =>
                have HF : Hid (y = false) := Lib.hid (HB1k.out hf)
                rw [hf] at HFk
                clear HS HB1k hf hrow
                go_wp2_with fail
                go_quiet (first | (go_at_call 46; exact quiet' (HFk.out _)))
                have HL2 := Lib.hid (HL1.out.drewN nq)
                go_wp2_with fail
                go_ret
                exact ⟨ret_bool HF.out.symm, HL0.out.trans HL2.out⟩
              | true =>
                have HI2 := Lib.hid (HS.out hf (fun h => by omega))
                rw [hf] at HFk
                clear HS HB1k hf hrow
                go_wp2_with fail
                go_quiet (first | (go_at_call 46; exact quiet' (HFk.out _)))
                have HL2 := Lib.hid (HL1.out.drewN nq)
                go_wp2_with fail
                go_roundw
                case rel => exact ⟨1, by omega, by go_num, HI2, HL2⟩
                case measure => simp [intOf]; omega
            | succ j =>
              obtain ⟨b', off', e1, cj⟩ := hrow.at_ (k := j) (by omega)
              simp only [Option.some.injEq, Addr.mk.injEq, and_true] at e1
              obtain ⟨rfl, rfl⟩ := e1
              have HB3k := Lib.hid (HB3.out j hlt)
              simp only [Nat.add_sub_cancel] at HS
              generalize a.getD j 0 = z0 at *
              generalize hq : j + 1 = q at *
              have hq1 : IntKind.i64.wrap ((q : Int) - 1) = (j : Int) := by rw [IntWalk.i64_in _ (by omega)]; omega
              have hq2 : decide (0 < q) = true := decide_eq_true (by omega)
              have hj0 : (0 : Int) ≤ (j : Int) := by omega
              have hjn : (j : Int) < (n : Int) := by omega
              have hjt : (q : Int) - 1 = (j : Int) := by omega
              clear hq
              generalize a.getD q 0 = z at *
              have HFk := Lib.hid (fun W => HFi.out z W)
              cases hf : Bn.fits z (-2) with
              | false =>
                have HF : Hid (y = false) := Lib.hid (HB1k.out hf)
                rw [hf] at HFk
                clear HS HB1k hf hrow HB3k
                go_wp2_with fail
                go_quiet (first | (go_at_call 46; exact quiet' (HFk.out _)))
                have HL2 := Lib.hid (HL1.out.drewN nq)
                go_wp2_with fail
                go_ret
                exact ⟨ret_bool HF.out.symm, HL0.out.trans HL2.out⟩
              | true =>
                rw [hf] at HFk
                by_cases h3 : z ≤ z0
                · have HF : Hid (y = false) := Lib.hid (HB3k.out h3)
                  have he3 : decide (z ≤ z0) = true := decide_eq_true h3
                  clear HS HB1k hf hrow HB3k h3
                  go_wp2_with fail
                  go_quiet (first | (go_at_call 46; exact quiet' (HFk.out _)))
                  have HL2 := Lib.hid (HL1.out.drewN nq)
                  go_wp2_with fail
                  go_ret
                  exact ⟨ret_bool HF.out.symm, HL0.out.trans HL2.out⟩
                · have HI2 := Lib.hid (HS.out hf (fun _ => by omega))
                  have he3 : decide (z ≤ z0) = false := decide_eq_false h3
                  clear HS HB1k hf hrow HB3k h3
                  go_wp2_with fail
                  go_quiet (first | (go_at_call 46; exact quiet' (HFk.out _)))
                  have HL2 := Lib.hid (HL1.out.drewN nq)
                  go_wp2_with fail
                  go_roundw
                  case rel => exact ⟨q + 1, by omega, by go_num, HI2, HL2⟩
                  case measure => simp [intOf]; omega
          · obtain rfl : k = n := by omega
            have HOk2 := Lib.hid (HOk.out HI.out)
            clear HI HB1 HB3 HOk hlt
            have HLw := Lib.hid (HL0.out.trans HL1.out)
            have HX1 := Lib.hid (lo_block HL1.out HX0.out)
            have HR21 := Lib.hid (HR20.out.lo HL1.out)
            clear HX0 HR10 HR20 HL1 HL0
            go_wp2_with fail
            go_loopw [4] (fun i W => ∃ (j : Nat), j ≤ k + 1 ∧ i = .int .i64 j ∧ Hid (∀ i, i < j → Bn.fits (b.getD i 0) (-2) = true) ∧ Hid (Lo wr W)) (fun i _ => k + 1 - (intOf i).toNat)
            case atStart => exact ⟨0, by omega, rfl, Lib.hid (fun i h => by omega), Lib.hid (Lo.refl _)⟩
            case round =>
              obtain ⟨j, hj, rfl, HI, HL2⟩ := hrel
              clear d0 d1
              obtain ⟨d0, d1⟩ := two_cells (lo_block HL2.out HX1.out)
              by_cases hlt : j < k + 1
              · obtain ⟨b1, off1, rfl, ck⟩ := (HR21.out.lo HL2.out).at_ (k := j) hlt
                have HB2k := Lib.hid (HB2.out j hlt)
                have HS : Hid (Bn.fits (b.getD j 0) (-2) = true → ∀ i, i < j + 1 → Bn.fits (b.getD i 0) (-2) = true) := Lib.hid (fun h i hi => by
                  rcases Nat.lt_or_ge i j with h1 | h1
                  · exact HI.out i h1
                  · obtain rfl : i = j := by omega
                    exact h)
                generalize b.getD j 0 = z at *
                have HFk := Lib.hid (fun W => HFi.out z W)
                cases hf : Bn.fits z (-2) with
                | false =>
                  have HF : Hid (y = false) := Lib.hid (HB2k.out hf)
                  rw [hf] at HFk
                  clear HS HB2k hf
                  go_wp2_with fail
                  refine (HFk.out _).mono ?_
                  rintro e w1 ⟨rfl, rfl⟩
                  go_wp2_with fail
                  go_ret
                  exact ⟨ret_bool HF.out.symm, HLw.out.trans HL2.out⟩
                | true =>
                  have HI2 := Lib.hid (HS.out hf)
                  rw [hf] at HFk
                  clear HS HB2k hf
                  go_wp2_with fail
                  refine (HFk.out _).mono ?_
                  rintro e w1 ⟨rfl, rfl⟩
                  go_wp2_with fail
                  go_roundw
                  case rel => exact ⟨j + 1, by omega, by go_num, HI2, HL2⟩
                  case measure => simp [intOf]; omega
              · obtain rfl : j = k + 1 := by omega
                have HF : Hid (y = true) := Lib.hid (HOk2.out HI.out)
                go_wp2_with fail
                go_ret
                exact ⟨ret_bool HF.out.symm, HLw.out.trans HL2.out⟩
      · rw [Cu.isS_other (by omega) hC]
        clear h1 h2 HR1 HR2
        generalize x.1.length = n at *
        generalize x.2.length = m at *
        have h0 : ((m : Int) == 0) = false := by rw [beq_eq_false_iff_ne]; omega
        have h64 : ¬ (64 : Int) < (n : Int) := by omega
        have hmn : ((m : Int) == (n : Int) + 1) = false := by rw [beq_eq_false_iff_ne]; omega
        have hn64 : n ≤ 64 := by omega
        clear hB hm hC
        go_enter Try.func19, Try.ntmps19
        go_wp2_with fail
        go_ret
        exact ⟨ret_bool rfl, (Lo.refl w).alloc _⟩
end Go.Proofs.Ytcnmfgdeanbhoaa
