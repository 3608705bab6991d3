/-
  The contract of the document's answer Parse of layer 2: it tells what the plain function reads from the left. No conditions.
-/
import Derived.Test.YtlfhnldeidgkjaaDoorDmRefText
import Derived.Test.YtlfhnldeidgkjaaDoorDmRParse
namespace Go.Proofs.YtlfhnldeidgkjaaDoor
open Go.RowKit

set_option maxHeartbeats 400000 in
theorem rp_nil (w : World) : Calls Tryd.prog 18 #[.string ⟨#[]⟩] w fun e w' => e = .returned (.tuple #[.int .i64 0, .int .i64 5]) ∧ w = w' := by
  have HD := Lib.hid (fun W => rdigits0 [] W (by simp))
  rw [show Dm.digs [] = 0 from rfl] at HD
  go_enter Tryd.func18, Tryd.ntmps18
  go_wp2_with fail
  refine (HD.out _).mono ?_
  rintro e w' ⟨rfl, rfl⟩
  go_wp2_with fail
  go_ret2
  exact ⟨rfl, rfl⟩

set_option maxHeartbeats 800000 in
theorem rp_short_true (l r : List UInt8) (n : Nat) (c0 : UInt8) (w : World) (hl : l.length ≤ 200) (h0 : 0 < l.length) (hg : l.getD 0 0 = c0) (hc : ((c0.toNat : Int) == 45) = true) (hx0 : (ByteArray.mk l.toArray).extract 1 l.length = ByteArray.mk r.toArray) (hrl : r.length ≤ 200) (hn : Dm.digs r = n) (hs : n < 1 ∨ 5 < n) :
    Calls Tryd.prog 18 #[.string ⟨l.toArray⟩] w fun e w' => e = .returned (.tuple #[.int .i64 0, .int .i64 5]) ∧ w = w' := by
  have hget0 := ba_at l 0 c0 hg
  have HD := Lib.hid (fun W => rdigits0 r W (by omega))
  rw [hn] at HD
  clear hg hn
  rcases hs with hs | hs
  all_goals
    (try have hs2 : 1 ≤ n := by omega)
    go_enter Tryd.func18, Tryd.ntmps18
    go_wp2_with fail
    refine (HD.out _).mono ?_
    rintro e w' ⟨rfl, rfl⟩
    go_wp2_with fail
    go_ret2
    exact ⟨rfl, rfl⟩

set_option maxHeartbeats 800000 in
theorem rp_dotshort_true (l r D R : List UInt8) (t : List UInt8) (n k : Nat) (c0 : UInt8) (w : World) (hl : l.length ≤ 200) (h0 : 0 < l.length) (hg : l.getD 0 0 = c0) (hc : ((c0.toNat : Int) == 45) = true) (hx0 : (ByteArray.mk l.toArray).extract 1 l.length = ByteArray.mk r.toArray) (hrl : r.length ≤ 200) (hn : Dm.digs r = n) (hn1 : 1 ≤ n) (hn5 : n ≤ 5) (hnr : n ≤ r.length) (hx1 : (ByteArray.mk r.toArray).extract 0 n = ByteArray.mk D.toArray) (hx2 : (ByteArray.mk r.toArray).extract n r.length = ByteArray.mk R.toArray) (hDl : D.length ≤ 5) (hDd : D.all Dm.isDig = true) (hRl : R.length ≤ 200) (hRt : R = 46 :: t) (hk : Dm.digs t = k) (hks : k < 1 ∨ 10 < k) :
    Calls Tryd.prog 18 #[.string ⟨l.toArray⟩] w fun e w' => e = .returned (.tuple #[.int .i64 0, .int .i64 5]) ∧ w = w' := by
  have hget0 := ba_at l 0 c0 hg
  have HD := Lib.hid (fun W => rdigits0 r W (by omega))
  rw [hn] at HD
  have HV := Lib.hid (fun W => rvalue_any D W (by omega) hDd)
  have hv : Dm.numv D < 100000 := by
    have := Dm.numv_lt D hDd
    have h5 : 10 ^ D.length ≤ 10 ^ 5 := Nat.pow_le_pow_right (by omega) hDl
    omega
  clear hDd
  generalize Dm.numv D = v at *
  have hR0 : 0 < R.length := by rw [hRt]; simp
  have hgetR := ba_at R 0 46 (by rw [hRt]; rfl)
  have HD1 := Lib.hid (fun W => rdigits1 46 t W (by have : R.length = t.length + 1 := by rw [hRt]; rfl
                                                    omega))
  rw [hk, ← hRt] at HD1
  clear hg hn hRt hk
  go_enter Tryd.func18, Tryd.ntmps18
  go_wp2_with fail
  refine (HD.out _).mono ?_
  rintro e w' ⟨rfl, rfl⟩
  go_wp2_with fail
  refine (HV.out _).mono ?_
  rintro e w' ⟨rfl, rfl⟩
  go_wp2_with fail
  refine (HD1.out _).mono ?_
  rintro e w' ⟨rfl, rfl⟩
  rcases hks with hks | hks
  all_goals
    (try have hks2 : 1 ≤ k := by omega)
    go_wp2_with fail
    go_ret2
    exact ⟨rfl, rfl⟩

set_option maxHeartbeats 800000 in
theorem rp_dotbad_true (l r D R : List UInt8) (t F Q : List UInt8) (n k : Nat) (c0 : UInt8) (w : World) (hl : l.length ≤ 200) (h0 : 0 < l.length) (hg : l.getD 0 0 = c0) (hc : ((c0.toNat : Int) == 45) = true) (hx0 : (ByteArray.mk l.toArray).extract 1 l.length = ByteArray.mk r.toArray) (hrl : r.length ≤ 200) (hn : Dm.digs r = n) (hn1 : 1 ≤ n) (hn5 : n ≤ 5) (hnr : n ≤ r.length) (hx1 : (ByteArray.mk r.toArray).extract 0 n = ByteArray.mk D.toArray) (hx2 : (ByteArray.mk r.toArray).extract n r.length = ByteArray.mk R.toArray) (hDl : D.length ≤ 5) (hDd : D.all Dm.isDig = true) (hRl : R.length ≤ 200) (hRt : R = 46 :: t) (hk : Dm.digs t = k) (hk1 : 1 ≤ k) (hk10 : k ≤ 10) (hkR : k + 1 ≤ R.length) (hx3 : (ByteArray.mk R.toArray).extract 1 (k + 1) = ByteArray.mk F.toArray) (hx4 : (ByteArray.mk R.toArray).extract (k + 1) R.length = ByteArray.mk Q.toArray) (hFl : F.length = k) (hFd : F.all Dm.isDig = true) (hQ : (Q == [112, 116]) = false) :
    Calls Tryd.prog 18 #[.string ⟨l.toArray⟩] w fun e w' => e = .returned (.tuple #[.int .i64 0, .int .i64 5]) ∧ w = w' := by
  have hget0 := ba_at l 0 c0 hg
  have HD := Lib.hid (fun W => rdigits0 r W (by omega))
  rw [hn] at HD
  have HV := Lib.hid (fun W => rvalue_any D W (by omega) hDd)
  have hv : Dm.numv D < 100000 := by
    have := Dm.numv_lt D hDd
    have h5 : 10 ^ D.length ≤ 10 ^ 5 := Nat.pow_le_pow_right (by omega) hDl
    omega
  clear hDd
  generalize Dm.numv D = v at *
  have hR0 : 0 < R.length := by rw [hRt]; simp
  have hgetR := ba_at R 0 46 (by rw [hRt]; rfl)
  have HD1 := Lib.hid (fun W => rdigits1 46 t W (by have : R.length = t.length + 1 := by rw [hRt]; rfl
                                                    omega))
  rw [hk, ← hRt] at HD1
  have HVF := Lib.hid (fun W => rvalue_any F W (by omega) hFd)
  have hfv : Dm.numv F < 10 ^ k := by have := Dm.numv_lt F hFd; rw [hFl] at this; exact this
  have hp10 := Dm.pow10_bd k hk10
  have HT := Lib.hid (fun W => rten_any k (10 ^ k) W hk10 rfl)
  have HSc := Lib.hid (fun W => rscaled_nearest (Dm.numv F) k (10 ^ k) W (by omega) rfl hk10)
  have hsc := Dm.scaled_le (Dm.numv F) k hfv
  have e1 : ((1 : Int) + k).toNat = k + 1 := by omega
  have e2 : IntKind.i64.wrap ((1 : Int) + k) = 1 + k := IntWalk.i64_in _ (by omega)
  have hdm : (65536 : Int) * (Dm.numv F : Int) = ((65536 * Dm.numv F : Nat) : Int) := by omega
  have hdb : 65536 * Dm.numv F ≤ 65536 * 10000000000 := by omega
  generalize Dm.scaled (Dm.numv F) k = g at *
  generalize 65536 * Dm.numv F = dm at *
  generalize Dm.numv F = fv at *
  generalize 10 ^ k = T at *
  clear hg hn hRt hk hFl hFd
  go_enter Tryd.func18, Tryd.ntmps18
  go_wp2_with fail
  refine (HD.out _).mono ?_
  rintro e w' ⟨rfl, rfl⟩
  go_wp2_with fail
  refine (HV.out _).mono ?_
  rintro e w' ⟨rfl, rfl⟩
  go_wp2_with fail
  refine (HD1.out _).mono ?_
  rintro e w' ⟨rfl, rfl⟩
  go_wp2_with fail
  refine (HVF.out _).mono ?_
  rintro e w' ⟨rfl, rfl⟩
  go_wp2_with fail
  refine (HT.out _).mono ?_
  rintro e w' ⟨rfl, rfl⟩
  go_wp2_with fail
  refine (HSc.out _).mono ?_
  rintro e w' ⟨rfl, rfl⟩
  go_wp2_with fail
  go_ret2
  exact ⟨rfl, rfl⟩

set_option maxHeartbeats 800000 in
theorem rp_dotok_true (l r D R : List UInt8) (t F Q : List UInt8) (n k : Nat) (c0 : UInt8) (w : World) (hl : l.length ≤ 200) (h0 : 0 < l.length) (hg : l.getD 0 0 = c0) (hc : ((c0.toNat : Int) == 45) = true) (hx0 : (ByteArray.mk l.toArray).extract 1 l.length = ByteArray.mk r.toArray) (hrl : r.length ≤ 200) (hn : Dm.digs r = n) (hn1 : 1 ≤ n) (hn5 : n ≤ 5) (hnr : n ≤ r.length) (hx1 : (ByteArray.mk r.toArray).extract 0 n = ByteArray.mk D.toArray) (hx2 : (ByteArray.mk r.toArray).extract n r.length = ByteArray.mk R.toArray) (hDl : D.length ≤ 5) (hDd : D.all Dm.isDig = true) (hRl : R.length ≤ 200) (hRt : R = 46 :: t) (hk : Dm.digs t = k) (hk1 : 1 ≤ k) (hk10 : k ≤ 10) (hkR : k + 1 ≤ R.length) (hx3 : (ByteArray.mk R.toArray).extract 1 (k + 1) = ByteArray.mk F.toArray) (hx4 : (ByteArray.mk R.toArray).extract (k + 1) R.length = ByteArray.mk Q.toArray) (hFl : F.length = k) (hFd : F.all Dm.isDig = true) (hQ : (Q == [112, 116]) = true) (y : Int) (hy : (if true = true then -((65536 * Dm.numv D + Dm.scaled (Dm.numv F) k : Nat) : Int) else ((65536 * Dm.numv D + Dm.scaled (Dm.numv F) k : Nat) : Int)) = y) (hyl : Fx.len y = true) :
    Calls Tryd.prog 18 #[.string ⟨l.toArray⟩] w fun e w' => e = .returned (.tuple #[.int .i64 y, .int .i64 0]) ∧ w = w' := by
  have hget0 := ba_at l 0 c0 hg
  have HD := Lib.hid (fun W => rdigits0 r W (by omega))
  rw [hn] at HD
  have HV := Lib.hid (fun W => rvalue_any D W (by omega) hDd)
  have hv : Dm.numv D < 100000 := by
    have := Dm.numv_lt D hDd
    have h5 : 10 ^ D.length ≤ 10 ^ 5 := Nat.pow_le_pow_right (by omega) hDl
    omega
  clear hDd
  have hR0 : 0 < R.length := by rw [hRt]; simp
  have hgetR := ba_at R 0 46 (by rw [hRt]; rfl)
  have HD1 := Lib.hid (fun W => rdigits1 46 t W (by have : R.length = t.length + 1 := by rw [hRt]; rfl
                                                    omega))
  rw [hk, ← hRt] at HD1
  have HVF := Lib.hid (fun W => rvalue_any F W (by omega) hFd)
  have hfv : Dm.numv F < 10 ^ k := by have := Dm.numv_lt F hFd; rw [hFl] at this; exact this
  have hp10 := Dm.pow10_bd k hk10
  have HT := Lib.hid (fun W => rten_any k (10 ^ k) W hk10 rfl)
  have HSc := Lib.hid (fun W => rscaled_nearest (Dm.numv F) k (10 ^ k) W (by omega) rfl hk10)
  have hsc := Dm.scaled_le (Dm.numv F) k hfv
  have e1 : ((1 : Int) + k).toNat = k + 1 := by omega
  have e2 : IntKind.i64.wrap ((1 : Int) + k) = 1 + k := IntWalk.i64_in _ (by omega)
  have hdm : (65536 : Int) * (Dm.numv F : Int) = ((65536 * Dm.numv F : Nat) : Int) := by omega
  have hdb : 65536 * Dm.numv F ≤ 65536 * 10000000000 := by omega
  have hyv : y = -((65536 * Dm.numv D + Dm.scaled (Dm.numv F) k : Nat) : Int) := by rw [← hy]; simp
  clear hy
  generalize Dm.numv D = v at *
  generalize Dm.scaled (Dm.numv F) k = g at *
  generalize 65536 * Dm.numv F = dm at *
  generalize Dm.numv F = fv at *
  generalize 10 ^ k = T at *
  have HL := Lib.hid hyl
  have HY := Lib.hid hyv
  clear hg hn hRt hk hFl hFd hyl hyv
  go_enter Tryd.func18, Tryd.ntmps18
  go_wp2_with fail
  refine (HD.out _).mono ?_
  rintro e w' ⟨rfl, rfl⟩
  go_wp2_with fail
  refine (HV.out _).mono ?_
  rintro e w' ⟨rfl, rfl⟩
  go_wp2_with fail
  refine (HD1.out _).mono ?_
  rintro e w' ⟨rfl, rfl⟩
  go_wp2_with fail
  refine (HVF.out _).mono ?_
  rintro e w' ⟨rfl, rfl⟩
  go_wp2_with fail
  refine (HT.out _).mono ?_
  rintro e w' ⟨rfl, rfl⟩
  go_wp2_with fail
  refine (HSc.out _).mono ?_
  rintro e w' ⟨rfl, rfl⟩
  go_wp2_with fail
  rw [show -(65536 * (v : Int) + g) = y by rw [HY.out]; omega]
  refine (rlen_any y _).mono ?_
  rw [HL.out]
  rintro e w' ⟨rfl, rfl⟩
  go_wp2_with fail
  go_ret2
  exact ⟨rfl, rfl⟩

set_option maxHeartbeats 800000 in
theorem rp_dotover_true (l r D R : List UInt8) (t F Q : List UInt8) (n k : Nat) (c0 : UInt8) (w : World) (hl : l.length ≤ 200) (h0 : 0 < l.length) (hg : l.getD 0 0 = c0) (hc : ((c0.toNat : Int) == 45) = true) (hx0 : (ByteArray.mk l.toArray).extract 1 l.length = ByteArray.mk r.toArray) (hrl : r.length ≤ 200) (hn : Dm.digs r = n) (hn1 : 1 ≤ n) (hn5 : n ≤ 5) (hnr : n ≤ r.length) (hx1 : (ByteArray.mk r.toArray).extract 0 n = ByteArray.mk D.toArray) (hx2 : (ByteArray.mk r.toArray).extract n r.length = ByteArray.mk R.toArray) (hDl : D.length ≤ 5) (hDd : D.all Dm.isDig = true) (hRl : R.length ≤ 200) (hRt : R = 46 :: t) (hk : Dm.digs t = k) (hk1 : 1 ≤ k) (hk10 : k ≤ 10) (hkR : k + 1 ≤ R.length) (hx3 : (ByteArray.mk R.toArray).extract 1 (k + 1) = ByteArray.mk F.toArray) (hx4 : (ByteArray.mk R.toArray).extract (k + 1) R.length = ByteArray.mk Q.toArray) (hFl : F.length = k) (hFd : F.all Dm.isDig = true) (hQ : (Q == [112, 116]) = true) (y : Int) (hy : (if true = true then -((65536 * Dm.numv D + Dm.scaled (Dm.numv F) k : Nat) : Int) else ((65536 * Dm.numv D + Dm.scaled (Dm.numv F) k : Nat) : Int)) = y) (hyl : Fx.len y = false) :
    Calls Tryd.prog 18 #[.string ⟨l.toArray⟩] w fun e w' => e = .returned (.tuple #[.int .i64 0, .int .i64 2]) ∧ w = w' := by
  have hget0 := ba_at l 0 c0 hg
  have HD := Lib.hid (fun W => rdigits0 r W (by omega))
  rw [hn] at HD
  have HV := Lib.hid (fun W => rvalue_any D W (by omega) hDd)
  have hv : Dm.numv D < 100000 := by
    have := Dm.numv_lt D hDd
    have h5 : 10 ^ D.length ≤ 10 ^ 5 := Nat.pow_le_pow_right (by omega) hDl
    omega
  clear hDd
  have hR0 : 0 < R.length := by rw [hRt]; simp
  have hgetR := ba_at R 0 46 (by rw [hRt]; rfl)
  have HD1 := Lib.hid (fun W => rdigits1 46 t W (by have : R.length = t.length + 1 := by rw [hRt]; rfl
                                                    omega))
  rw [hk, ← hRt] at HD1
  have HVF := Lib.hid (fun W => rvalue_any F W (by omega) hFd)
  have hfv : Dm.numv F < 10 ^ k := by have := Dm.numv_lt F hFd; rw [hFl] at this; exact this
  have hp10 := Dm.pow10_bd k hk10
  have HT := Lib.hid (fun W => rten_any k (10 ^ k) W hk10 rfl)
  have HSc := Lib.hid (fun W => rscaled_nearest (Dm.numv F) k (10 ^ k) W (by omega) rfl hk10)
  have hsc := Dm.scaled_le (Dm.numv F) k hfv
  have e1 : ((1 : Int) + k).toNat = k + 1 := by omega
  have e2 : IntKind.i64.wrap ((1 : Int) + k) = 1 + k := IntWalk.i64_in _ (by omega)
  have hdm : (65536 : Int) * (Dm.numv F : Int) = ((65536 * Dm.numv F : Nat) : Int) := by omega
  have hdb : 65536 * Dm.numv F ≤ 65536 * 10000000000 := by omega
  have hyv : y = -((65536 * Dm.numv D + Dm.scaled (Dm.numv F) k : Nat) : Int) := by rw [← hy]; simp
  clear hy
  generalize Dm.numv D = v at *
  generalize Dm.scaled (Dm.numv F) k = g at *
  generalize 65536 * Dm.numv F = dm at *
  generalize Dm.numv F = fv at *
  generalize 10 ^ k = T at *
  have HL := Lib.hid hyl
  have HY := Lib.hid hyv
  clear hg hn hRt hk hFl hFd hyl hyv
  go_enter Tryd.func18, Tryd.ntmps18
  go_wp2_with fail
  refine (HD.out _).mono ?_
  rintro e w' ⟨rfl, rfl⟩
  go_wp2_with fail
  refine (HV.out _).mono ?_
  rintro e w' ⟨rfl, rfl⟩
  go_wp2_with fail
  refine (HD1.out _).mono ?_
  rintro e w' ⟨rfl, rfl⟩
  go_wp2_with fail
  refine (HVF.out _).mono ?_
  rintro e w' ⟨rfl, rfl⟩
  go_wp2_with fail
  refine (HT.out _).mono ?_
  rintro e w' ⟨rfl, rfl⟩
  go_wp2_with fail
  refine (HSc.out _).mono ?_
  rintro e w' ⟨rfl, rfl⟩
  go_wp2_with fail
  rw [show -(65536 * (v : Int) + g) = y by rw [HY.out]; omega]
  refine (rlen_any y _).mono ?_
  rw [HL.out]
  rintro e w' ⟨rfl, rfl⟩
  go_wp2_with fail
  go_ret2
  exact ⟨rfl, rfl⟩

set_option maxHeartbeats 800000 in
theorem rp_bad_true (l r D R : List UInt8) (n : Nat) (c0 : UInt8) (w : World) (hl : l.length ≤ 200) (h0 : 0 < l.length) (hg : l.getD 0 0 = c0) (hc : ((c0.toNat : Int) == 45) = true) (hx0 : (ByteArray.mk l.toArray).extract 1 l.length = ByteArray.mk r.toArray) (hrl : r.length ≤ 200) (hn : Dm.digs r = n) (hn1 : 1 ≤ n) (hn5 : n ≤ 5) (hnr : n ≤ r.length) (hx1 : (ByteArray.mk r.toArray).extract 0 n = ByteArray.mk D.toArray) (hx2 : (ByteArray.mk r.toArray).extract n r.length = ByteArray.mk R.toArray) (hDl : D.length ≤ 5) (hDd : D.all Dm.isDig = true) (_hRl : R.length ≤ 200) (c : UInt8) (t : List UInt8) (hRt : R = c :: t) (hcne : ((c.toNat : Int) == 46) = false) (hQ : (R == [112, 116]) = false) :
    Calls Tryd.prog 18 #[.string ⟨l.toArray⟩] w fun e w' => e = .returned (.tuple #[.int .i64 0, .int .i64 5]) ∧ w = w' := by
  have hget0 := ba_at l 0 c0 hg
  have HD := Lib.hid (fun W => rdigits0 r W (by omega))
  rw [hn] at HD
  have HV := Lib.hid (fun W => rvalue_any D W (by omega) hDd)
  have hv : Dm.numv D < 100000 := by
    have := Dm.numv_lt D hDd
    have h5 : 10 ^ D.length ≤ 10 ^ 5 := Nat.pow_le_pow_right (by omega) hDl
    omega
  clear hDd
  generalize Dm.numv D = v at *
  have hR0 : 0 < R.length := by rw [hRt]; simp
  have hgetR := ba_at R 0 c (by rw [hRt]; rfl)
  clear hg hn hRt
  go_enter Tryd.func18, Tryd.ntmps18
  go_wp2_with fail
  refine (HD.out _).mono ?_
  rintro e w' ⟨rfl, rfl⟩
  go_wp2_with fail
  refine (HV.out _).mono ?_
  rintro e w' ⟨rfl, rfl⟩
  go_wp2_with fail
  go_ret2
  exact ⟨rfl, rfl⟩

set_option maxHeartbeats 800000 in
theorem rp_nonebad_true (l r D R : List UInt8) (n : Nat) (c0 : UInt8) (w : World) (hl : l.length ≤ 200) (h0 : 0 < l.length) (hg : l.getD 0 0 = c0) (hc : ((c0.toNat : Int) == 45) = true) (hx0 : (ByteArray.mk l.toArray).extract 1 l.length = ByteArray.mk r.toArray) (hrl : r.length ≤ 200) (hn : Dm.digs r = n) (hn1 : 1 ≤ n) (hn5 : n ≤ 5) (hnr : n ≤ r.length) (hx1 : (ByteArray.mk r.toArray).extract 0 n = ByteArray.mk D.toArray) (hx2 : (ByteArray.mk r.toArray).extract n r.length = ByteArray.mk R.toArray) (hDl : D.length ≤ 5) (hDd : D.all Dm.isDig = true) (hRl : R.length ≤ 200) (hRe : R = []) :
    Calls Tryd.prog 18 #[.string ⟨l.toArray⟩] w fun e w' => e = .returned (.tuple #[.int .i64 0, .int .i64 5]) ∧ w = w' := by
  have hget0 := ba_at l 0 c0 hg
  have HD := Lib.hid (fun W => rdigits0 r W (by omega))
  rw [hn] at HD
  have HV := Lib.hid (fun W => rvalue_any D W (by omega) hDd)
  have hv : Dm.numv D < 100000 := by
    have := Dm.numv_lt D hDd
    have h5 : 10 ^ D.length ≤ 10 ^ 5 := Nat.pow_le_pow_right (by omega) hDl
    omega
  clear hDd
  generalize Dm.numv D = v at *
  subst hRe
  clear hg hn
  go_enter Tryd.func18, Tryd.ntmps18
  go_wp2_with fail
  refine (HD.out _).mono ?_
  rintro e w' ⟨rfl, rfl⟩
  go_wp2_with fail
  refine (HV.out _).mono ?_
  rintro e w' ⟨rfl, rfl⟩
  go_wp2_with fail
  go_ret2
  exact ⟨rfl, rfl⟩

set_option maxHeartbeats 800000 in
theorem rp_ok_true (l r D R : List UInt8) (n : Nat) (c0 : UInt8) (w : World) (hl : l.length ≤ 200) (h0 : 0 < l.length) (hg : l.getD 0 0 = c0) (hc : ((c0.toNat : Int) == 45) = true) (hx0 : (ByteArray.mk l.toArray).extract 1 l.length = ByteArray.mk r.toArray) (hrl : r.length ≤ 200) (hn : Dm.digs r = n) (hn1 : 1 ≤ n) (hn5 : n ≤ 5) (hnr : n ≤ r.length) (hx1 : (ByteArray.mk r.toArray).extract 0 n = ByteArray.mk D.toArray) (hx2 : (ByteArray.mk r.toArray).extract n r.length = ByteArray.mk R.toArray) (hDl : D.length ≤ 5) (hDd : D.all Dm.isDig = true) (_hRl : R.length ≤ 200) (c : UInt8) (t : List UInt8) (hRt : R = c :: t) (hcne : ((c.toNat : Int) == 46) = false) (hQ : (R == [112, 116]) = true) (y : Int) (hy : (if true = true then -((65536 * Dm.numv D : Nat) : Int) else ((65536 * Dm.numv D : Nat) : Int)) = y) (hyl : Fx.len y = true) :
    Calls Tryd.prog 18 #[.string ⟨l.toArray⟩] w fun e w' => e = .returned (.tuple #[.int .i64 y, .int .i64 0]) ∧ w = w' := by
  have hget0 := ba_at l 0 c0 hg
  have HD := Lib.hid (fun W => rdigits0 r W (by omega))
  rw [hn] at HD
  have HV := Lib.hid (fun W => rvalue_any D W (by omega) hDd)
  have hv : Dm.numv D < 100000 := by
    have := Dm.numv_lt D hDd
    have h5 : 10 ^ D.length ≤ 10 ^ 5 := Nat.pow_le_pow_right (by omega) hDl
    omega
  clear hDd
  have hR0 : 0 < R.length := by rw [hRt]; simp
  have hgetR := ba_at R 0 c (by rw [hRt]; rfl)
  have hyv : y = -((65536 * Dm.numv D : Nat) : Int) := by rw [← hy]; simp
  clear hy
  generalize Dm.numv D = v at *
  have HL := Lib.hid hyl
  have HY := Lib.hid hyv
  clear hg hn hRt hyl hyv
  go_enter Tryd.func18, Tryd.ntmps18
  go_wp2_with fail
  refine (HD.out _).mono ?_
  rintro e w' ⟨rfl, rfl⟩
  go_wp2_with fail
  refine (HV.out _).mono ?_
  rintro e w' ⟨rfl, rfl⟩
  go_wp2_with fail
  rw [show -(65536 * (v : Int)) = y by rw [HY.out]; omega]
  refine (rlen_any y _).mono ?_
  rw [HL.out]
  rintro e w' ⟨rfl, rfl⟩
  go_wp2_with fail
  go_ret2
  exact ⟨rfl, rfl⟩

set_option maxHeartbeats 800000 in
theorem rp_over_true (l r D R : List UInt8) (n : Nat) (c0 : UInt8) (w : World) (hl : l.length ≤ 200) (h0 : 0 < l.length) (hg : l.getD 0 0 = c0) (hc : ((c0.toNat : Int) == 45) = true) (hx0 : (ByteArray.mk l.toArray).extract 1 l.length = ByteArray.mk r.toArray) (hrl : r.length ≤ 200) (hn : Dm.digs r = n) (hn1 : 1 ≤ n) (hn5 : n ≤ 5) (hnr : n ≤ r.length) (hx1 : (ByteArray.mk r.toArray).extract 0 n = ByteArray.mk D.toArray) (hx2 : (ByteArray.mk r.toArray).extract n r.length = ByteArray.mk R.toArray) (hDl : D.length ≤ 5) (hDd : D.all Dm.isDig = true) (_hRl : R.length ≤ 200) (c : UInt8) (t : List UInt8) (hRt : R = c :: t) (hcne : ((c.toNat : Int) == 46) = false) (hQ : (R == [112, 116]) = true) (y : Int) (hy : (if true = true then -((65536 * Dm.numv D : Nat) : Int) else ((65536 * Dm.numv D : Nat) : Int)) = y) (hyl : Fx.len y = false) :
    Calls Tryd.prog 18 #[.string ⟨l.toArray⟩] w fun e w' => e = .returned (.tuple #[.int .i64 0, .int .i64 2]) ∧ w = w' := by
  have hget0 := ba_at l 0 c0 hg
  have HD := Lib.hid (fun W => rdigits0 r W (by omega))
  rw [hn] at HD
  have HV := Lib.hid (fun W => rvalue_any D W (by omega) hDd)
  have hv : Dm.numv D < 100000 := by
    have := Dm.numv_lt D hDd
    have h5 : 10 ^ D.length ≤ 10 ^ 5 := Nat.pow_le_pow_right (by omega) hDl
    omega
  clear hDd
  have hR0 : 0 < R.length := by rw [hRt]; simp
  have hgetR := ba_at R 0 c (by rw [hRt]; rfl)
  have hyv : y = -((65536 * Dm.numv D : Nat) : Int) := by rw [← hy]; simp
  clear hy
  generalize Dm.numv D = v at *
  have HL := Lib.hid hyl
  have HY := Lib.hid hyv
  clear hg hn hRt hyl hyv
  go_enter Tryd.func18, Tryd.ntmps18
  go_wp2_with fail
  refine (HD.out _).mono ?_
  rintro e w' ⟨rfl, rfl⟩
  go_wp2_with fail
  refine (HV.out _).mono ?_
  rintro e w' ⟨rfl, rfl⟩
  go_wp2_with fail
  rw [show -(65536 * (v : Int)) = y by rw [HY.out]; omega]
  refine (rlen_any y _).mono ?_
  rw [HL.out]
  rintro e w' ⟨rfl, rfl⟩
  go_wp2_with fail
  go_ret2
  exact ⟨rfl, rfl⟩

set_option maxHeartbeats 800000 in
theorem rp_short_false (l : List UInt8) (n : Nat) (c0 : UInt8) (w : World) (hl : l.length ≤ 200) (h0 : 0 < l.length) (hg : l.getD 0 0 = c0) (hc : ((c0.toNat : Int) == 45) = false) (hn : Dm.digs l = n) (hs : n < 1 ∨ 5 < n) :
    Calls Tryd.prog 18 #[.string ⟨l.toArray⟩] w fun e w' => e = .returned (.tuple #[.int .i64 0, .int .i64 5]) ∧ w = w' := by
  have hget0 := ba_at l 0 c0 hg
  have HD := Lib.hid (fun W => rdigits0 l W (by omega))
  rw [hn] at HD
  clear hg hn
  rcases hs with hs | hs
  all_goals
    (try have hs2 : 1 ≤ n := by omega)
    go_enter Tryd.func18, Tryd.ntmps18
    go_wp2_with fail
    refine (HD.out _).mono ?_
    rintro e w' ⟨rfl, rfl⟩
    go_wp2_with fail
    go_ret2
    exact ⟨rfl, rfl⟩

set_option maxHeartbeats 800000 in
theorem rp_dotshort_false (l D R : List UInt8) (t : List UInt8) (n k : Nat) (c0 : UInt8) (w : World) (hl : l.length ≤ 200) (h0 : 0 < l.length) (hg : l.getD 0 0 = c0) (hc : ((c0.toNat : Int) == 45) = false) (hn : Dm.digs l = n) (hn1 : 1 ≤ n) (hn5 : n ≤ 5) (hnr : n ≤ l.length) (hx1 : (ByteArray.mk l.toArray).extract 0 n = ByteArray.mk D.toArray) (hx2 : (ByteArray.mk l.toArray).extract n l.length = ByteArray.mk R.toArray) (hDl : D.length ≤ 5) (hDd : D.all Dm.isDig = true) (hRl : R.length ≤ 200) (hRt : R = 46 :: t) (hk : Dm.digs t = k) (hks : k < 1 ∨ 10 < k) :
    Calls Tryd.prog 18 #[.string ⟨l.toArray⟩] w fun e w' => e = .returned (.tuple #[.int .i64 0, .int .i64 5]) ∧ w = w' := by
  have hget0 := ba_at l 0 c0 hg
  have HD := Lib.hid (fun W => rdigits0 l W (by omega))
  rw [hn] at HD
  have HV := Lib.hid (fun W => rvalue_any D W (by omega) hDd)
  have hv : Dm.numv D < 100000 := by
    have := Dm.numv_lt D hDd
    have h5 : 10 ^ D.length ≤ 10 ^ 5 := Nat.pow_le_pow_right (by omega) hDl
    omega
  clear hDd
  generalize Dm.numv D = v at *
  have hR0 : 0 < R.length := by rw [hRt]; simp
  have hgetR := ba_at R 0 46 (by rw [hRt]; rfl)
  have HD1 := Lib.hid (fun W => rdigits1 46 t W (by have : R.length = t.length + 1 := by rw [hRt]; rfl
                                                    omega))
  rw [hk, ← hRt] at HD1
  clear hg hn hRt hk
  go_enter Tryd.func18, Tryd.ntmps18
  go_wp2_with fail
  refine (HD.out _).mono ?_
  rintro e w' ⟨rfl, rfl⟩
  go_wp2_with fail
  refine (HV.out _).mono ?_
  rintro e w' ⟨rfl, rfl⟩
  go_wp2_with fail
  refine (HD1.out _).mono ?_
  rintro e w' ⟨rfl, rfl⟩
  rcases hks with hks | hks
  all_goals
    (try have hks2 : 1 ≤ k := by omega)
    go_wp2_with fail
    go_ret2
    exact ⟨rfl, rfl⟩

set_option maxHeartbeats 800000 in
theorem rp_dotbad_false (l D R : List UInt8) (t F Q : List UInt8) (n k : Nat) (c0 : UInt8) (w : World) (hl : l.length ≤ 200) (h0 : 0 < l.length) (hg : l.getD 0 0 = c0) (hc : ((c0.toNat : Int) == 45) = false) (hn : Dm.digs l = n) (hn1 : 1 ≤ n) (hn5 : n ≤ 5) (hnr : n ≤ l.length) (hx1 : (ByteArray.mk l.toArray).extract 0 n = ByteArray.mk D.toArray) (hx2 : (ByteArray.mk l.toArray).extract n l.length = ByteArray.mk R.toArray) (hDl : D.length ≤ 5) (hDd : D.all Dm.isDig = true) (hRl : R.length ≤ 200) (hRt : R = 46 :: t) (hk : Dm.digs t = k) (hk1 : 1 ≤ k) (hk10 : k ≤ 10) (hkR : k + 1 ≤ R.length) (hx3 : (ByteArray.mk R.toArray).extract 1 (k + 1) = ByteArray.mk F.toArray) (hx4 : (ByteArray.mk R.toArray).extract (k + 1) R.length = ByteArray.mk Q.toArray) (hFl : F.length = k) (hFd : F.all Dm.isDig = true) (hQ : (Q == [112, 116]) = false) :
    Calls Tryd.prog 18 #[.string ⟨l.toArray⟩] w fun e w' => e = .returned (.tuple #[.int .i64 0, .int .i64 5]) ∧ w = w' := by
  have hget0 := ba_at l 0 c0 hg
  have HD := Lib.hid (fun W => rdigits0 l W (by omega))
  rw [hn] at HD
  have HV := Lib.hid (fun W => rvalue_any D W (by omega) hDd)
  have hv : Dm.numv D < 100000 := by
    have := Dm.numv_lt D hDd
    have h5 : 10 ^ D.length ≤ 10 ^ 5 := Nat.pow_le_pow_right (by omega) hDl
    omega
  clear hDd
  generalize Dm.numv D = v at *
  have hR0 : 0 < R.length := by rw [hRt]; simp
  have hgetR := ba_at R 0 46 (by rw [hRt]; rfl)
  have HD1 := Lib.hid (fun W => rdigits1 46 t W (by have : R.length = t.length + 1 := by rw [hRt]; rfl
                                                    omega))
  rw [hk, ← hRt] at HD1
  have HVF := Lib.hid (fun W => rvalue_any F W (by omega) hFd)
  have hfv : Dm.numv F < 10 ^ k := by have := Dm.numv_lt F hFd; rw [hFl] at this; exact this
  have hp10 := Dm.pow10_bd k hk10
  have HT := Lib.hid (fun W => rten_any k (10 ^ k) W hk10 rfl)
  have HSc := Lib.hid (fun W => rscaled_nearest (Dm.numv F) k (10 ^ k) W (by omega) rfl hk10)
  have hsc := Dm.scaled_le (Dm.numv F) k hfv
  have e1 : ((1 : Int) + k).toNat = k + 1 := by omega
  have e2 : IntKind.i64.wrap ((1 : Int) + k) = 1 + k := IntWalk.i64_in _ (by omega)
  have hdm : (65536 : Int) * (Dm.numv F : Int) = ((65536 * Dm.numv F : Nat) : Int) := by omega
  have hdb : 65536 * Dm.numv F ≤ 65536 * 10000000000 := by omega
  generalize Dm.scaled (Dm.numv F) k = g at *
  generalize 65536 * Dm.numv F = dm at *
  generalize Dm.numv F = fv at *
  generalize 10 ^ k = T at *
  clear hg hn hRt hk hFl hFd
  go_enter Tryd.func18, Tryd.ntmps18
  go_wp2_with fail
  refine (HD.out _).mono ?_
  rintro e w' ⟨rfl, rfl⟩
  go_wp2_with fail
  refine (HV.out _).mono ?_
  rintro e w' ⟨rfl, rfl⟩
  go_wp2_with fail
  refine (HD1.out _).mono ?_
  rintro e w' ⟨rfl, rfl⟩
  go_wp2_with fail
  refine (HVF.out _).mono ?_
  rintro e w' ⟨rfl, rfl⟩
  go_wp2_with fail
  refine (HT.out _).mono ?_
  rintro e w' ⟨rfl, rfl⟩
  go_wp2_with fail
  refine (HSc.out _).mono ?_
  rintro e w' ⟨rfl, rfl⟩
  go_wp2_with fail
  go_ret2
  exact ⟨rfl, rfl⟩

set_option maxHeartbeats 800000 in
theorem rp_dotok_false (l D R : List UInt8) (t F Q : List UInt8) (n k : Nat) (c0 : UInt8) (w : World) (hl : l.length ≤ 200) (h0 : 0 < l.length) (hg : l.getD 0 0 = c0) (hc : ((c0.toNat : Int) == 45) = false) (hn : Dm.digs l = n) (hn1 : 1 ≤ n) (hn5 : n ≤ 5) (hnr : n ≤ l.length) (hx1 : (ByteArray.mk l.toArray).extract 0 n = ByteArray.mk D.toArray) (hx2 : (ByteArray.mk l.toArray).extract n l.length = ByteArray.mk R.toArray) (hDl : D.length ≤ 5) (hDd : D.all Dm.isDig = true) (hRl : R.length ≤ 200) (hRt : R = 46 :: t) (hk : Dm.digs t = k) (hk1 : 1 ≤ k) (hk10 : k ≤ 10) (hkR : k + 1 ≤ R.length) (hx3 : (ByteArray.mk R.toArray).extract 1 (k + 1) = ByteArray.mk F.toArray) (hx4 : (ByteArray.mk R.toArray).extract (k + 1) R.length = ByteArray.mk Q.toArray) (hFl : F.length = k) (hFd : F.all Dm.isDig = true) (hQ : (Q == [112, 116]) = true) (y : Int) (hy : (if false = true then -((65536 * Dm.numv D + Dm.scaled (Dm.numv F) k : Nat) : Int) else ((65536 * Dm.numv D + Dm.scaled (Dm.numv F) k : Nat) : Int)) = y) (hyl : Fx.len y = true) :
    Calls Tryd.prog 18 #[.string ⟨l.toArray⟩] w fun e w' => e = .returned (.tuple #[.int .i64 y, .int .i64 0]) ∧ w = w' := by
  have hget0 := ba_at l 0 c0 hg
  have HD := Lib.hid (fun W => rdigits0 l W (by omega))
  rw [hn] at HD
  have HV := Lib.hid (fun W => rvalue_any D W (by omega) hDd)
  have hv : Dm.numv D < 100000 := by
    have := Dm.numv_lt D hDd
    have h5 : 10 ^ D.length ≤ 10 ^ 5 := Nat.pow_le_pow_right (by omega) hDl
    omega
  clear hDd
  have hR0 : 0 < R.length := by rw [hRt]; simp
  have hgetR := ba_at R 0 46 (by rw [hRt]; rfl)
  have HD1 := Lib.hid (fun W => rdigits1 46 t W (by have : R.length = t.length + 1 := by rw [hRt]; rfl
                                                    omega))
  rw [hk, ← hRt] at HD1
  have HVF := Lib.hid (fun W => rvalue_any F W (by omega) hFd)
  have hfv : Dm.numv F < 10 ^ k := by have := Dm.numv_lt F hFd; rw [hFl] at this; exact this
  have hp10 := Dm.pow10_bd k hk10
  have HT := Lib.hid (fun W => rten_any k (10 ^ k) W hk10 rfl)
  have HSc := Lib.hid (fun W => rscaled_nearest (Dm.numv F) k (10 ^ k) W (by omega) rfl hk10)
  have hsc := Dm.scaled_le (Dm.numv F) k hfv
  have e1 : ((1 : Int) + k).toNat = k + 1 := by omega
  have e2 : IntKind.i64.wrap ((1 : Int) + k) = 1 + k := IntWalk.i64_in _ (by omega)
  have hdm : (65536 : Int) * (Dm.numv F : Int) = ((65536 * Dm.numv F : Nat) : Int) := by omega
  have hdb : 65536 * Dm.numv F ≤ 65536 * 10000000000 := by omega
  have hyv : y = ((65536 * Dm.numv D + Dm.scaled (Dm.numv F) k : Nat) : Int) := by rw [← hy]; simp
  clear hy
  generalize Dm.numv D = v at *
  generalize Dm.scaled (Dm.numv F) k = g at *
  generalize 65536 * Dm.numv F = dm at *
  generalize Dm.numv F = fv at *
  generalize 10 ^ k = T at *
  have HL := Lib.hid hyl
  have HY := Lib.hid hyv
  clear hg hn hRt hk hFl hFd hyl hyv
  go_enter Tryd.func18, Tryd.ntmps18
  go_wp2_with fail
  refine (HD.out _).mono ?_
  rintro e w' ⟨rfl, rfl⟩
  go_wp2_with fail
  refine (HV.out _).mono ?_
  rintro e w' ⟨rfl, rfl⟩
  go_wp2_with fail
  refine (HD1.out _).mono ?_
  rintro e w' ⟨rfl, rfl⟩
  go_wp2_with fail
  refine (HVF.out _).mono ?_
  rintro e w' ⟨rfl, rfl⟩
  go_wp2_with fail
  refine (HT.out _).mono ?_
  rintro e w' ⟨rfl, rfl⟩
  go_wp2_with fail
  refine (HSc.out _).mono ?_
  rintro e w' ⟨rfl, rfl⟩
  go_wp2_with fail
  rw [show 65536 * (v : Int) + g = y by rw [HY.out]; omega]
  refine (rlen_any y _).mono ?_
  rw [HL.out]
  rintro e w' ⟨rfl, rfl⟩
  go_wp2_with fail
  go_ret2
  exact ⟨rfl, rfl⟩

set_option maxHeartbeats 800000 in
theorem rp_dotover_false (l D R : List UInt8) (t F Q : List UInt8) (n k : Nat) (c0 : UInt8) (w : World) (hl : l.length ≤ 200) (h0 : 0 < l.length) (hg : l.getD 0 0 = c0) (hc : ((c0.toNat : Int) == 45) = false) (hn : Dm.digs l = n) (hn1 : 1 ≤ n) (hn5 : n ≤ 5) (hnr : n ≤ l.length) (hx1 : (ByteArray.mk l.toArray).extract 0 n = ByteArray.mk D.toArray) (hx2 : (ByteArray.mk l.toArray).extract n l.length = ByteArray.mk R.toArray) (hDl : D.length ≤ 5) (hDd : D.all Dm.isDig = true) (hRl : R.length ≤ 200) (hRt : R = 46 :: t) (hk : Dm.digs t = k) (hk1 : 1 ≤ k) (hk10 : k ≤ 10) (hkR : k + 1 ≤ R.length) (hx3 : (ByteArray.mk R.toArray).extract 1 (k + 1) = ByteArray.mk F.toArray) (hx4 : (ByteArray.mk R.toArray).extract (k + 1) R.length = ByteArray.mk Q.toArray) (hFl : F.length = k) (hFd : F.all Dm.isDig = true) (hQ : (Q == [112, 116]) = true) (y : Int) (hy : (if false = true then -((65536 * Dm.numv D + Dm.scaled (Dm.numv F) k : Nat) : Int) else ((65536 * Dm.numv D + Dm.scaled (Dm.numv F) k : Nat) : Int)) = y) (hyl : Fx.len y = false) :
    Calls Tryd.prog 18 #[.string ⟨l.toArray⟩] w fun e w' => e = .returned (.tuple #[.int .i64 0, .int .i64 2]) ∧ w = w' := by
  have hget0 := ba_at l 0 c0 hg
  have HD := Lib.hid (fun W => rdigits0 l W (by omega))
  rw [hn] at HD
  have HV := Lib.hid (fun W => rvalue_any D W (by omega) hDd)
  have hv : Dm.numv D < 100000 := by
    have := Dm.numv_lt D hDd
    have h5 : 10 ^ D.length ≤ 10 ^ 5 := Nat.pow_le_pow_right (by omega) hDl
    omega
  clear hDd
  have hR0 : 0 < R.length := by rw [hRt]; simp
  have hgetR := ba_at R 0 46 (by rw [hRt]; rfl)
  have HD1 := Lib.hid (fun W => rdigits1 46 t W (by have : R.length = t.length + 1 := by rw [hRt]; rfl
                                                    omega))
  rw [hk, ← hRt] at HD1
  have HVF := Lib.hid (fun W => rvalue_any F W (by omega) hFd)
  have hfv : Dm.numv F < 10 ^ k := by have := Dm.numv_lt F hFd; rw [hFl] at this; exact this
  have hp10 := Dm.pow10_bd k hk10
  have HT := Lib.hid (fun W => rten_any k (10 ^ k) W hk10 rfl)
  have HSc := Lib.hid (fun W => rscaled_nearest (Dm.numv F) k (10 ^ k) W (by omega) rfl hk10)
  have hsc := Dm.scaled_le (Dm.numv F) k hfv
  have e1 : ((1 : Int) + k).toNat = k + 1 := by omega
  have e2 : IntKind.i64.wrap ((1 : Int) + k) = 1 + k := IntWalk.i64_in _ (by omega)
  have hdm : (65536 : Int) * (Dm.numv F : Int) = ((65536 * Dm.numv F : Nat) : Int) := by omega
  have hdb : 65536 * Dm.numv F ≤ 65536 * 10000000000 := by omega
  have hyv : y = ((65536 * Dm.numv D + Dm.scaled (Dm.numv F) k : Nat) : Int) := by rw [← hy]; simp
  clear hy
  generalize Dm.numv D = v at *
  generalize Dm.scaled (Dm.numv F) k = g at *
  generalize 65536 * Dm.numv F = dm at *
  generalize Dm.numv F = fv at *
  generalize 10 ^ k = T at *
  have HL := Lib.hid hyl
  have HY := Lib.hid hyv
  clear hg hn hRt hk hFl hFd hyl hyv
  go_enter Tryd.func18, Tryd.ntmps18
  go_wp2_with fail
  refine (HD.out _).mono ?_
  rintro e w' ⟨rfl, rfl⟩
  go_wp2_with fail
  refine (HV.out _).mono ?_
  rintro e w' ⟨rfl, rfl⟩
  go_wp2_with fail
  refine (HD1.out _).mono ?_
  rintro e w' ⟨rfl, rfl⟩
  go_wp2_with fail
  refine (HVF.out _).mono ?_
  rintro e w' ⟨rfl, rfl⟩
  go_wp2_with fail
  refine (HT.out _).mono ?_
  rintro e w' ⟨rfl, rfl⟩
  go_wp2_with fail
  refine (HSc.out _).mono ?_
  rintro e w' ⟨rfl, rfl⟩
  go_wp2_with fail
  rw [show 65536 * (v : Int) + g = y by rw [HY.out]; omega]
  refine (rlen_any y _).mono ?_
  rw [HL.out]
  rintro e w' ⟨rfl, rfl⟩
  go_wp2_with fail
  go_ret2
  exact ⟨rfl, rfl⟩

set_option maxHeartbeats 800000 in
theorem rp_bad_false (l D R : List UInt8) (n : Nat) (c0 : UInt8) (w : World) (hl : l.length ≤ 200) (h0 : 0 < l.length) (hg : l.getD 0 0 = c0) (hc : ((c0.toNat : Int) == 45) = false) (hn : Dm.digs l = n) (hn1 : 1 ≤ n) (hn5 : n ≤ 5) (hnr : n ≤ l.length) (hx1 : (ByteArray.mk l.toArray).extract 0 n = ByteArray.mk D.toArray) (hx2 : (ByteArray.mk l.toArray).extract n l.length = ByteArray.mk R.toArray) (hDl : D.length ≤ 5) (hDd : D.all Dm.isDig = true) (_hRl : R.length ≤ 200) (c : UInt8) (t : List UInt8) (hRt : R = c :: t) (hcne : ((c.toNat : Int) == 46) = false) (hQ : (R == [112, 116]) = false) :
    Calls Tryd.prog 18 #[.string ⟨l.toArray⟩] w fun e w' => e = .returned (.tuple #[.int .i64 0, .int .i64 5]) ∧ w = w' := by
  have hget0 := ba_at l 0 c0 hg
  have HD := Lib.hid (fun W => rdigits0 l W (by omega))
  rw [hn] at HD
  have HV := Lib.hid (fun W => rvalue_any D W (by omega) hDd)
  have hv : Dm.numv D < 100000 := by
    have := Dm.numv_lt D hDd
    have h5 : 10 ^ D.length ≤ 10 ^ 5 := Nat.pow_le_pow_right (by omega) hDl
    omega
  clear hDd
  generalize Dm.numv D = v at *
  have hR0 : 0 < R.length := by rw [hRt]; simp
  have hgetR := ba_at R 0 c (by rw [hRt]; rfl)
  clear hg hn hRt
  go_enter Tryd.func18, Tryd.ntmps18
  go_wp2_with fail
  refine (HD.out _).mono ?_
  rintro e w' ⟨rfl, rfl⟩
  go_wp2_with fail
  refine (HV.out _).mono ?_
  rintro e w' ⟨rfl, rfl⟩
  go_wp2_with fail
  go_ret2
  exact ⟨rfl, rfl⟩

set_option maxHeartbeats 800000 in
theorem rp_nonebad_false (l D R : List UInt8) (n : Nat) (c0 : UInt8) (w : World) (hl : l.length ≤ 200) (h0 : 0 < l.length) (hg : l.getD 0 0 = c0) (hc : ((c0.toNat : Int) == 45) = false) (hn : Dm.digs l = n) (hn1 : 1 ≤ n) (hn5 : n ≤ 5) (hnr : n ≤ l.length) (hx1 : (ByteArray.mk l.toArray).extract 0 n = ByteArray.mk D.toArray) (hx2 : (ByteArray.mk l.toArray).extract n l.length = ByteArray.mk R.toArray) (hDl : D.length ≤ 5) (hDd : D.all Dm.isDig = true) (hRl : R.length ≤ 200) (hRe : R = []) :
    Calls Tryd.prog 18 #[.string ⟨l.toArray⟩] w fun e w' => e = .returned (.tuple #[.int .i64 0, .int .i64 5]) ∧ w = w' := by
  have hget0 := ba_at l 0 c0 hg
  have HD := Lib.hid (fun W => rdigits0 l W (by omega))
  rw [hn] at HD
  have HV := Lib.hid (fun W => rvalue_any D W (by omega) hDd)
  have hv : Dm.numv D < 100000 := by
    have := Dm.numv_lt D hDd
    have h5 : 10 ^ D.length ≤ 10 ^ 5 := Nat.pow_le_pow_right (by omega) hDl
    omega
  clear hDd
  generalize Dm.numv D = v at *
  subst hRe
  clear hg hn
  go_enter Tryd.func18, Tryd.ntmps18
  go_wp2_with fail
  refine (HD.out _).mono ?_
  rintro e w' ⟨rfl, rfl⟩
  go_wp2_with fail
  refine (HV.out _).mono ?_
  rintro e w' ⟨rfl, rfl⟩
  go_wp2_with fail
  go_ret2
  exact ⟨rfl, rfl⟩

set_option maxHeartbeats 800000 in
theorem rp_ok_false (l D R : List UInt8) (n : Nat) (c0 : UInt8) (w : World) (hl : l.length ≤ 200) (h0 : 0 < l.length) (hg : l.getD 0 0 = c0) (hc : ((c0.toNat : Int) == 45) = false) (hn : Dm.digs l = n) (hn1 : 1 ≤ n) (hn5 : n ≤ 5) (hnr : n ≤ l.length) (hx1 : (ByteArray.mk l.toArray).extract 0 n = ByteArray.mk D.toArray) (hx2 : (ByteArray.mk l.toArray).extract n l.length = ByteArray.mk R.toArray) (hDl : D.length ≤ 5) (hDd : D.all Dm.isDig = true) (_hRl : R.length ≤ 200) (c : UInt8) (t : List UInt8) (hRt : R = c :: t) (hcne : ((c.toNat : Int) == 46) = false) (hQ : (R == [112, 116]) = true) (y : Int) (hy : (if false = true then -((65536 * Dm.numv D : Nat) : Int) else ((65536 * Dm.numv D : Nat) : Int)) = y) (hyl : Fx.len y = true) :
    Calls Tryd.prog 18 #[.string ⟨l.toArray⟩] w fun e w' => e = .returned (.tuple #[.int .i64 y, .int .i64 0]) ∧ w = w' := by
  have hget0 := ba_at l 0 c0 hg
  have HD := Lib.hid (fun W => rdigits0 l W (by omega))
  rw [hn] at HD
  have HV := Lib.hid (fun W => rvalue_any D W (by omega) hDd)
  have hv : Dm.numv D < 100000 := by
    have := Dm.numv_lt D hDd
    have h5 : 10 ^ D.length ≤ 10 ^ 5 := Nat.pow_le_pow_right (by omega) hDl
    omega
  clear hDd
  have hR0 : 0 < R.length := by rw [hRt]; simp
  have hgetR := ba_at R 0 c (by rw [hRt]; rfl)
  have hyv : y = ((65536 * Dm.numv D : Nat) : Int) := by rw [← hy]; simp
  clear hy
  generalize Dm.numv D = v at *
  have HL := Lib.hid hyl
  have HY := Lib.hid hyv
  clear hg hn hRt hyl hyv
  go_enter Tryd.func18, Tryd.ntmps18
  go_wp2_with fail
  refine (HD.out _).mono ?_
  rintro e w' ⟨rfl, rfl⟩
  go_wp2_with fail
  refine (HV.out _).mono ?_
  rintro e w' ⟨rfl, rfl⟩
  go_wp2_with fail
  rw [show 65536 * (v : Int) = y by rw [HY.out]; omega]
  refine (rlen_any y _).mono ?_
  rw [HL.out]
  rintro e w' ⟨rfl, rfl⟩
  go_wp2_with fail
  go_ret2
  exact ⟨rfl, rfl⟩

set_option maxHeartbeats 800000 in
theorem rp_over_false (l D R : List UInt8) (n : Nat) (c0 : UInt8) (w : World) (hl : l.length ≤ 200) (h0 : 0 < l.length) (hg : l.getD 0 0 = c0) (hc : ((c0.toNat : Int) == 45) = false) (hn : Dm.digs l = n) (hn1 : 1 ≤ n) (hn5 : n ≤ 5) (hnr : n ≤ l.length) (hx1 : (ByteArray.mk l.toArray).extract 0 n = ByteArray.mk D.toArray) (hx2 : (ByteArray.mk l.toArray).extract n l.length = ByteArray.mk R.toArray) (hDl : D.length ≤ 5) (hDd : D.all Dm.isDig = true) (_hRl : R.length ≤ 200) (c : UInt8) (t : List UInt8) (hRt : R = c :: t) (hcne : ((c.toNat : Int) == 46) = false) (hQ : (R == [112, 116]) = true) (y : Int) (hy : (if false = true then -((65536 * Dm.numv D : Nat) : Int) else ((65536 * Dm.numv D : Nat) : Int)) = y) (hyl : Fx.len y = false) :
    Calls Tryd.prog 18 #[.string ⟨l.toArray⟩] w fun e w' => e = .returned (.tuple #[.int .i64 0, .int .i64 2]) ∧ w = w' := by
  have hget0 := ba_at l 0 c0 hg
  have HD := Lib.hid (fun W => rdigits0 l W (by omega))
  rw [hn] at HD
  have HV := Lib.hid (fun W => rvalue_any D W (by omega) hDd)
  have hv : Dm.numv D < 100000 := by
    have := Dm.numv_lt D hDd
    have h5 : 10 ^ D.length ≤ 10 ^ 5 := Nat.pow_le_pow_right (by omega) hDl
    omega
  clear hDd
  have hR0 : 0 < R.length := by rw [hRt]; simp
  have hgetR := ba_at R 0 c (by rw [hRt]; rfl)
  have hyv : y = ((65536 * Dm.numv D : Nat) : Int) := by rw [← hy]; simp
  clear hy
  generalize Dm.numv D = v at *
  have HL := Lib.hid hyl
  have HY := Lib.hid hyv
  clear hg hn hRt hyl hyv
  go_enter Tryd.func18, Tryd.ntmps18
  go_wp2_with fail
  refine (HD.out _).mono ?_
  rintro e w' ⟨rfl, rfl⟩
  go_wp2_with fail
  refine (HV.out _).mono ?_
  rintro e w' ⟨rfl, rfl⟩
  go_wp2_with fail
  rw [show 65536 * (v : Int) = y by rw [HY.out]; omega]
  refine (rlen_any y _).mono ?_
  rw [HL.out]
  rintro e w' ⟨rfl, rfl⟩
  go_wp2_with fail
  go_ret2
  exact ⟨rfl, rfl⟩

end Go.Proofs.YtlfhnldeidgkjaaDoor
