/-
  The walk of the law InfoOnly. No conditions beyond those stated.
-/
import Derived.Test.YtjeahgdefdlabaaInTold
namespace Go.Proofs.Ytjeahgdefdlabaa
open Go.RowKit

set_option maxHeartbeats 400000 in
theorem infoOnly_far (s : List UInt8) (pos : Int) (w : World) (h : 600 < s.length) : Calls Try.prog 5 #[.string ⟨s.toArray⟩, .int .i64 pos] w fun e w' => e = .returned (.bool true) ∧ Lo w w' := by
  have hsz : (ByteArray.mk s.toArray).size = s.length := rfl
  generalize s.length = n at *
  go_enter Try.func5, Try.ntmps5
  go_wp2_with fail
  go_ret
  exact ⟨rfl, Lo.refl _⟩

set_option maxHeartbeats 800000 in
theorem infoOnly_no (s : List UInt8) (pos : Int) (w : World) (h : s.length ≤ 600) (h1 : pos ≤ 9223372036854775807) (h0 : (Ino.get s pos).2 ≠ 0) : Calls Try.prog 5 #[.string ⟨s.toArray⟩, .int .i64 pos] w fun e w' => e = .returned (.bool true) ∧ Lo w w' := by
  have HG := Lib.hid (fun W => iget_any s pos W (by omega) h1)
  have e : Ino.get s pos = ([], (Ino.get s pos).2) := Prod.ext (Ino.get_none h0) rfl
  rw [e] at HG
  unfold GotPairs at HG
  dsimp only at HG
  rw [show ([] : List Ino.Pair).length = 0 from rfl] at HG
  have hkb : ((Ino.get s pos).2 == 0) = false := by simpa using h0
  have HT := Lib.hid (fun W => valued_any W)
  have hsz : (ByteArray.mk s.toArray).size = s.length := rfl
  generalize (Ino.get s pos).2 = k at *
  generalize s.length = n at *
  clear e h0 h1
  go_enter Try.func5, Try.ntmps5
  go_wp2_with fail
  refine (HG.out _).mono ?_
  rintro e w1 ⟨p, c, rfl, _, lo⟩
  have HL := Lib.hid lo
  clear lo HG
  go_wp2_with fail
  refine (HT.out _).mono ?_
  rintro e w2 ⟨rfl, lo⟩
  have HL2 := Lib.hid (HL.out.trans lo)
  clear lo HT
  go_wp2_with fail
  go_ret
  exact ⟨rfl, HL2.out⟩

set_option maxRecDepth 100000 in
set_option maxHeartbeats 3200000 in
theorem infoOnly_yes (s : List UInt8) (pos o n : Nat) (g : List Int) (w : World) (h : s.length ≤ 600) (h0 : Ino.get s pos = (Ino.zip (s.drop pos) g, 0)) (hb : Bn.get s pos [2, 2] = ([(o : Int), (n : Int)], 0)) (hn : n ≤ 65535) (ho : o ≤ 65535)
    (h4 : pos + 4 + 4 * n ≤ s.length) (hc : Co.get s ((pos : Int) + (o : Int)) = (g, 0)) (hgl : g.length = n) : Calls Try.prog 5 #[.string ⟨s.toArray⟩, .int .i64 (pos : Int)] w fun e w' => e = .returned (.bool true) ∧ Lo w w' := by
  have HG := Lib.hid (fun W => iget_any s pos W (by omega) (by omega))
  rw [h0] at HG
  have HB := Lib.hid (fun v W (h : Row W v [2, 2]) => get_any s pos v [2, 2] W h (by decide) (by omega) (by omega))
  rw [hb] at HB
  have HC := Lib.hid (fun W => coget_any s ((pos : Int) + (o : Int)) W (by omega) (by omega))
  rw [hc] at HC
  have his : Ino.isP (Ino.zip (s.drop pos) g) = true := by
    have := Ino.get_is (s := s) (pos := (pos : Int)) (by rw [h0])
    rwa [h0] at this
  have hzl : (Ino.zip (s.drop pos) g).length = n := by rw [Ino.zip_len, hgl]
  have HI := Lib.hid (fun (u : Value) (W : World) (k : PRow W u (Ino.zip (s.drop pos) g)) => iis_any u _ W k (by omega))
  rw [his] at HI
  obtain ⟨X, hX⟩ : ∃ X : Nat → Int, ∀ k, He.fld (s.drop pos) (4 + 4 * k) (-2) = X k := ⟨_, fun _ => rfl⟩
  have HV := Lib.hid (fun i (hi : i < n) (v : Value) W (h : Row W v [-2]) => by
    have h1 := get_any s ((pos + 4 + 4 * i : Nat) : Int) v [-2] W h (by decide) (by omega) (by omega)
    rw [Ino.bin_at s (by omega), hX] at h1
    unfold GotRow at h1
    dsimp only [List.length_cons, List.length_nil, Nat.reduceAdd] at h1
    rw [show ((pos + 4 + 4 * i : Nat) : Int) = (pos : Int) + 4 + 4 * (i : Int) by omega] at h1
    exact h1)
  have HZ := Lib.hid (fun k (hk : k < n) => (by
    have h := Ino.getD_some (l := Ino.zip (s.drop pos) g) (i := k) (by omega)
    rw [Ino.zip_at (s.drop pos) (by omega), hX] at h
    exact h : (Ino.zip (s.drop pos) g)[k]? = some (g.getD k 0, X k)))
  have HD := Lib.hid (fun W => valued_any W)
  have hsz : (ByteArray.mk s.toArray).size = s.length := rfl
  unfold GotPairs at HG
  unfold GotRow at HB HC
  dsimp only [List.length_cons, List.length_nil, Nat.reduceAdd] at HG HB HC
  rw [hzl] at HG
  rw [hgl] at HC
  have HGl := Lib.hid hgl
  generalize Ino.zip (s.drop pos) g = l at *
  have hz : ¬ (600 : Int) < (s.length : Int) := by omega
  have hpb : pos ≤ 600 := by omega
  have hnb : n ≤ 600 := by omega
  generalize s.length = sn at *
  clear h0 hb hc hgl his hzl hX h h4
  go_enter Try.func5, Try.ntmps5
  go_wp2_with fail
  refine (HG.out _).mono ?_
  rintro e w1 ⟨p, c, rfl, hrow, lo⟩
  have HL := Lib.hid lo
  have HR := Lib.hid hrow
  clear lo HG hrow
  go_wp2_with fail
  refine (HB.out _ _ (row2 w1 _ (by simp) 2 2)).mono ?_
  rintro e w2 ⟨p2, c2, rfl, hrow, lo⟩
  have lo2 := ((Lo.refl w1).alloc _).trans lo
  have HL2 := Lib.hid (HL.out.trans lo2)
  have HR2 := Lib.hid (PRow.lo HR.out lo2)
  obtain ⟨b, off, rfl, c0⟩ := hrow.at_ (k := 0) (by simp)
  obtain ⟨b', off', he, c1⟩ := hrow.at_ (k := 1) (by simp)
  simp only [Option.some.injEq, Addr.mk.injEq, and_true] at he
  obtain ⟨rfl, rfl⟩ := he
  rw [Nat.add_zero] at c0
  rw [show ([(o : Int), (n : Int)] : List Int).getD 0 0 = (o : Int) from rfl] at c0
  rw [show ([(o : Int), (n : Int)] : List Int).getD 1 0 = (n : Int) from rfl] at c1
  have hbl := World.block_lt_of_cell? _ _ c0
  clear lo lo2 HB hrow HL HR
  go_wp2_with fail
  refine (HI.out _ _ HR2.out).mono ?_
  rintro e w3 ⟨rfl, lo⟩
  have HL3 := Lib.hid (HL2.out.trans lo)
  have HR3 := Lib.hid (PRow.lo HR2.out lo)
  have d0 := (lo.cell hbl).trans c0
  clear lo c0 c1 HL2 HR2 HI hbl
  go_wp2_with fail
  refine (HC.out _).mono ?_
  rintro e w4 ⟨p4, c4, rfl, hrow, lo⟩
  have HL4 := Lib.hid (HL3.out.trans lo)
  have HR4 := Lib.hid (PRow.lo HR3.out lo)
  have HG4 := Lib.hid hrow
  clear lo d0 HL3 HR3 hrow HC
  go_wp2_with fail
  go_loopw [11, 12, 13] (fun i _ _ W => ∃ k : Nat, k ≤ n ∧ i = .int .i64 k ∧ Hid (Lo w4 W)) (fun i _ _ _ => n - (intOf i).toNat)
  case atStart => exact ⟨0, by omega, rfl, Lib.hid (Lo.refl _)⟩
  case round =>
    obtain ⟨k, hk, rfl, HLk⟩ := hrel
    by_cases hlt : k < n
    · have HVk := Lib.hid (HV.out k hlt)
      go_wp2_with fail
      refine (HVk.out _ _ (row1 _ _ (by simp) (-2))).mono ?_
      rintro e w5 ⟨p5, c5, rfl, hrow, lo⟩
      have HL5 := Lib.hid ((HLk.out.alloc _).trans lo)
      obtain ⟨b5, off5, rfl, v1⟩ := hrow.at_ (k := 0) (by simp)
      rw [Nat.add_zero, show ([X k] : List Int).getD 0 0 = X k from rfl] at v1
      obtain ⟨b6, off6, rfl, v2⟩ := (HG4.out.lo HL5.out).at_ (k := k) (by omega)
      obtain ⟨b7, off7, rfl, v3, v4⟩ := PRow.at2 (PRow.lo HR4.out HL5.out) (HZ.out k hlt)
      dsimp only at v3 v4
      generalize X k = x at *
      generalize g.getD k 0 = y at *
      clear lo hrow HVk
      go_wp2_with fail
      go_quiet (fail)
      have HL6 := Lib.hid (HL5.out.drewN nq)
      clear v1 v2 v3 v4
      go_wp2_with fail
      go_roundw
      case rel => exact ⟨k + 1, by omega, by go_num, HL6⟩
      case measure => simp [intOf]; omega
    · obtain rfl : k = n := by omega
      go_wp2_with fail
      refine (HD.out _).mono ?_
      rintro e w5 ⟨rfl, lo⟩
      have HL5 := Lib.hid (HLk.out.trans lo)
      clear lo HD
      go_wp2_with fail
      go_ret
      exact ⟨rfl, HL4.out.trans HL5.out⟩

theorem infoOnly_walk (a : ByteArray) (pos : Int) (w : World) (_w0 : a.size ≤ maxLen) (w1 : (Lit.int .i64 pos).wf = true) :
    Calls Try.prog 5 #[.string a, .int .i64 pos] w fun e w' => e = .returned (.bool true) ∧ Below w.heap.size w w' := by
  have h1 : pos ≤ 9223372036854775807 := by
    have h1 : (decide (IntKind.i64.min ≤ pos) && decide (pos ≤ IntKind.i64.max)) = true := w1
    rw [show IntKind.i64.min = -9223372036854775808 by decide, show IntKind.i64.max = 9223372036854775807 by decide] at h1
    simp only [Bool.and_eq_true, decide_eq_true_eq] at h1
    exact h1.2
  by_cases hc : 600 < a.data.toList.length
  · exact infoOnly_far a.data.toList pos w hc
  · by_cases h0 : (Ino.get a.data.toList pos).2 = 0
    · obtain ⟨q0, q1, q2, q3, q4, q5⟩ := Ino.get_ok h0
      obtain ⟨q, rfl⟩ := Int.eq_ofNat_of_zero_le q0
      rw [Int.toNat_natCast] at q2 q3 q4 q5
      obtain ⟨o, ho, ho2⟩ := Ino.word_nat (a.data.toList.drop q) 0
      obtain ⟨n, hn, hn2⟩ := Ino.word_nat (a.data.toList.drop q) 2
      rw [ho] at q3 q4 q5
      rw [hn] at q2 q4
      refine infoOnly_yes a.data.toList q o n (Co.get a.data.toList ((q : Int) + (o : Int))).1 w (by omega) (Prod.ext q5 h0) ?_ hn2 ho2 (by omega) (Prod.ext rfl q3) (by omega)
      rw [Ino.bin_two, if_neg (by omega), ho, hn]
    · exact infoOnly_no a.data.toList pos w (by omega) h1 h0
end Go.Proofs.Ytjeahgdefdlabaa
