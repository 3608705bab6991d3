/-
  Contracts of the document's answers for layer 6: Many, Width, Put, Get of the references. No conditions beyond those stated.
-/
import Derived.Test.YtchhjfocanjniaaHmWide
import Derived.Test.YtchhjfocanjniaaBnRefW
import Derived.Test.YtchhjfocanjniaaBnRefB
namespace Hm
open Bn
theorem down_step_eq (l : List Metric) (k : Nat) (h : 2 ≤ k) (he : (at0 l (k - 2)).1 = (at0 l (k - 1)).1) : down l k = down l (k - 1) := by
  obtain ⟨j, rfl⟩ : ∃ j, k = j + 2 := ⟨k - 2, by omega⟩
  rw [show j + 2 - 2 = j by omega, show j + 2 - 1 = j + 1 by omega] at *
  rw [down, if_pos he]
theorem down_step_ne (l : List Metric) (k : Nat) (h : 2 ≤ k) (he : (at0 l (k - 2)).1 ≠ (at0 l (k - 1)).1) : down l k = k := by
  obtain ⟨j, rfl⟩ : ∃ j, k = j + 2 := ⟨k - 2, by omega⟩
  rw [show j + 2 - 2 = j by omega, show j + 2 - 1 = j + 1 by omega] at he
  rw [down, if_neg he]
theorem all_fail {l : List Metric} {i : Nat} (hi : i < l.length) (h : fit (at0 l i) = false) : l.all fit = false := by
  rw [List.all_eq_false]
  exact ⟨_, at_mem hi, by simp [h]⟩
theorem all_fit {l : List Metric} (h : ∀ i, i < l.length → fit (at0 l i) = true) : l.all fit = true := by
  rw [List.all_eq_true]
  intro x hx
  obtain ⟨i, hi, rfl⟩ := List.mem_iff_getElem.1 hx
  have := h i hi
  simpa [at0, List.getD, List.getElem?_eq_getElem hi] using this
theorem put_of {l : List Metric} (h1 : 1 ≤ l.length) (h2 : l.length ≤ 65535) : put l = if l.all fit = false then ([], 0, 2) else (out l (least l), least l, 0) := by
  unfold put
  rw [if_neg (by omega)]
/-- The bytes of the first i. -/
def outTo (l : List Metric) (n i : Nat) : List UInt8 := full ((l.take n).take i) ++ sides ((l.take i).drop n)
theorem outTo_all (l : List Metric) (n : Nat) : outTo l n l.length = out l n := by
  unfold outTo out
  rw [List.take_of_length_le (l := l.take n) (by rw [List.length_take]; omega), List.take_length]
theorem outTo_low {l : List Metric} {n i : Nat} (hi : i < n) (hl : i < l.length) : outTo l n (i + 1) = outTo l n i ++ bytes (at0 l i).1 2 ++ bytes (at0 l i).2 2 := by
  unfold outTo
  have e1 : (l.take (i + 1)).drop n = [] := List.drop_of_length_le (by rw [List.length_take]; omega)
  have e2 : (l.take i).drop n = [] := List.drop_of_length_le (by rw [List.length_take]; omega)
  have e3 : (l.take n).take (i + 1) = (l.take n).take i ++ [at0 l i] := by
    rw [List.take_take, List.take_take, Nat.min_eq_left (by omega), Nat.min_eq_left (by omega)]
    exact take_snocM hl
  rw [e1, e2, e3, full_append]
  simp [full, sides]
theorem outTo_high {l : List Metric} {n i : Nat} (hi : n ≤ i) (hl : i < l.length) : outTo l n (i + 1) = outTo l n i ++ bytes (at0 l i).2 2 := by
  unfold outTo
  have e1 : (l.take n).take (i + 1) = (l.take n).take i := (List.take_of_length_le (l := l.take n) (by rw [List.length_take]; omega)).trans (List.take_of_length_le (l := l.take n) (by rw [List.length_take]; omega)).symm
  have e2 : (l.take (i + 1)).drop n = (l.take i).drop n ++ [at0 l i] := by
    rw [take_snocM hl, List.drop_append_of_le_length (by rw [List.length_take]; omega)]
  rw [e1, e2, sides_append, List.append_assoc]
  simp [sides]
theorem outTo_len (l : List Metric) (n i : Nat) : (outTo l n i).length ≤ 6 * i := by
  unfold outTo
  have h1 : ((l.take n).take i).length ≤ i := by rw [List.length_take]; omega
  have h2 : ((l.take i).drop n).length ≤ i := by rw [List.length_drop, List.length_take]; omega
  rw [List.length_append, full_len, sides_len]
  omega
end Hm
namespace Go.Proofs.Ytchhjfocanjniaa
open Go.RowKit

set_option maxRecDepth 100000 in
set_option maxHeartbeats 1600000 in
theorem rmany_any (v : Value) (l : List Hm.Metric) (w : World) (hr : MRow w v l) (h1 : 1 ≤ l.length) :
    Calls Try.prog 26 #[v] w fun e w' => e = .returned (.int .i64 (Hm.least l)) ∧ Lo w w' := by
  obtain ⟨p, c, rfl, hlen⟩ := RowK.form hr
  have HR := Lib.hid hr
  have HA : Hid (∀ i, i < l.length → l[i]? = some (Hm.at0 l i)) := Lib.hid (fun i hi => at0_some hi)
  have HD : Hid (Hm.down l l.length = Hm.least l) := Lib.hid rfl
  generalize Hm.least l = y at *
  generalize l.length = n at *
  clear hr
  go_enter Try.func26, Try.ntmps26
  go_wp2_with fail
  go_loopw [3] (fun i W => ∃ k : Nat, 1 ≤ k ∧ k ≤ n ∧ i = .int .i64 k ∧ Hid (Hm.down l k = y) ∧ Hid (Lo w W)) (fun i _ => (intOf i).toNat)
  case atStart => exact ⟨n, h1, Nat.le_refl _, rfl, HD, Lib.hid (Lo.refl _)⟩
  case round =>
    obtain ⟨k, hk1, hk, rfl, HY, HL⟩ := hrel
    by_cases hk2 : 2 ≤ k
    · obtain ⟨b, off, rfl, c1, _⟩ := MRow.at2 (RowK.lo HR.out HL.out) (HA.out (k - 2) (by omega))
      obtain ⟨b', off', he, c2, _⟩ := MRow.at2 (RowK.lo HR.out HL.out) (HA.out (k - 1) (by omega))
      simp only [Option.some.injEq, Addr.mk.injEq, and_true] at he
      obtain ⟨rfl, rfl⟩ := he
      have HE := Lib.hid (Hm.down_step_eq l k hk2)
      have HNE := Lib.hid (Hm.down_step_ne l k hk2)
      generalize (Hm.at0 l (k - 2)).1 = a1 at *
      generalize (Hm.at0 l (k - 1)).1 = a2 at *
      have j0 : decide ((1 : Int) < (k : Int)) = true := by simp; omega
      have j1 : IntKind.i64.wrap ((k : Int) - 2) = (k : Int) - 2 := IntWalk.i64_in _ (by omega)
      have j2 : IntKind.i64.wrap ((k : Int) - 1) = (k : Int) - 1 := IntWalk.i64_in _ (by omega)
      have j3 : (0 : Int) ≤ (k : Int) - 2 := by omega
      have j3' : (2 : Int) ≤ (k : Int) := by omega
      have j4 : (0 : Int) ≤ (k : Int) - 1 := by omega
      have j4' : (1 : Int) ≤ (k : Int) := by omega
      have j5 : (k : Int) - 2 < (n : Int) := by omega
      have j6 : (k : Int) - 1 < (n : Int) := by omega
      have j7 : ((k : Int) - 2).toNat = k - 2 := by omega
      have j8 : ((k : Int) - 1).toNat = k - 1 := by omega
      by_cases heq : a1 = a2
      · have HY2 : Hid (Hm.down l (k - 1) = y) := Lib.hid (by rw [← HE.out heq]; exact HY.out)
        have j9 : (a1 == a2) = true := by simpa using heq
        clear heq HE HNE
        go_wp2_with fail
        go_quiet (fail)
        have HL2 := Lib.hid (HL.out.drewN nq)
        clear j0 j1 j2 j7 j8 c1 c2 j9
        go_wp2_with fail
        go_roundw
        case rel => exact ⟨k - 1, by omega, by omega, by congr 1; omega, HY2, HL2⟩
        case measure => simp [intOf]; omega
      · have HY2 : Hid (k = y) := Lib.hid (by rw [← HNE.out heq]; exact HY.out)
        have j9 : (a1 == a2) = false := by simpa using heq
        clear heq HE HNE
        go_wp2_with fail
        go_quiet (fail)
        have HL2 := Lib.hid (HL.out.drewN nq)
        clear j0 j1 j2 j7 j8 c1 c2 j9
        go_wp2_with fail
        go_ret
        exact ⟨ret_int (by rw [HY2.out]), HL2.out⟩
    · obtain rfl : k = 1 := by omega
      have HY2 : Hid (1 = y) := Lib.hid HY.out
      rw [show ((1 : Nat) : Int) = 1 from rfl]
      go_wp2_with fail
      go_quiet (fail)
      have HL2 := Lib.hid (HL.out.drewN nq)
      go_wp2_with fail
      go_ret
      exact ⟨ret_int (by rw [← HY2.out]; rfl), HL2.out⟩

set_option maxHeartbeats 1600000 in
theorem rwidth_any (v : Value) (l : List Hm.Metric) (g : Int) (w : World) (h : MRow w v l) :
    Calls Try.prog 11 #[v, .int .i64 g] w fun e w' => e = .returned (.tuple #[.int .i64 (widthOf l g).1, .int .i64 (widthOf l g).2]) ∧ w = w' := by
  obtain ⟨pu, cu, rfl, hlen⟩ := RowK.form h
  unfold widthOf
  by_cases h0 : g < 0
  · rw [if_pos (.inl h0)]
    clear h
    go_enter Try.func11, Try.ntmps11
    go_wp2_with fail
    go_ret2
    exact ⟨rfl, rfl⟩
  · obtain ⟨k, rfl⟩ := Int.eq_ofNat_of_zero_le (show 0 ≤ g by omega)
    by_cases h1 : l.length ≤ k
    · rw [if_pos (.inr (by omega))]
      clear h
      have hd : ¬ k < l.length := by omega
      go_enter Try.func11, Try.ntmps11
      go_wp2_with fail
      go_ret2
      exact ⟨rfl, rfl⟩
    · rw [if_neg (by omega), Int.toNat_natCast]
      have hk : k < l.length := by omega
      obtain ⟨b, off, rfl, hc1, hc2⟩ := MRow.at2 h (at0_some hk)
      generalize Hm.at0 l k = x at *
      generalize l.length = n at *
      clear h hc2
      go_enter Try.func11, Try.ntmps11
      go_wp2_with fail
      go_ret2
      exact ⟨rfl, rfl⟩

set_option maxHeartbeats 800000 in
theorem rput_arg (v : Value) (l : List Hm.Metric) (w : World) (hr : MRow w v l) (h : l.length < 1) :
    Calls Try.prog 9 #[v] w fun e w' => e = strNumErr ([], 0, 1) ∧ Lo w w' := by
  obtain ⟨p, c, rfl, hlen⟩ := RowK.form hr
  generalize l.length = n at *
  clear hr
  obtain rfl : n = 0 := by omega
  go_enter Try.func9, Try.ntmps9
  go_wp2_with fail
  refine bodyPost_ret (v := .tuple #[.string ⟨#[]⟩, .int .i64 0, .int .i64 1]) ?_ rfl ⟨rfl, Lo.refl _⟩
  simp [results, Try.results9, go_sem]

theorem fit_bytes {x : Hm.Metric} (h : Hm.fit x = true) (W : World) : (Calls Try.prog 27 #[.int .i64 x.1, .int .i64 2] W fun e w' => e = .returned (.string ⟨(Bn.bytes x.1 2).toArray⟩) ∧ Lo W w') ∧ (Calls Try.prog 27 #[.int .i64 x.2, .int .i64 2] W fun e w' => e = .returned (.string ⟨(Bn.bytes x.2 2).toArray⟩) ∧ Lo W w') := by
  obtain ⟨f1, f2⟩ := (Hm.fit_iff x).1 h
  have a := rbytes_any x.1 2 W (by decide) f1
  have b := rbytes_any x.2 (-2) W (by decide) f2
  rw [show ((2 : Int).natAbs) = 2 from rfl, show ((2 : Nat) : Int) = 2 from rfl] at a
  rw [show ((-2 : Int).natAbs) = 2 from rfl, show ((2 : Nat) : Int) = 2 from rfl] at b
  exact ⟨a, b⟩

set_option maxRecDepth 100000 in
set_option maxHeartbeats 2000000 in
theorem rput_some (v : Value) (l : List Hm.Metric) (w : World) (hr : MRow w v l) (h1 : 1 ≤ l.length) (h2 : l.length ≤ 65535) :
    Calls Try.prog 9 #[v] w fun e w' => e = strNumErr (Hm.put l) ∧ Lo w w' := by
  rw [Hm.put_of h1 h2]
  have HMn := Lib.hid (fun W (h : MRow W v l) => rmany_any v l W h h1)
  obtain ⟨p, c, rfl, hlen⟩ := RowK.form hr
  have HR := Lib.hid hr
  have HA : Hid (∀ i, i < l.length → l[i]? = some (Hm.at0 l i)) := Lib.hid (fun i hi => at0_some hi)
  have HF0 := Lib.hid (fun i (hi : i < l.length) (h : Hm.fit (Hm.at0 l i) = false) => Hm.all_fail hi h)
  have HF1 := Lib.hid (@Hm.all_fit l)
  have HLow := Lib.hid (fun n i hi hl => @Hm.outTo_low l n i hi hl)
  have HHigh := Lib.hid (fun n i hi hl => @Hm.outTo_high l n i hi hl)
  have HAll := Lib.hid (Hm.outTo_all l)
  generalize hy : (if l.all Hm.fit = false then (([] : List UInt8), 0, (2 : Int)) else (Hm.out l (Hm.least l), Hm.least l, 0)) = y
  have HY := Lib.hid hy
  generalize hnn : l.length = n at *
  clear hr hy hnn
  go_enter Try.func9, Try.ntmps9
  go_wp2_with fail
  go_loopw [5] (fun i W => ∃ k : Nat, k ≤ n ∧ i = .int .i64 k ∧ Hid (∀ j, j < k → Hm.fit (Hm.at0 l j) = true) ∧ Hid (Lo w W)) (fun i _ => n - (intOf i).toNat)
  case atStart => exact ⟨0, Nat.zero_le _, rfl, Lib.hid (by omega), Lib.hid (Lo.refl _)⟩
  case round =>
    obtain ⟨k, hk, rfl, HI, HL⟩ := hrel
    by_cases hlt : k < n
    · obtain ⟨b, off, rfl, c1, c2⟩ := MRow.at2 (RowK.lo HR.out HL.out) (HA.out k hlt)
      have HB0 := Lib.hid (HF0.out k hlt)
      have HI2 : Hid (Hm.fit (Hm.at0 l k) = true → ∀ j, j < k + 1 → Hm.fit (Hm.at0 l j) = true) := Lib.hid (by
        intro h j hj
        rcases Nat.lt_or_ge j k with h3 | h3
        · exact HI.out j h3
        · obtain rfl : j = k := by omega
          exact h)
      generalize Hm.at0 l k = x at *
      obtain ⟨x1, x2⟩ := x
      dsimp only at c1 c2
      have C1 := Lib.hid (fun W => rfits_any x1 2 W (by decide))
      have C2 := Lib.hid (fun W => rfits_any x2 (-2) W (by decide))
      cases f1 : Bn.fits x1 2 with
      | false =>
        have HYY : Hid (y = ([], 0, 2)) := Lib.hid (by rw [← HY.out, if_pos (HB0.out (by unfold Hm.fit; rw [f1]; rfl))])
        rw [f1] at C1
        clear f1 HI2 HB0
        go_wp2_with fail
        refine (C1.out _).mono ?_
        rintro e w1 ⟨rfl, rfl⟩
        go_wp2_with fail
        refine bodyPost_ret (v := .tuple #[.string ⟨#[]⟩, .int .i64 0, .int .i64 2]) ?_ rfl ⟨by rw [HYY.out]; rfl, HL.out⟩
        simp [results, Try.results9, go_sem]
      | true =>
        rw [f1] at C1
        cases f2 : Bn.fits x2 (-2) with
        | false =>
          have HYY : Hid (y = ([], 0, 2)) := Lib.hid (by rw [← HY.out, if_pos (HB0.out (by unfold Hm.fit; rw [f2]; simp))])
          rw [f2] at C2
          clear f1 f2 HI2 HB0
          go_wp2_with fail
          refine (C1.out _).mono ?_
          rintro e w1 ⟨rfl, rfl⟩
          go_wp2_with fail
          refine (C2.out _).mono ?_
          rintro e w1 ⟨rfl, rfl⟩
          go_wp2_with fail
          refine bodyPost_ret (v := .tuple #[.string ⟨#[]⟩, .int .i64 0, .int .i64 2]) ?_ rfl ⟨by rw [HYY.out]; rfl, HL.out⟩
          simp [results, Try.results9, go_sem]
        | true =>
          have HI3 := Lib.hid (HI2.out (by unfold Hm.fit; rw [f1, f2]; rfl))
          rw [f2] at C2
          clear f1 f2 HI2 HB0
          go_wp2_with fail
          refine (C1.out _).mono ?_
          rintro e w1 ⟨rfl, rfl⟩
          go_wp2_with fail
          refine (C2.out _).mono ?_
          rintro e w1 ⟨rfl, rfl⟩
          go_wp2_with fail
          go_roundw
          case rel => exact ⟨k + 1, by omega, by go_num, HI3, HL⟩
          case measure => simp [intOf]; omega
    · obtain rfl : k = n := by omega
      have HYY : Hid (y = (Hm.out l (Hm.least l), Hm.least l, 0)) := Lib.hid (by rw [← HY.out, if_neg (by rw [HF1.out HI.out]; simp)])
      clear HY HF0 HF1
      generalize Hm.least l = m at *
      rename World => W1
      go_wp2_with fail
      refine (HMn.out _ (RowK.lo HR.out HL.out)).mono ?_
      rintro e w2 ⟨rfl, lo⟩
      have HL2 := Lib.hid (HL.out.trans lo)
      clear lo HMn HL hlt
      go_wp2_with fail
      go_loopw [7, 8] (fun s i W => ∃ (j : Nat) (o : List UInt8), j ≤ k ∧ i = .int .i64 j ∧ s = .string ⟨o.toArray⟩ ∧ o.length ≤ 6 * j ∧ Hid (o = Hm.outTo l m j) ∧ Hid (Lo w W)) (fun _ i _ => k - (intOf i).toNat)
      case atStart => exact ⟨0, [], Nat.zero_le _, rfl, rfl, by simp, Lib.hid (by simp [Hm.outTo, Hm.full, Hm.sides]), HL2⟩
      case round =>
        obtain ⟨j, o, hj, rfl, rfl, hol, HOO, HL3⟩ := hrel
        by_cases hjk : j < k
        · obtain ⟨b, off, rfl, c1, c2⟩ := MRow.at2 (RowK.lo HR.out HL3.out) (HA.out j hjk)
          have CB := Lib.hid (fun W => (fit_bytes (HI.out j hjk) W).1)
          have CB2 := Lib.hid (fun W => (fit_bytes (HI.out j hjk) W).2)
          have HLo := Lib.hid (fun h => HLow.out m j h hjk)
          have HHi := Lib.hid (fun h => HHigh.out m j h hjk)
          have HC2 : Hid (∀ W, Lo w W → W.cell? ⟨b, off + j * 2 + 1, none⟩ = some (.int .i64 (Hm.at0 l j).2)) := Lib.hid (fun W hW => by
            obtain ⟨b1, o1, he, _, hc⟩ := MRow.at2 (RowK.lo HR.out hW) (HA.out j hjk)
            simp only [Option.some.injEq, Addr.mk.injEq, and_true] at he
            rw [he.1, he.2]; exact hc)
          generalize Hm.at0 l j = x at *
          have hb1 : (Bn.bytes x.1 2).length = 2 := Bn.bytes_len _ _
          have hb2 : (Bn.bytes x.2 2).length = 2 := Bn.bytes_len _ _
          by_cases hjm : j < m
          · have HO2 : Hid (Hm.outTo l m (j + 1) = o ++ Bn.bytes x.1 2 ++ Bn.bytes x.2 2) := Lib.hid (by rw [HLo.out hjm, HOO.out])
            generalize Bn.bytes x.1 2 = y1 at *
            generalize Bn.bytes x.2 2 = y2 at *
            have e1 := Gk.cat_list o y1
            have e2 := Gk.cat_list (o ++ y1) y2
            have hl3 : (o ++ y1).length = o.length + 2 := by rw [List.length_append, hb1]
            have hl4 : (o ++ y1 ++ y2).length ≤ 6 * (j + 1) := by rw [List.length_append, List.length_append, hb1, hb2]; omega
            go_wp2_with fail
            refine (CB.out _).mono ?_
            rintro e w4 ⟨rfl, lo⟩
            have HL4 := Lib.hid (HL3.out.trans lo)
            have hc2 := HC2.out _ HL4.out
            clear lo c1 c2 HL3
            go_wp2_with fail
            refine (CB2.out _).mono ?_
            rintro e w5 ⟨rfl, lo⟩
            have HL5 := Lib.hid (HL4.out.trans lo)
            clear lo hc2 HL4
            go_wp2_with fail
            go_roundw
            case rel => exact ⟨j + 1, o ++ (y1 ++ y2), by omega, by go_num, rfl, by rw [← List.append_assoc]; exact hl4, Lib.hid (by rw [← List.append_assoc]; exact HO2.out.symm), HL5⟩
            case measure => simp [intOf]; omega
          · have HO2 : Hid (Hm.outTo l m (j + 1) = o ++ Bn.bytes x.2 2) := Lib.hid (by rw [HHi.out (by omega), HOO.out])
            generalize Bn.bytes x.2 2 = y2 at *
            have e2 := Gk.cat_list o y2
            have hl4 : (o ++ y2).length ≤ 6 * (j + 1) := by rw [List.length_append, hb2]; omega
            go_wp2_with fail
            refine (CB2.out _).mono ?_
            rintro e w5 ⟨rfl, lo⟩
            have HL5 := Lib.hid (HL3.out.trans lo)
            clear lo c1 c2 HL3
            go_wp2_with fail
            go_roundw
            case rel => exact ⟨j + 1, o ++ y2, by omega, by go_num, rfl, hl4, Lib.hid HO2.out.symm, HL5⟩
            case measure => simp [intOf]; omega
        · obtain rfl : j = k := by omega
          have HOF : Hid (o = Hm.out l m) := Lib.hid (by rw [HOO.out, HAll.out])
          go_wp2_with fail
          refine bodyPost_ret (v := .tuple #[.string ⟨o.toArray⟩, .int .i64 m, .int .i64 0]) ?_ rfl ⟨by rw [HYY.out, HOF.out]; rfl, HL3.out⟩
          simp [results, Try.results9, go_sem]

theorem hrput_any (v : Value) (l : List Hm.Metric) (w : World) (hr : MRow w v l) (h2 : l.length ≤ 65535) :
    Calls Try.prog 9 #[v] w fun e w' => e = strNumErr (Hm.put l) ∧ Lo w w' := by
  rcases Nat.lt_or_ge l.length 1 with h | h
  · rw [Hm.put_arg (.inl h)]; exact rput_arg v l w hr h
  · exact rput_some v l w hr h h2
end Go.Proofs.Ytchhjfocanjniaa
