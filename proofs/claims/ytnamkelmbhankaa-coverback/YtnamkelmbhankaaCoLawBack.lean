/-
  The walk of the law CoverBack. No conditions beyond those stated: each text has at most the bytes that the form itself lets in.
-/
import Derived.Test.YtnamkelmbhankaaCoCovered
import Derived.Test.YtnamkelmbhankaaCoRef
import Derived.SizedLaws
namespace Go.Proofs.Ytnamkelmbhankaa
open Go.RowKit

theorem tadd_to (a b c : List UInt8) (hc : a ++ b = c) (h : a.length + b.length ≤ 100000000) (W : World) : (Op.stringOp .add ⟨a.toArray⟩ ⟨b.toArray⟩).run Try.prog W = .ok (.string ⟨c.toArray⟩) W := by
  rw [← hc, run_string_add_sum W _ _ (by show a.length + b.length ≤ _; omega), Gk.cat_list]

set_option maxHeartbeats 800000 in
theorem coverBack_far (p : Option Addr) (n c : Nat) (a b : List UInt8) (w : World) (ha : a.length ≤ 1000000000000000) (hb : b.length ≤ 1000000000000000) (h : 500 < n ∨ 500 < a.length + b.length) :
    Calls Try.prog 4 #[.slice p n c, .string ⟨a.toArray⟩, .string ⟨b.toArray⟩] w fun e w' => e = .returned (.bool true) ∧ Lo w w' := by
  have HS := Lib.hid (rshort12_any p n c w)
  have hsz : (ByteArray.mk a.toArray).size = a.length := rfl
  have hsz2 : (ByteArray.mk b.toArray).size = b.length := rfl
  by_cases hn : 500 < n
  · rw [decide_eq_false (show ¬ n ≤ 500 by omega)] at HS
    go_enter Try.func4, Try.ntmps4
    go_wp2_with fail
    refine HS.out.mono ?_
    rintro e w1 ⟨rfl, rfl⟩
    go_wp2_with fail
    go_ret
    exact ⟨rfl, Lo.refl _⟩
  · rw [decide_eq_true (show n ≤ 500 by omega)] at HS
    have hq : (500 : Int) < (a.length : Int) + (b.length : Int) := by omega
    generalize a.length = an at *
    generalize b.length = bn at *
    go_enter Try.func4, Try.ntmps4
    go_wp2_with fail
    refine HS.out.mono ?_
    rintro e w1 ⟨rfl, rfl⟩
    go_wp2_with fail
    go_ret
    exact ⟨rfl, Lo.refl _⟩

set_option maxHeartbeats 800000 in
theorem coverBack_no (v : Value) (l : List Int) (a b : List UInt8) (w : World) (hr : Row w v l) (hn : l.length ≤ 500) (hab : a.length + b.length ≤ 500) (h0 : (Co.put l).2 ≠ 0) :
    Calls Try.prog 4 #[v, .string ⟨a.toArray⟩, .string ⟨b.toArray⟩] w fun e w' => e = .returned (.bool true) ∧ Lo w w' := by
  obtain ⟨hc, hp⟩ := Co.put_no h0
  have HP := Lib.hid (coput_any v l w hr)
  rw [hp] at HP
  unfold strErr at HP
  have HI := Lib.hid (fun (u : Value) (W : World) (k : Row W u l) => cois_any u l W k)
  rw [hc] at HI
  have HD := Lib.hid (fun W => covered_any W)
  obtain ⟨p, c, rfl, _⟩ := hr.form
  have HR := Lib.hid hr
  have HS := Lib.hid (rshort12_any p l.length c w)
  rw [decide_eq_true hn] at HS
  have hsz : (ByteArray.mk a.toArray).size = a.length := rfl
  have hsz2 : (ByteArray.mk b.toArray).size = b.length := rfl
  have hq : ¬ (500 : Int) < (a.length : Int) + (b.length : Int) := by omega
  generalize a.length = an at *
  generalize b.length = bn at *
  dsimp only at HP
  rw [show ([] : List UInt8).toArray = #[] from rfl] at HP
  clear hr hc hp h0
  go_enter Try.func4, Try.ntmps4
  go_wp2_with fail
  refine HS.out.mono ?_
  rintro e w1 ⟨rfl, rfl⟩
  go_wp2_with fail
  refine HP.out.mono ?_
  rintro e w2 ⟨rfl, lo⟩
  have HL2 := Lib.hid lo
  have HR2 := Lib.hid (HR.out.lo lo)
  clear lo HP HS
  go_wp2_with fail
  refine (HD.out _).mono ?_
  rintro e w3 ⟨rfl, lo⟩
  have HL3 := Lib.hid (HL2.out.trans lo)
  have HR3 := Lib.hid (HR2.out.lo lo)
  clear lo HD
  go_wp2_with fail
  refine (HI.out _ _ HR3.out).mono ?_
  rintro e w4 ⟨rfl, rfl⟩
  go_wp2_with fail
  go_ret
  exact ⟨rfl, HL3.out⟩

set_option maxRecDepth 100000 in
set_option maxHeartbeats 1600000 in
theorem coverBack_ok (v : Value) (l : List Int) (a b : List UInt8) (w : World) (hr : Row w v l) (hn : l.length ≤ 500) (hab : a.length + b.length ≤ 500) (h0 : (Co.put l).2 = 0) :
    Calls Try.prog 4 #[v, .string ⟨a.toArray⟩, .string ⟨b.toArray⟩] w fun e w' => e = .returned (.bool true) ∧ Lo w w' := by
  have HP := Lib.hid (coput_any v l w hr)
  unfold strErr at HP
  rw [h0] at HP
  obtain ⟨hg, hlen⟩ := Co.get_put h0 a b
  have hc := Co.put_ok h0
  generalize (Co.put l).1 = t at *
  obtain ⟨u, hu⟩ : ∃ u, a ++ t = u := ⟨_, rfl⟩
  obtain ⟨r, hr2⟩ : ∃ r, u ++ b = r := ⟨_, rfl⟩
  rw [hu, hr2] at hg
  have hul : u.length = a.length + t.length := by rw [← hu, List.length_append]
  have hrl : r.length = u.length + b.length := by rw [← hr2, List.length_append]
  have x1 := fun W => tadd_to a t u hu (by omega) W
  have x2 := fun W => tadd_to u b r hr2 (by omega) W
  have HG := Lib.hid (fun W => coget_any r (a.length : Int) W (by omega) (by omega))
  rw [hg] at HG
  unfold GotRow at HG
  have HN := Lib.hid (fun (v u : Value) (W : World) (k : Row W v l) (k2 : Row W u l) => rints_any v u l l W k k2)
  rw [decide_eq_true rfl] at HN
  have HD := Lib.hid (fun W => covered_any W)
  have HF := Lib.hid (fun (i : Nat) (hi : i < l.length) (u : Value) (g : Int) (W : World) (hgg : l.getD i 0 = g) (k : Row W u l) => (show Calls Try.prog 13 #[u, .int .i64 g] W fun e w' => e = .returned (.tuple #[.int .i64 (i : Int), .bool true]) ∧ W = w' from by
    have h := cofind_any u l g W k
    rw [← hgg, Co.find_at hc hi] at h
    rw [← hgg]
    exact h))
  obtain ⟨p, c, rfl, _⟩ := hr.form
  have HR := Lib.hid hr
  have HS := Lib.hid (rshort12_any p l.length c w)
  rw [decide_eq_true hn] at HS
  have hsz : (ByteArray.mk a.toArray).size = a.length := rfl
  have hsz2 : (ByteArray.mk b.toArray).size = b.length := rfl
  have hsz3 : (ByteArray.mk t.toArray).size = t.length := rfl
  have hq : ¬ (500 : Int) < (a.length : Int) + (b.length : Int) := by omega
  have hq2 : (t.length : Int) ≤ 4 + 2 * (l.length : Int) := by omega
  dsimp only at HG
  generalize a.length = an at *
  generalize b.length = bn at *
  generalize t.length = tn at *
  generalize l.length = n at *
  clear hr hc hg h0 hu hr2 hul hrl hlen
  go_enter Try.func4, Try.ntmps4
  go_wp2_with fail
  refine HS.out.mono ?_
  rintro e w1 ⟨rfl, rfl⟩
  go_wp2_with fail
  refine HP.out.mono ?_
  rintro e w2 ⟨rfl, lo⟩
  have HL2 := Lib.hid lo
  have HR2 := Lib.hid (HR.out.lo lo)
  clear lo HP HS
  go_wp2_with fail
  refine (HG.out _).mono ?_
  rintro e w3 ⟨p3, c3, rfl, hrow, lo⟩
  have HL3 := Lib.hid (HL2.out.trans lo)
  have HR3 := Lib.hid (HR2.out.lo lo)
  have HM3 := Lib.hid hrow
  clear lo HG HL2 HR2 hrow x1 x2
  go_wp2_with fail
  go_loop [11] (fun i => ∃ k : Nat, k ≤ n ∧ i = .int .i64 (k : Int)) (fun i => n - (intOf i).toNat)
  case atStart => exact ⟨0, Nat.zero_le _, rfl⟩
  case round =>
    obtain ⟨k, hk, rfl⟩ := hrel
    by_cases hlt : k < n
    · obtain ⟨b0, off, rfl, ck⟩ := HR3.out.at_ hlt
      have HFk := Lib.hid (HF.out k hlt _ _ _ rfl HR3.out)
      generalize l.getD k 0 = g at *
      go_wp2_with fail
      refine HFk.out.mono ?_
      rintro e w4 ⟨rfl, rfl⟩
      go_wp2_with fail
      go_round
      case rel => exact ⟨k + 1, by omega, by go_num⟩
      case measure => simp [intOf]; omega
    · obtain rfl : k = n := by omega
      go_wp2_with fail
      refine (HD.out _).mono ?_
      rintro e w4 ⟨rfl, lo⟩
      have HL4 := Lib.hid (HL3.out.trans lo)
      have HR4 := Lib.hid (HR3.out.lo lo)
      have HM4 := Lib.hid (HM3.out.lo lo)
      clear lo HD HL3 HR3 HM3
      go_wp2_with fail
      refine (HN.out _ _ _ HR4.out HM4.out).mono ?_
      rintro e w5 ⟨rfl, lo⟩
      have HL5 := Lib.hid (HL4.out.trans lo)
      clear lo HN HL4
      go_wp2_with fail
      go_ret
      exact ⟨ret_bool (by simp; try omega), HL5.out⟩

theorem coverBack_walk (v : Value) (l : List Int) (a b : ByteArray) (w : World) (hr : Row w v l) (_w1 : a.size ≤ maxLen) (z1 : a.data.toList.length ≤ reachBytes) (_w2 : b.size ≤ maxLen) (z2 : b.data.toList.length ≤ reachBytes) :
    Calls Try.prog 4 #[v, .string a, .string b] w fun e w' => e = .returned (.bool true) ∧ Below w.heap.size w w' := by
  unfold reachBytes at z1 z2
  by_cases hc : 500 < l.length ∨ 500 < a.data.toList.length + b.data.toList.length
  · obtain ⟨p, c, rfl, _⟩ := hr.form
    exact coverBack_far p l.length c a.data.toList b.data.toList w (by omega) (by omega) hc
  · by_cases h0 : (Co.put l).2 = 0
    · exact coverBack_ok v l a.data.toList b.data.toList w hr (by omega) (by omega) h0
    · exact coverBack_no v l a.data.toList b.data.toList w hr (by omega) (by omega) h0
end Go.Proofs.Ytnamkelmbhankaa
