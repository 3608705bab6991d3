/-
  The walk of the law CutinOnly. No conditions beyond those stated.
-/
import Derived.Test.YtcnmfgdeanbhoaaCuTold
namespace Cu
open Bn He
theorem isK_len {l : List Kern} (h : isK l = true) : l.length ≤ 65535 := by
  have := Co.cov_len ((isK_iff l).1 h).2
  rwa [glyphs_len] at this
theorem put_short {l : List Kern} (h : (put l).2 = 0) : (put l).1.length ≤ 400000 := by
  obtain ⟨h1, h2, h3, h4⟩ := put_ok h
  rw [h4]
  obtain ⟨_, _, q3, q4, q5, q6⟩ := put_end h1 (by omega) (show room l (upTo l l.length 0) by rw [upTo_all]; exact h3)
  rw [q3, List.length_append, List.length_append]
  omega
end Cu
namespace Go.Proofs.Ytcnmfgdeanbhoaa
open Go.RowKit

set_option maxHeartbeats 400000 in
theorem conly_far (s : List UInt8) (pos : Int) (w : World) (h : 2000 < s.length) : Calls Try.prog 6 #[.string ⟨s.toArray⟩, .int .i64 pos] w fun e w' => e = .returned (.bool true) ∧ Lo w w' := by
  have hsz : (ByteArray.mk s.toArray).size = s.length := rfl
  have hz : (2000 : Int) < (s.length : Int) := by omega
  generalize s.length = n at *
  go_enter Try.func6, Try.ntmps6
  go_wp2_with fail
  go_ret
  exact ⟨rfl, Lo.refl _⟩

set_option maxHeartbeats 800000 in
theorem conly_no (s : List UInt8) (pos : Int) (w : World) (h : s.length ≤ 2000) (h1 : pos ≤ 9223372036854775807) (h0 : (Cu.get s pos).2 ≠ 0) : Calls Try.prog 6 #[.string ⟨s.toArray⟩, .int .i64 pos] w fun e w' => e = .returned (.bool true) ∧ Lo w w' := by
  have HG := Lib.hid (fun W => cuget_any s pos W (by omega) h1)
  have e : Cu.get s pos = ([], (Cu.get s pos).2) := Prod.ext (Cu.get_none h0) rfl
  rw [e] at HG
  unfold GotKerns at HG
  dsimp only at HG
  rw [show ([] : List Cu.Kern).length = 0 from rfl] at HG
  have hkb : ((Cu.get s pos).2 == 0) = false := by simpa using h0
  have HT := Lib.hid (fun W => stepped_any W)
  have hsz : (ByteArray.mk s.toArray).size = s.length := rfl
  have hz : ¬ (2000 : Int) < (s.length : Int) := by omega
  generalize (Cu.get s pos).2 = k at *
  generalize s.length = n at *
  clear e h0 h1
  go_enter Try.func6, Try.ntmps6
  go_wp2_with fail
  refine (HG.out _).mono ?_
  rintro e w1 ⟨p, c, rfl, _, lo⟩
  have HL := Lib.hid lo
  clear lo HG
  go_wp2_with fail
  refine (HT.out _).mono ?_
  rintro e w2 ⟨rfl, lo⟩
  have HL2 := Lib.hid (HL.out.trans lo)
  clear lo HT
  go_wp2_with fail
  go_ret
  exact ⟨rfl, HL2.out⟩

set_option maxHeartbeats 1600000 in
theorem conly_long (s : List UInt8) (pos : Int) (l : List Cu.Kern) (w : World) (h : s.length ≤ 2000) (h1 : pos ≤ 9223372036854775807) (h0 : Cu.get s pos = (l, 0)) (hp : (Cu.put l).2 ≠ 0) : Calls Try.prog 6 #[.string ⟨s.toArray⟩, .int .i64 pos] w fun e w' => e = .returned (.bool true) ∧ Lo w w' := by
  have his : Cu.isK l = true := by
    have := Cu.get_is (s := s) (pos := pos) (by rw [h0])
    rwa [h0] at this
  have hn := Cu.isK_len his
  have hp7 : (Cu.put l).2 = 7 := by
    rcases (Cu.put_no hp).2 with ⟨q, _⟩ | ⟨_, q⟩
    · rw [his] at q; cases q
    · exact q
  have HG := Lib.hid (fun W => cuget_any s pos W (by omega) h1)
  rw [h0] at HG
  unfold GotKerns at HG
  have HI := Lib.hid (fun (u : Value) (W : World) (k : KRowC W u l) => curight_any u l W k (by omega))
  rw [his] at HI
  have HP := Lib.hid (fun (u : Value) (W : World) (k : KRowC W u l) => cuput_any u l W k (by omega))
  unfold strErr at HP
  rw [hp7] at HP
  have HT := Lib.hid (fun W => stepped_any W)
  have hsz : (ByteArray.mk s.toArray).size = s.length := rfl
  have hz : ¬ (2000 : Int) < (s.length : Int) := by omega
  dsimp only at HG
  generalize (Cu.put l).1 = t at *
  generalize l.length = k at *
  generalize s.length = n at *
  clear his h0 h1 hp hp7
  go_enter Try.func6, Try.ntmps6
  go_wp2_with fail
  refine (HG.out _).mono ?_
  rintro e w1 ⟨p, c, rfl, hrow, lo⟩
  have HL := Lib.hid lo
  have HR := Lib.hid hrow
  clear lo HG hrow
  go_wp2_with fail
  refine (HI.out _ _ HR.out).mono ?_
  rintro e w2 ⟨rfl, lo⟩
  have HL2 := Lib.hid (HL.out.trans lo)
  have HR2 := Lib.hid (KRowC.lo HR.out lo)
  clear lo HI HL HR
  go_wp2_with fail
  refine (HP.out _ _ HR2.out).mono ?_
  rintro e w3 ⟨rfl, lo⟩
  have HL3 := Lib.hid (HL2.out.trans lo)
  clear lo HP HL2 HR2
  go_wp2_with fail
  refine (HT.out _).mono ?_
  rintro e w4 ⟨rfl, lo⟩
  have HL4 := Lib.hid (HL3.out.trans lo)
  clear lo HT
  go_wp2_with fail
  go_ret
  exact ⟨rfl, HL4.out⟩

set_option maxHeartbeats 1600000 in
theorem conly_yes (s : List UInt8) (pos : Int) (l : List Cu.Kern) (w : World) (h : s.length ≤ 2000) (h1 : pos ≤ 9223372036854775807) (h0 : Cu.get s pos = (l, 0)) (hp : (Cu.put l).2 = 0) : Calls Try.prog 6 #[.string ⟨s.toArray⟩, .int .i64 pos] w fun e w' => e = .returned (.bool true) ∧ Lo w w' := by
  have his : Cu.isK l = true := by
    have := Cu.get_is (s := s) (pos := pos) (by rw [h0])
    rwa [h0] at this
  have hn := Cu.isK_len his
  have htl := Cu.put_short hp
  have hback := Cu.get_put hp [] []
  rw [List.nil_append, List.append_nil, show (([] : List UInt8).length : Int) = 0 from rfl] at hback
  have HG := Lib.hid (fun W => cuget_any s pos W (by omega) h1)
  rw [h0] at HG
  unfold GotKerns at HG
  have HG2 := Lib.hid (fun W => cuget_any (Cu.put l).1 0 W (by omega) (by omega))
  rw [hback] at HG2
  unfold GotKerns at HG2
  have HI := Lib.hid (fun (u : Value) (W : World) (k : KRowC W u l) => curight_any u l W k (by omega))
  rw [his] at HI
  have HP := Lib.hid (fun (u : Value) (W : World) (k : KRowC W u l) => cuput_any u l W k (by omega))
  unfold strErr at HP
  rw [hp] at HP
  have HS := Lib.hid (fun (v u : Value) (W : World) (k : KRowC W v l) (k2 : KRowC W u l) => samek_any l v u W k k2)
  have HT := Lib.hid (fun W => stepped_any W)
  have hsz : (ByteArray.mk s.toArray).size = s.length := rfl
  have hz : ¬ (2000 : Int) < (s.length : Int) := by omega
  dsimp only at HG HG2
  generalize (Cu.put l).1 = t at *
  generalize l.length = k at *
  generalize s.length = n at *
  clear his h0 h1 hp hback htl
  go_enter Try.func6, Try.ntmps6
  go_wp2_with fail
  refine (HG.out _).mono ?_
  rintro e w1 ⟨p, c, rfl, hrow, lo⟩
  have HL := Lib.hid lo
  have HR := Lib.hid hrow
  clear lo HG hrow
  go_wp2_with fail
  refine (HI.out _ _ HR.out).mono ?_
  rintro e w2 ⟨rfl, lo⟩
  have HL2 := Lib.hid (HL.out.trans lo)
  have HR2 := Lib.hid (KRowC.lo HR.out lo)
  clear lo HI HL HR
  go_wp2_with fail
  refine (HP.out _ _ HR2.out).mono ?_
  rintro e w3 ⟨rfl, lo⟩
  have HL3 := Lib.hid (HL2.out.trans lo)
  have HR3 := Lib.hid (KRowC.lo HR2.out lo)
  clear lo HP HL2 HR2
  go_wp2_with fail
  refine (HG2.out _).mono ?_
  rintro e w4 ⟨p4, c4, rfl, hrow, lo⟩
  have HL4 := Lib.hid (HL3.out.trans lo)
  have HR4 := Lib.hid (KRowC.lo HR3.out lo)
  have HM4 := Lib.hid hrow
  clear lo HG2 HL3 HR3 hrow
  go_wp2_with fail
  refine (HT.out _).mono ?_
  rintro e w5 ⟨rfl, lo⟩
  have HL5 := Lib.hid (HL4.out.trans lo)
  have HR5 := Lib.hid (KRowC.lo HR4.out lo)
  have HM5 := Lib.hid (KRowC.lo HM4.out lo)
  clear lo HT HL4 HR4 HM4
  go_wp2_with fail
  refine (HS.out _ _ _ HR5.out HM5.out).mono ?_
  rintro e w6 ⟨rfl, lo⟩
  have HL6 := Lib.hid (HL5.out.trans lo)
  clear lo HS
  go_wp2_with fail
  go_ret
  exact ⟨rfl, HL6.out⟩

theorem cutinOnly_walk (a : ByteArray) (pos : Int) (w : World) (_w0 : a.size ≤ maxLen) (w1 : (Lit.int .i64 pos).wf = true) :
    Calls Try.prog 6 #[.string a, .int .i64 pos] w fun e w' => e = .returned (.bool true) ∧ Below w.heap.size w w' := by
  have hb : pos ≤ 9223372036854775807 := by
    have h1 : (decide (IntKind.i64.min ≤ pos) && decide (pos ≤ IntKind.i64.max)) = true := w1
    rw [show IntKind.i64.min = -9223372036854775808 by decide, show IntKind.i64.max = 9223372036854775807 by decide] at h1
    simp only [Bool.and_eq_true, decide_eq_true_eq] at h1
    exact h1.2
  by_cases hc : 2000 < a.data.toList.length
  · exact conly_far a.data.toList pos w hc
  · by_cases h0 : (Cu.get a.data.toList pos).2 = 0
    · have e : Cu.get a.data.toList pos = ((Cu.get a.data.toList pos).1, 0) := Prod.ext rfl h0
      by_cases hp : (Cu.put (Cu.get a.data.toList pos).1).2 = 0
      · exact conly_yes a.data.toList pos _ w (by omega) hb e hp
      · exact conly_long a.data.toList pos _ w (by omega) hb e hp
    · exact conly_no a.data.toList pos w (by omega) hb h0
end Go.Proofs.Ytcnmfgdeanbhoaa
