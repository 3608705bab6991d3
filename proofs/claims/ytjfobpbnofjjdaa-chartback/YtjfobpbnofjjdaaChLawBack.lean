/-
  The walk of the law ChartBack. No conditions beyond those stated.
-/
import Derived.Test.YtjfobpbnofjjdaaChSame
namespace Ch
open Bn He
theorem put0_none {l : List Span} (h : (putSmall l).2 ≠ 0) : (putSmall l).1 = [] := by
  unfold putSmall at *
  by_cases c1 : isL l = false
  · rw [if_pos c1]
  · rw [if_neg c1] at h ⊢
    by_cases c2 : 0 ≤ (ends l).1 ∧ 255 < (ends l).2
    · rw [if_pos c2]
    · rw [if_neg c2] at h ⊢
      by_cases c3 : (List.range 256).any (fun c : Nat => decide (255 < look l (c : Int))) = true
      · rw [if_pos c3]
      · rw [if_neg c3] at h; exact absurd rfl h
theorem put0_is {l : List Span} (h : (putSmall l).2 = 0) : isL l = true := by
  cases hl : isL l with
  | true => rfl
  | false => rw [put0_arg hl] at h; cases h
theorem put0_len (l : List Span) : (putSmall l).1.length ≤ 262 := by
  by_cases h : (putSmall l).2 = 0
  · unfold putSmall at *
    by_cases c1 : isL l = false
    · rw [if_pos c1]; simp
    · rw [if_neg c1] at h ⊢
      by_cases c2 : 0 ≤ (ends l).1 ∧ 255 < (ends l).2
      · rw [if_pos c2]; simp
      · rw [if_neg c2] at h ⊢
        by_cases c3 : (List.range 256).any (fun c : Nat => decide (255 < look l (c : Int))) = true
        · rw [if_pos c3]; simp
        · rw [if_neg c3]
          simp [small]
  · rw [put0_none h]; simp
theorem put6_none {l : List Span} (h : (putTrimmed l).2 ≠ 0) : (putTrimmed l).1 = [] := by
  cases hl : isL l with
  | false => rw [put6_arg hl]
  | true =>
    by_cases hc : 65536 < first l + count l ∨ 32762 < count l
    · rw [put6_long hl hc]
    · rw [put6_right hl hc] at h; exact absurd rfl h
theorem put6_is {l : List Span} (h : (putTrimmed l).2 = 0) : isL l = true := by
  cases hl : isL l with
  | true => rfl
  | false => rw [put6_arg hl] at h; cases h
theorem put6_len' (l : List Span) : (putTrimmed l).1.length ≤ 65534 := by
  cases hl : isL l with
  | false => rw [put6_arg hl]; simp
  | true =>
    by_cases hc : 65536 < first l + count l ∨ 32762 < count l
    · rw [put6_long hl hc]; simp
    · rw [put6_right hl hc]
      unfold trimmed
      simp only [List.length_append, bytes_len, flat_len, List.length_map, List.length_range]
      have : (2 : Int).natAbs = 2 := rfl
      simp only [this, List.length_cons, List.length_nil]
      omega
/-- What is put and got tells the same glyph. -/
theorem back0 {l : List Span} (h : (putSmall l).2 = 0) (c : Int) : (get (putSmall l).1).2 = 0 ∧ Look (get (putSmall l).1).1 c = Look l c := by
  obtain ⟨h1, h2, h3⟩ := get_small h
  refine ⟨h1, ?_⟩
  unfold Look
  rw [if_pos h2, if_pos (put0_is h), h3]
theorem back6 {l : List Span} (h : (putTrimmed l).2 = 0) (c : Int) : (get (putTrimmed l).1).2 = 0 ∧ Look (get (putTrimmed l).1).1 c = Look l c := by
  obtain ⟨h1, h2, h3⟩ := look_trimmed h
  refine ⟨h1, ?_⟩
  unfold Look
  rw [if_pos h2, if_pos (put6_is h), h3]
theorem Look_no' {l : List Span} (h : isL l = false) (c : Int) : Look l c = 0 := by unfold Look; rw [h]; rfl
end Ch
namespace Go.Proofs.Ytjfobpbnofjjdaa
open Go.RowKit

set_option maxRecDepth 100000 in
set_option maxHeartbeats 3200000 in
theorem chartBack_no (v : Value) (l : List Ch.Span) (c : Int) (w : World) (hr : SRow w v l) (hf : l.length ≤ 60) (hs : Ch.short l = true) (he : (Ch.putSmall l).2 ≠ 0) (hq : (Ch.putTrimmed l).2 ≠ 0) (hl : Ch.isL l = false) : Calls Try.prog 4 #[v, .int .i64 c] w fun e w' => e = .returned (.bool true) ∧ Lo w w' := by
  have HFw := Lib.hid (fun W h => few_any v l W h)
  have HSh := Lib.hid (fun W h => short_any v l W h)
  have HP := Lib.hid (fun W h => putSmall_any v l W h)
  have HQ := Lib.hid (fun W h => putTrimmed_any v l W h)
  have HK := Lib.hid (fun W h => clook_any v l c W h)
  have HI := Lib.hid (fun W h => cis_any v l W h)
  have HD := Lib.hid (fun W => charted_any W)
  rw [decide_eq_true hf] at HFw
  rw [hs] at HSh
  rw [hl] at HI
  unfold strErr at HP HQ
  rw [Ch.put0_none he] at HP
  generalize (Ch.putSmall l).2 = e0 at *
  have heb : (e0 == 0) = false := by rw [beq_eq_false_iff_ne]; exact he
  rw [Ch.put6_none hq] at HQ
  generalize (Ch.putTrimmed l).2 = f0 at *
  have hfb : (f0 == 0) = false := by rw [beq_eq_false_iff_ne]; exact hq
  rw [Ch.Look_no' hl c] at HK
  clear hf hs hl
  have HR := Lib.hid hr
  clear hr
  go_enter Try.func4, Try.ntmps4
  go_wp2_with fail
  refine (HFw.out _ HR.out).mono ?_
  rintro e w1 ⟨rfl, lo⟩
  have HL := Lib.hid lo
  have HR := Lib.hid (RowK.lo HR.out lo)
  clear lo HFw
  go_wp2_with fail
  refine (HSh.out _ HR.out).mono ?_
  rintro e w2 ⟨rfl, lo⟩
  have HL := Lib.hid (HL.out.trans lo)
  have HR := Lib.hid (RowK.lo HR.out lo)
  clear lo HSh
  go_wp2_with fail
  refine (HP.out _ HR.out).mono ?_
  rintro e w3 ⟨rfl, lo⟩
  have HL := Lib.hid (HL.out.trans lo)
  have HR := Lib.hid (RowK.lo HR.out lo)
  clear lo HP
  go_wp2_with fail
  refine (HQ.out _ HR.out).mono ?_
  rintro e w4 ⟨rfl, lo⟩
  have HL := Lib.hid (HL.out.trans lo)
  have HR := Lib.hid (RowK.lo HR.out lo)
  clear lo HQ
  go_wp2_with fail
  refine (HK.out _ HR.out).mono ?_
  rintro e w5 ⟨rfl, lo⟩
  have HL := Lib.hid (HL.out.trans lo)
  have HR := Lib.hid (RowK.lo HR.out lo)
  clear lo HK
  go_wp2_with fail
  refine (HD.out _).mono ?_
  rintro e w10 ⟨rfl, lo⟩
  have HL := Lib.hid (HL.out.trans lo)
  have HR := Lib.hid (RowK.lo HR.out lo)
  clear lo HD
  go_wp2_with fail
  refine (HI.out _ HR.out).mono ?_
  rintro e w11 ⟨rfl, lo⟩
  have HL := Lib.hid (HL.out.trans lo)
  clear lo HI HR
  go_wp2_with fail
  go_ret
  exact ⟨by first | rfl | simp, HL.out⟩

set_option maxRecDepth 100000 in
set_option maxHeartbeats 3200000 in
theorem chartBack_00 (v : Value) (l : List Ch.Span) (c : Int) (w : World) (hr : SRow w v l) (hf : l.length ≤ 60) (hs : Ch.short l = true) (he : (Ch.putSmall l).2 = 0) (hq : (Ch.putTrimmed l).2 = 0) (hl : Ch.isL l = true) : Calls Try.prog 4 #[v, .int .i64 c] w fun e w' => e = .returned (.bool true) ∧ Lo w w' := by
  have HFw := Lib.hid (fun W h => few_any v l W h)
  have HSh := Lib.hid (fun W h => short_any v l W h)
  have HP := Lib.hid (fun W h => putSmall_any v l W h)
  have HQ := Lib.hid (fun W h => putTrimmed_any v l W h)
  have HK := Lib.hid (fun W h => clook_any v l c W h)
  have HI := Lib.hid (fun W h => cis_any v l W h)
  have HD := Lib.hid (fun W => charted_any W)
  rw [decide_eq_true hf] at HFw
  rw [hs] at HSh
  rw [hl] at HI
  unfold strErr at HP HQ
  obtain ⟨b1, b2⟩ := Ch.back0 he c
  have hl0 := Ch.put0_len l
  have HG := Lib.hid (fun W => cget_any (Ch.putSmall l).1 W (by omega))
  have HK0 := Lib.hid (fun (u : Value) (W : World) h => clook_any u (Ch.get (Ch.putSmall l).1).1 c W h)
  unfold GotSp at HG
  rw [b1] at HG
  rw [b2] at HK0
  rw [he] at HP
  generalize (Ch.get (Ch.putSmall l).1).1 = m0 at *
  generalize (Ch.putSmall l).1 = s at *
  obtain ⟨d1, d2⟩ := Ch.back6 hq c
  have hl6 := Ch.put6_len' l
  have HG6 := Lib.hid (fun W => cget_any (Ch.putTrimmed l).1 W (by omega))
  have HK6 := Lib.hid (fun (u : Value) (W : World) h => clook_any u (Ch.get (Ch.putTrimmed l).1).1 c W h)
  unfold GotSp at HG6
  rw [d1] at HG6
  rw [d2] at HK6
  rw [hq] at HQ
  generalize (Ch.get (Ch.putTrimmed l).1).1 = m6 at *
  generalize (Ch.putTrimmed l).1 = t at *
  generalize Ch.Look l c = g at *
  clear hf hs hl
  have HR := Lib.hid hr
  clear hr
  go_enter Try.func4, Try.ntmps4
  go_wp2_with fail
  refine (HFw.out _ HR.out).mono ?_
  rintro e w1 ⟨rfl, lo⟩
  have HL := Lib.hid lo
  have HR := Lib.hid (RowK.lo HR.out lo)
  clear lo HFw
  go_wp2_with fail
  refine (HSh.out _ HR.out).mono ?_
  rintro e w2 ⟨rfl, lo⟩
  have HL := Lib.hid (HL.out.trans lo)
  have HR := Lib.hid (RowK.lo HR.out lo)
  clear lo HSh
  go_wp2_with fail
  refine (HP.out _ HR.out).mono ?_
  rintro e w3 ⟨rfl, lo⟩
  have HL := Lib.hid (HL.out.trans lo)
  have HR := Lib.hid (RowK.lo HR.out lo)
  clear lo HP
  go_wp2_with fail
  refine (HQ.out _ HR.out).mono ?_
  rintro e w4 ⟨rfl, lo⟩
  have HL := Lib.hid (HL.out.trans lo)
  have HR := Lib.hid (RowK.lo HR.out lo)
  clear lo HQ
  go_wp2_with fail
  refine (HK.out _ HR.out).mono ?_
  rintro e w5 ⟨rfl, lo⟩
  have HL := Lib.hid (HL.out.trans lo)
  have HR := Lib.hid (RowK.lo HR.out lo)
  clear lo HK
  go_wp2_with fail
  refine (HG.out _).mono ?_
  rintro e w6 ⟨p6, c6, rfl, hrow, lo⟩
  have HL := Lib.hid (HL.out.trans lo)
  have HR := Lib.hid (RowK.lo HR.out lo)
  have HM := Lib.hid hrow
  clear lo HG hrow
  go_wp2_with fail
  refine (HK0.out _ _ HM.out).mono ?_
  rintro e w7 ⟨rfl, lo⟩
  have HL := Lib.hid (HL.out.trans lo)
  have HR := Lib.hid (RowK.lo HR.out lo)
  clear lo HK0 HM
  go_wp2_with fail
  refine (HG6.out _).mono ?_
  rintro e w8 ⟨p8, c8, rfl, hrow, lo⟩
  have HL := Lib.hid (HL.out.trans lo)
  have HR := Lib.hid (RowK.lo HR.out lo)
  have HM := Lib.hid hrow
  clear lo HG6 hrow
  go_wp2_with fail
  refine (HK6.out _ _ HM.out).mono ?_
  rintro e w9 ⟨rfl, lo⟩
  have HL := Lib.hid (HL.out.trans lo)
  have HR := Lib.hid (RowK.lo HR.out lo)
  clear lo HK6 HM
  go_wp2_with fail
  refine (HD.out _).mono ?_
  rintro e w10 ⟨rfl, lo⟩
  have HL := Lib.hid (HL.out.trans lo)
  have HR := Lib.hid (RowK.lo HR.out lo)
  clear lo HD
  go_wp2_with fail
  refine (HI.out _ HR.out).mono ?_
  rintro e w11 ⟨rfl, lo⟩
  have HL := Lib.hid (HL.out.trans lo)
  clear lo HI HR
  go_wp2_with fail
  go_ret
  exact ⟨by first | rfl | simp, HL.out⟩

set_option maxRecDepth 100000 in
set_option maxHeartbeats 3200000 in
theorem chartBack_07 (v : Value) (l : List Ch.Span) (c : Int) (w : World) (hr : SRow w v l) (hf : l.length ≤ 60) (hs : Ch.short l = true) (he : (Ch.putSmall l).2 = 0) (hq : (Ch.putTrimmed l).2 ≠ 0) (hl : Ch.isL l = true) : Calls Try.prog 4 #[v, .int .i64 c] w fun e w' => e = .returned (.bool true) ∧ Lo w w' := by
  have HFw := Lib.hid (fun W h => few_any v l W h)
  have HSh := Lib.hid (fun W h => short_any v l W h)
  have HP := Lib.hid (fun W h => putSmall_any v l W h)
  have HQ := Lib.hid (fun W h => putTrimmed_any v l W h)
  have HK := Lib.hid (fun W h => clook_any v l c W h)
  have HI := Lib.hid (fun W h => cis_any v l W h)
  have HD := Lib.hid (fun W => charted_any W)
  rw [decide_eq_true hf] at HFw
  rw [hs] at HSh
  rw [hl] at HI
  unfold strErr at HP HQ
  obtain ⟨b1, b2⟩ := Ch.back0 he c
  have hl0 := Ch.put0_len l
  have HG := Lib.hid (fun W => cget_any (Ch.putSmall l).1 W (by omega))
  have HK0 := Lib.hid (fun (u : Value) (W : World) h => clook_any u (Ch.get (Ch.putSmall l).1).1 c W h)
  unfold GotSp at HG
  rw [b1] at HG
  rw [b2] at HK0
  rw [he] at HP
  generalize (Ch.get (Ch.putSmall l).1).1 = m0 at *
  generalize (Ch.putSmall l).1 = s at *
  rw [Ch.put6_none hq] at HQ
  generalize (Ch.putTrimmed l).2 = f0 at *
  have hfb : (f0 == 0) = false := by rw [beq_eq_false_iff_ne]; exact hq
  generalize Ch.Look l c = g at *
  clear hf hs hl
  have HR := Lib.hid hr
  clear hr
  go_enter Try.func4, Try.ntmps4
  go_wp2_with fail
  refine (HFw.out _ HR.out).mono ?_
  rintro e w1 ⟨rfl, lo⟩
  have HL := Lib.hid lo
  have HR := Lib.hid (RowK.lo HR.out lo)
  clear lo HFw
  go_wp2_with fail
  refine (HSh.out _ HR.out).mono ?_
  rintro e w2 ⟨rfl, lo⟩
  have HL := Lib.hid (HL.out.trans lo)
  have HR := Lib.hid (RowK.lo HR.out lo)
  clear lo HSh
  go_wp2_with fail
  refine (HP.out _ HR.out).mono ?_
  rintro e w3 ⟨rfl, lo⟩
  have HL := Lib.hid (HL.out.trans lo)
  have HR := Lib.hid (RowK.lo HR.out lo)
  clear lo HP
  go_wp2_with fail
  refine (HQ.out _ HR.out).mono ?_
  rintro e w4 ⟨rfl, lo⟩
  have HL := Lib.hid (HL.out.trans lo)
  have HR := Lib.hid (RowK.lo HR.out lo)
  clear lo HQ
  go_wp2_with fail
  refine (HK.out _ HR.out).mono ?_
  rintro e w5 ⟨rfl, lo⟩
  have HL := Lib.hid (HL.out.trans lo)
  have HR := Lib.hid (RowK.lo HR.out lo)
  clear lo HK
  go_wp2_with fail
  refine (HG.out _).mono ?_
  rintro e w6 ⟨p6, c6, rfl, hrow, lo⟩
  have HL := Lib.hid (HL.out.trans lo)
  have HR := Lib.hid (RowK.lo HR.out lo)
  have HM := Lib.hid hrow
  clear lo HG hrow
  go_wp2_with fail
  refine (HK0.out _ _ HM.out).mono ?_
  rintro e w7 ⟨rfl, lo⟩
  have HL := Lib.hid (HL.out.trans lo)
  have HR := Lib.hid (RowK.lo HR.out lo)
  clear lo HK0 HM
  go_wp2_with fail
  refine (HD.out _).mono ?_
  rintro e w10 ⟨rfl, lo⟩
  have HL := Lib.hid (HL.out.trans lo)
  have HR := Lib.hid (RowK.lo HR.out lo)
  clear lo HD
  go_wp2_with fail
  refine (HI.out _ HR.out).mono ?_
  rintro e w11 ⟨rfl, lo⟩
  have HL := Lib.hid (HL.out.trans lo)
  clear lo HI HR
  go_wp2_with fail
  go_ret
  exact ⟨by first | rfl | simp, HL.out⟩

set_option maxRecDepth 100000 in
set_option maxHeartbeats 3200000 in
theorem chartBack_70 (v : Value) (l : List Ch.Span) (c : Int) (w : World) (hr : SRow w v l) (hf : l.length ≤ 60) (hs : Ch.short l = true) (he : (Ch.putSmall l).2 ≠ 0) (hq : (Ch.putTrimmed l).2 = 0) (hl : Ch.isL l = true) : Calls Try.prog 4 #[v, .int .i64 c] w fun e w' => e = .returned (.bool true) ∧ Lo w w' := by
  have HFw := Lib.hid (fun W h => few_any v l W h)
  have HSh := Lib.hid (fun W h => short_any v l W h)
  have HP := Lib.hid (fun W h => putSmall_any v l W h)
  have HQ := Lib.hid (fun W h => putTrimmed_any v l W h)
  have HK := Lib.hid (fun W h => clook_any v l c W h)
  have HI := Lib.hid (fun W h => cis_any v l W h)
  have HD := Lib.hid (fun W => charted_any W)
  rw [decide_eq_true hf] at HFw
  rw [hs] at HSh
  rw [hl] at HI
  unfold strErr at HP HQ
  rw [Ch.put0_none he] at HP
  generalize (Ch.putSmall l).2 = e0 at *
  have heb : (e0 == 0) = false := by rw [beq_eq_false_iff_ne]; exact he
  obtain ⟨d1, d2⟩ := Ch.back6 hq c
  have hl6 := Ch.put6_len' l
  have HG6 := Lib.hid (fun W => cget_any (Ch.putTrimmed l).1 W (by omega))
  have HK6 := Lib.hid (fun (u : Value) (W : World) h => clook_any u (Ch.get (Ch.putTrimmed l).1).1 c W h)
  unfold GotSp at HG6
  rw [d1] at HG6
  rw [d2] at HK6
  rw [hq] at HQ
  generalize (Ch.get (Ch.putTrimmed l).1).1 = m6 at *
  generalize (Ch.putTrimmed l).1 = t at *
  generalize Ch.Look l c = g at *
  clear hf hs hl
  have HR := Lib.hid hr
  clear hr
  go_enter Try.func4, Try.ntmps4
  go_wp2_with fail
  refine (HFw.out _ HR.out).mono ?_
  rintro e w1 ⟨rfl, lo⟩
  have HL := Lib.hid lo
  have HR := Lib.hid (RowK.lo HR.out lo)
  clear lo HFw
  go_wp2_with fail
  refine (HSh.out _ HR.out).mono ?_
  rintro e w2 ⟨rfl, lo⟩
  have HL := Lib.hid (HL.out.trans lo)
  have HR := Lib.hid (RowK.lo HR.out lo)
  clear lo HSh
  go_wp2_with fail
  refine (HP.out _ HR.out).mono ?_
  rintro e w3 ⟨rfl, lo⟩
  have HL := Lib.hid (HL.out.trans lo)
  have HR := Lib.hid (RowK.lo HR.out lo)
  clear lo HP
  go_wp2_with fail
  refine (HQ.out _ HR.out).mono ?_
  rintro e w4 ⟨rfl, lo⟩
  have HL := Lib.hid (HL.out.trans lo)
  have HR := Lib.hid (RowK.lo HR.out lo)
  clear lo HQ
  go_wp2_with fail
  refine (HK.out _ HR.out).mono ?_
  rintro e w5 ⟨rfl, lo⟩
  have HL := Lib.hid (HL.out.trans lo)
  have HR := Lib.hid (RowK.lo HR.out lo)
  clear lo HK
  go_wp2_with fail
  refine (HG6.out _).mono ?_
  rintro e w8 ⟨p8, c8, rfl, hrow, lo⟩
  have HL := Lib.hid (HL.out.trans lo)
  have HR := Lib.hid (RowK.lo HR.out lo)
  have HM := Lib.hid hrow
  clear lo HG6 hrow
  go_wp2_with fail
  refine (HK6.out _ _ HM.out).mono ?_
  rintro e w9 ⟨rfl, lo⟩
  have HL := Lib.hid (HL.out.trans lo)
  have HR := Lib.hid (RowK.lo HR.out lo)
  clear lo HK6 HM
  go_wp2_with fail
  refine (HD.out _).mono ?_
  rintro e w10 ⟨rfl, lo⟩
  have HL := Lib.hid (HL.out.trans lo)
  have HR := Lib.hid (RowK.lo HR.out lo)
  clear lo HD
  go_wp2_with fail
  refine (HI.out _ HR.out).mono ?_
  rintro e w11 ⟨rfl, lo⟩
  have HL := Lib.hid (HL.out.trans lo)
  clear lo HI HR
  go_wp2_with fail
  go_ret
  exact ⟨by first | rfl | simp, HL.out⟩

set_option maxRecDepth 100000 in
set_option maxHeartbeats 3200000 in
theorem chartBack_77 (v : Value) (l : List Ch.Span) (c : Int) (w : World) (hr : SRow w v l) (hf : l.length ≤ 60) (hs : Ch.short l = true) (he : (Ch.putSmall l).2 ≠ 0) (hq : (Ch.putTrimmed l).2 ≠ 0) (hl : Ch.isL l = true) : Calls Try.prog 4 #[v, .int .i64 c] w fun e w' => e = .returned (.bool true) ∧ Lo w w' := by
  have HFw := Lib.hid (fun W h => few_any v l W h)
  have HSh := Lib.hid (fun W h => short_any v l W h)
  have HP := Lib.hid (fun W h => putSmall_any v l W h)
  have HQ := Lib.hid (fun W h => putTrimmed_any v l W h)
  have HK := Lib.hid (fun W h => clook_any v l c W h)
  have HI := Lib.hid (fun W h => cis_any v l W h)
  have HD := Lib.hid (fun W => charted_any W)
  rw [decide_eq_true hf] at HFw
  rw [hs] at HSh
  rw [hl] at HI
  unfold strErr at HP HQ
  rw [Ch.put0_none he] at HP
  generalize (Ch.putSmall l).2 = e0 at *
  have heb : (e0 == 0) = false := by rw [beq_eq_false_iff_ne]; exact he
  rw [Ch.put6_none hq] at HQ
  generalize (Ch.putTrimmed l).2 = f0 at *
  have hfb : (f0 == 0) = false := by rw [beq_eq_false_iff_ne]; exact hq
  generalize Ch.Look l c = g at *
  clear hf hs hl
  have HR := Lib.hid hr
  clear hr
  go_enter Try.func4, Try.ntmps4
  go_wp2_with fail
  refine (HFw.out _ HR.out).mono ?_
  rintro e w1 ⟨rfl, lo⟩
  have HL := Lib.hid lo
  have HR := Lib.hid (RowK.lo HR.out lo)
  clear lo HFw
  go_wp2_with fail
  refine (HSh.out _ HR.out).mono ?_
  rintro e w2 ⟨rfl, lo⟩
  have HL := Lib.hid (HL.out.trans lo)
  have HR := Lib.hid (RowK.lo HR.out lo)
  clear lo HSh
  go_wp2_with fail
  refine (HP.out _ HR.out).mono ?_
  rintro e w3 ⟨rfl, lo⟩
  have HL := Lib.hid (HL.out.trans lo)
  have HR := Lib.hid (RowK.lo HR.out lo)
  clear lo HP
  go_wp2_with fail
  refine (HQ.out _ HR.out).mono ?_
  rintro e w4 ⟨rfl, lo⟩
  have HL := Lib.hid (HL.out.trans lo)
  have HR := Lib.hid (RowK.lo HR.out lo)
  clear lo HQ
  go_wp2_with fail
  refine (HK.out _ HR.out).mono ?_
  rintro e w5 ⟨rfl, lo⟩
  have HL := Lib.hid (HL.out.trans lo)
  have HR := Lib.hid (RowK.lo HR.out lo)
  clear lo HK
  go_wp2_with fail
  refine (HD.out _).mono ?_
  rintro e w10 ⟨rfl, lo⟩
  have HL := Lib.hid (HL.out.trans lo)
  have HR := Lib.hid (RowK.lo HR.out lo)
  clear lo HD
  go_wp2_with fail
  refine (HI.out _ HR.out).mono ?_
  rintro e w11 ⟨rfl, lo⟩
  have HL := Lib.hid (HL.out.trans lo)
  clear lo HI HR
  go_wp2_with fail
  go_ret
  exact ⟨by first | rfl | simp, HL.out⟩

set_option maxHeartbeats 800000 in
theorem chartBack_many (v : Value) (l : List Ch.Span) (c : Int) (w : World) (hr : SRow w v l) (hf : ¬ l.length ≤ 60) : Calls Try.prog 4 #[v, .int .i64 c] w fun e w' => e = .returned (.bool true) ∧ Lo w w' := by
  have HFw := Lib.hid (fun W h => few_any v l W h)
  rw [decide_eq_false hf] at HFw
  go_enter Try.func4, Try.ntmps4
  go_wp2_with fail
  refine (HFw.out _ hr).mono ?_
  rintro e w1 ⟨rfl, lo⟩
  have HL := Lib.hid lo
  clear lo HFw hr
  go_wp2_with fail
  go_ret
  exact ⟨rfl, HL.out⟩
set_option maxHeartbeats 800000 in
theorem chartBack_long (v : Value) (l : List Ch.Span) (c : Int) (w : World) (hr : SRow w v l) (hf : l.length ≤ 60) (hs : Ch.short l = false) : Calls Try.prog 4 #[v, .int .i64 c] w fun e w' => e = .returned (.bool true) ∧ Lo w w' := by
  have HFw := Lib.hid (fun W h => few_any v l W h)
  have HSh := Lib.hid (fun W h => short_any v l W h)
  rw [decide_eq_true hf] at HFw
  rw [hs] at HSh
  go_enter Try.func4, Try.ntmps4
  go_wp2_with fail
  refine (HFw.out _ hr).mono ?_
  rintro e w1 ⟨rfl, lo⟩
  have HL := Lib.hid lo
  have HR := Lib.hid (RowK.lo hr lo)
  clear lo HFw hr
  go_wp2_with fail
  refine (HSh.out _ HR.out).mono ?_
  rintro e w2 ⟨rfl, lo⟩
  have HL := Lib.hid (HL.out.trans lo)
  clear lo HSh
  go_wp2_with fail
  go_ret
  exact ⟨rfl, HL.out⟩

theorem chartBack_walk (v : Value) (l : List Ch.Span) (c : Int) (w : World) (hr : SRow w v l) (_wc : (Lit.int .i64 c).wf = true) : Calls Try.prog 4 #[v, .int .i64 c] w fun e w' => e = .returned (.bool true) ∧ Below w.heap.size w w' := by
  by_cases hf : l.length ≤ 60
  · cases hs : Ch.short l with
    | false => exact chartBack_long v l c w hr hf hs
    | true =>
      cases hl : Ch.isL l with
      | false => exact chartBack_no v l c w hr hf hs (by rw [Ch.put0_arg hl]; decide) (by rw [Ch.put6_arg hl]; decide) hl
      | true =>
        by_cases he : (Ch.putSmall l).2 = 0
        · by_cases hq : (Ch.putTrimmed l).2 = 0
          · exact chartBack_00 v l c w hr hf hs he hq hl
          · exact chartBack_07 v l c w hr hf hs he hq hl
        · by_cases hq : (Ch.putTrimmed l).2 = 0
          · exact chartBack_70 v l c w hr hf hs he hq hl
          · exact chartBack_77 v l c w hr hf hs he hq hl
  · exact chartBack_many v l c w hr hf
end Go.Proofs.Ytjfobpbnofjjdaa
