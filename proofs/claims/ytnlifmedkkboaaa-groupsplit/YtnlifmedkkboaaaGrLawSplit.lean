/-
  The walk of the law GroupSplit. No conditions beyond those stated.
-/
import Derived.Test.YtnlifmedkkboaaaGrLawBack
namespace Go.Proofs.Ytnlifmedkkboaaa
open Go.RowKit

set_option maxRecDepth 100000 in
set_option maxHeartbeats 3200000 in
theorem groupSplit_no (v : Value) (l : List Ch.Span) (step ch : Int) (w : World) (hr : SRow w v l) (he : (Gp.split l step).2 ≠ 0) : Calls Try.prog 5 #[v, .int .i64 step, .int .i64 ch] w fun e w' => e = .returned (.bool true) ∧ Lo w w' := by
  have HS := Lib.hid (short_any v l w hr)
  have HSp := Lib.hid (fun (W : World) (h : SRow W v l) => gsplit_any l v step W h)
  have HD := Lib.hid (fun W => grouped_any W)
  have HI := Lib.hid (fun (W : World) (h : SRow W v l) => cis_any v l W h)
  have HR := Lib.hid hr
  unfold GotShort at HS
  obtain ⟨n1, n2⟩ := Gp.split_no he
  unfold GotSp at HSp
  rw [n1] at HSp
  generalize (Gp.split l step).2 = z at *
  have hz : (z != 0) = true := by simpa using he
  have HC : Hid ((Ch.isL l = false ∧ z = 1) ∨ (Ch.isL l = true ∧ step < 0 ∧ z = 1) ∨ (Ch.isL l = true ∧ ¬ step < 0 ∧ 1 < step ∧ z = 1) ∨ (Ch.isL l = true ∧ ¬ step < 0 ∧ ¬ 1 < step ∧ ¬ z = 1)) := Lib.hid (by
    cases e : Ch.isL l with
    | false => exact .inl ⟨rfl, n2.2 (.inl e)⟩
    | true =>
      by_cases c1 : step < 0
      · exact .inr (.inl ⟨rfl, c1, n2.2 (.inr (.inl c1))⟩)
      · by_cases c2 : 1 < step
        · exact .inr (.inr (.inl ⟨rfl, c1, c2, n2.2 (.inr (.inr c2))⟩))
        · refine .inr (.inr (.inr ⟨rfl, c1, c2, fun h => ?_⟩))
          rcases n2.1 h with k | k | k
          · rw [e] at k; cases k
          · exact c1 k
          · exact c2 k)
  generalize Ch.isL l = il at *
  clear n1 n2 he hr
  go_enter Try.func5, Try.ntmps5
  go_wp2_with fail
  refine HS.out.mono ?_
  rintro e w1 ⟨b, rfl, _, lo⟩
  have HL := Lib.hid lo
  have HR1 := Lib.hid (RowK.lo HR.out lo)
  clear lo HS HR
  cases b with
  | false =>
    clear HD HSp HI HC
    go_wp2_with fail
    go_ret
    exact ⟨rfl, HL.out⟩
  | true =>
    go_wp2_with fail
    refine (HSp.out _ HR1.out).mono ?_
    rintro e w2 ⟨p2, c2, rfl, _, lo⟩
    have HL2 := Lib.hid (HL.out.trans lo)
    have HR2 := Lib.hid (RowK.lo HR1.out lo)
    clear lo HSp HR1
    go_wp2_with fail
    refine (HD.out _).mono ?_
    rintro e w3 ⟨rfl, lo⟩
    have HL3 := Lib.hid (HL2.out.trans lo)
    have HR3 := Lib.hid (RowK.lo HR2.out lo)
    clear lo HD HR2
    go_wp2_with fail
    refine (HI.out _ HR3.out).mono ?_
    rintro e w4 ⟨rfl, lo⟩
    have HL4 := Lib.hid (HL3.out.trans lo)
    clear lo HI HR3
    rcases HC.out with ⟨rfl, rfl⟩ | ⟨rfl, c1, rfl⟩ | ⟨rfl, c1, c2, rfl⟩ | ⟨rfl, c1, c2, c3⟩
    · clear HC
      go_wp2_with fail
      go_ret
      exact ⟨rfl, HL4.out⟩
    · clear HC
      go_wp2_with fail
      go_ret
      exact ⟨rfl, HL4.out⟩
    · clear HC
      go_wp2_with fail
      go_ret
      exact ⟨rfl, HL4.out⟩
    · have hz1 : (z == 1) = false := by simpa using c3
      clear HC
      go_wp2_with fail
      go_ret
      exact ⟨ret_bool (by rw [decide_eq_false (by omega), decide_eq_false (by omega)]; rfl), HL4.out⟩

set_option maxRecDepth 100000 in
set_option maxHeartbeats 3200000 in
theorem groupSplit_ok (v : Value) (l : List Ch.Span) (step ch : Int) (w : World) (hr : SRow w v l) (he : (Gp.split l step).2 = 0) : Calls Try.prog 5 #[v, .int .i64 step, .int .i64 ch] w fun e w' => e = .returned (.bool true) ∧ Lo w w' := by
  have HS := Lib.hid (short_any v l w hr)
  have HSp := Lib.hid (fun (W : World) (h : SRow W v l) => gsplit_any l v step W h)
  have HD := Lib.hid (fun W => grouped_any W)
  have HK := Lib.hid (fun (W : World) (h : SRow W v l) => clook_any v l ch W h)
  have HR := Lib.hid hr
  unfold GotShort at HS
  obtain ⟨m1, m2, m3, _⟩ := Gp.split_right he
  have hlk := Gp.split_look he ch
  have hml := @Gp.split_len l step
  have HSp2 := Lib.hid (fun (u : Value) (W : World) (h : SRow W u (Gp.split l step).1) => gsplit_any _ u step W h)
  have HI := Lib.hid (fun (u : Value) (W : World) (h : SRow W u (Gp.split l step).1) => cis_any u _ W h)
  have HK2 := Lib.hid (fun (u : Value) (c : Int) (W : World) (h : SRow W u (Gp.split l step).1) => clook_any u _ c W h)
  have HSm := Lib.hid (fun (v u : Value) (W : World) (h : SRow W v (Gp.split l step).1) (h2 : SRow W u (Gp.split l step).1) => ssame_any _ v u W h h2)
  have HY : Hid (∀ y ∈ (Gp.split l step).1, y.st = step ∧ Ch.Look (Gp.split l step).1 y.to ≠ 0) := Lib.hid (fun y hy => ⟨(m2 y hy).1, by unfold Ch.Look; rw [if_pos m1]; exact (m2 y hy).2⟩)
  unfold GotSp at HSp HSp2
  rw [m3] at HSp2
  rw [m1] at HI
  rw [he] at HSp
  generalize (Gp.split l step).1 = m at *
  clear m1 m2 m3 he hr
  obtain ⟨n, hn⟩ : ∃ n, m.length = n := ⟨_, rfl⟩
  dsimp only at HSp2
  rw [hn] at HSp HSp2 hml
  have HN := Lib.hid hn
  have HLk := Lib.hid hlk
  clear hn hlk
  go_enter Try.func5, Try.ntmps5
  go_wp2_with fail
  refine HS.out.mono ?_
  rintro e w1 ⟨b, rfl, _, lo⟩
  have HL := Lib.hid lo
  have HR1 := Lib.hid (RowK.lo HR.out lo)
  clear lo HS HR
  cases b with
  | false =>
    clear HD HSp HI HK HK2 HSm HY HSp2
    go_wp2_with fail
    go_ret
    exact ⟨rfl, HL.out⟩
  | true =>
    go_wp2_with fail
    refine (HSp.out _ HR1.out).mono ?_
    rintro e w2 ⟨p2, c2, rfl, hrow, lo⟩
    have HL2 := Lib.hid (HL.out.trans lo)
    have HR2 := Lib.hid (RowK.lo HR1.out lo)
    have HM2 := Lib.hid hrow
    clear lo HSp HR1 hrow HL
    go_wp2_with fail
    go_loopw [9] (fun i wr => ∃ k : Nat, k ≤ n ∧ i = .int .i64 (k : Int) ∧ Hid (Lo w2 wr)) (fun i _ => n - (intOf i).toNat)
    case atStart => exact ⟨0, Nat.zero_le _, rfl, Lib.hid (Lo.refl _)⟩
    case round =>
      obtain ⟨k, hk, rfl, HX⟩ := hrel
      by_cases hlt : k < n
      · have hx : m[k]? = some (m.getD k Ch.zs) := Ch.getD_some (by rw [HN.out]; exact hlt)
        have HRx := Lib.hid (RowK.lo HM2.out HX.out)
        obtain ⟨b, off, rfl, r0, r1, r2, r3⟩ := SRow.at4 HRx.out hx
        obtain ⟨y1, y2⟩ := HY.out _ (List.mem_of_getElem? hx)
        have HK3 := Lib.hid (HK2.out _ (m.getD k Ch.zs).to _ HRx.out)
        clear hx
        generalize m.getD k Ch.zs = x at *
        obtain ⟨fr, tt, gl, st⟩ := x
        dsimp only at r0 r1 r2 r3 y1 y2 HK3
        subst y1
        generalize Ch.Look m tt = q at *
        have hq : (q == 0) = false := by simpa using y2
        go_wp2_with fail
        refine HK3.out.mono ?_
        rintro e w3 ⟨rfl, lo⟩
        have HX2 := Lib.hid (Lo.trans HX.out lo)
        clear lo HK3
        go_wp2_with fail
        go_roundw
        case rel => exact ⟨k + 1, by omega, by go_num, HX2⟩
        case measure => simp [intOf]; omega
      · obtain rfl : k = n := by omega
        have HL3 := Lib.hid (Lo.trans HL2.out HX.out)
        have HR3 := Lib.hid (RowK.lo HR2.out HX.out)
        have HM3 := Lib.hid (RowK.lo HM2.out HX.out)
        clear HY HX HR2 HM2 HL2
        go_wp2_with fail
        refine (HSp2.out _ _ HM3.out).mono ?_
        rintro e w4 ⟨p4, c4, rfl, hrow, lo⟩
        have HL4 := Lib.hid (HL3.out.trans lo)
        have HR4 := Lib.hid (RowK.lo HR3.out lo)
        have HM4 := Lib.hid (RowK.lo HM3.out lo)
        have HN4 := Lib.hid hrow
        clear lo HSp2 HR3 HM3 hrow
        go_wp2_with fail
        refine (HD.out _).mono ?_
        rintro e w5 ⟨rfl, lo⟩
        have HL5 := Lib.hid (HL4.out.trans lo)
        have HR5 := Lib.hid (RowK.lo HR4.out lo)
        have HM5 := Lib.hid (RowK.lo HM4.out lo)
        have HN5 := Lib.hid (RowK.lo HN4.out lo)
        clear lo HD HR4 HM4 HN4
        go_wp2_with fail
        refine (HI.out _ _ HM5.out).mono ?_
        rintro e w6 ⟨rfl, lo⟩
        have HL6 := Lib.hid (HL5.out.trans lo)
        have HR6 := Lib.hid (RowK.lo HR5.out lo)
        have HM6 := Lib.hid (RowK.lo HM5.out lo)
        have HN6 := Lib.hid (RowK.lo HN5.out lo)
        clear lo HI HR5 HM5 HN5
        go_wp2_with fail
        refine (HSm.out _ _ _ HM6.out HN6.out).mono ?_
        rintro e w7 ⟨rfl, lo⟩
        have HL7 := Lib.hid (HL6.out.trans lo)
        have HR7 := Lib.hid (RowK.lo HR6.out lo)
        have HM7 := Lib.hid (RowK.lo HM6.out lo)
        clear lo HSm HR6 HM6 HN6
        go_wp2_with fail
        refine (HK2.out _ _ _ HM7.out).mono ?_
        rintro e w8 ⟨rfl, lo⟩
        have HL8 := Lib.hid (HL7.out.trans lo)
        have HR8 := Lib.hid (RowK.lo HR7.out lo)
        clear lo HK2 HR7 HM7
        go_wp2_with fail
        refine (HK.out _ HR8.out).mono ?_
        rintro e w9 ⟨rfl, lo⟩
        have HL9 := Lib.hid (HL8.out.trans lo)
        clear lo HK HR8
        rw [HLk.out]
        go_wp2_with fail
        go_ret
        exact ⟨ret_bool (by simp), HL9.out⟩

theorem groupSplit_walk (v : Value) (l : List Ch.Span) (step ch : Int) (w : World) (hr : SRow w v l) (_wf : (Lit.int .i64 step).wf = true) (_wc : (Lit.int .i64 ch).wf = true) : Calls Try.prog 5 #[v, .int .i64 step, .int .i64 ch] w fun e w' => e = .returned (.bool true) ∧ Below w.heap.size w w' := by
  by_cases he : (Gp.split l step).2 = 0
  · exact groupSplit_ok v l step ch w hr he
  · exact groupSplit_no v l step ch w hr he
end Go.Proofs.Ytnlifmedkkboaaa
