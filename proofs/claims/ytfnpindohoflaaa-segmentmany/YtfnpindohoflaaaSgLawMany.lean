/-
  The walk of the law SegmentMany. No conditions beyond those stated.
-/
import Derived.Test.YtfnpindohoflaaaSgParted
import Derived.Test.YtfnpindohoflaaaSgShort
import Derived.Test.YtfnpindohoflaaaChIs
namespace Sg
open Ch
theorem many_facts {l : List Span} (h : (manyOf l).2.2 = 0) : (put l).2 = 0 ∧ (put l).1.length = 16 + 8 * (manyOf l).1 + 2 * (manyOf l).2.1 ∧ (manyOf l).1 ≤ l.length + 1 ∧ isL l = true := by
  have hp : (put l).2 = 0 := by unfold put; rw [if_neg (by rw [h]; simp)]
  obtain ⟨_, _, _, h4, h5⟩ := get_put hp []
  obtain ⟨_, _, _, e1, _⟩ := manyOf_ok h
  refine ⟨hp, h5, ?_, h4⟩
  rw [e1]
  have hk : (kept l).length ≤ l.length := List.length_filter_le _ _
  unfold whole
  by_cases e : ended (kept l) = true
  · rw [if_pos e]; omega
  · rw [if_neg e, List.length_append]; simp; omega
theorem more_put {l : List Span} (h : isL l = true) {f : Int} (hf : lastTo (-1) l < f) (hf2 : f ≤ 1114111) (hl : l.length ≤ 60) : put (l ++ [⟨f, 1114111, 0, 0⟩]) = put l := by
  have hc := isL_links h
  have hlo := (lastTo_max l (-1) hc).1
  refine (put_more h ?_ ?_).1
  · unfold isL
    rw [chain_snoc, hc]
    simp only [Bool.true_and, Bool.and_eq_true, decide_eq_true_eq, List.length_append, List.length_cons, List.length_nil]
    refine ⟨⟨(okSpan_iff _).2 ⟨by show 0 ≤ f; omega, hf2, by simp, by simp, by simp, by simp, by simp, by simp⟩, hf⟩, by omega⟩
  · unfold hasGl
    simp
end Sg
namespace Go.Proofs.Ytfnpindohoflaaa
open Go.RowKit

set_option maxRecDepth 100000 in
set_option maxHeartbeats 3200000 in
theorem segmentMany_no (v : Value) (l : List Ch.Span) (f : Int) (w : World) (hr : SRow w v l) (hm : (Sg.manyOf l).2.2 ≠ 0) : Calls Try.prog 7 #[v, .int .i64 f] w fun e w' => e = .returned (.bool true) ∧ Lo w w' := by
  have HS := Lib.hid (short_any v l w hr)
  have HM := Lib.hid (fun (W : World) (h : SRow W v l) => smany_any v l W h)
  have HP := Lib.hid (fun (W : World) (h : SRow W v l) => sput_any v l W h)
  have HI := Lib.hid (fun (W : World) (h : SRow W v l) => cis_any v l W h)
  have HD := Lib.hid (fun W => parted_any W)
  have HR := Lib.hid hr
  obtain ⟨m1, m2, m3, m4⟩ := Sg.manyOf_no hm
  have hp : Sg.put l = ([], (Sg.manyOf l).2.2) := by unfold Sg.put; rw [if_pos hm]
  rw [hp] at HP
  unfold manyEnd at HM
  rw [m1, m2] at HM
  unfold strErr at HP
  unfold GotShort at HS
  have hk : ((Sg.manyOf l).2.2 = 1 ∧ Ch.isL l = false) ∨ ((Sg.manyOf l).2.2 = 7 ∧ Ch.isL l = true) := by
    cases hi : Ch.isL l with
    | false => exact .inl ⟨m3.2 hi, rfl⟩
    | true => exact .inr ⟨m4 hi, rfl⟩
  generalize (Sg.manyOf l).2.2 = k at *
  generalize Ch.isL l = y at *
  clear m1 m2 m3 m4 hp hr hm
  go_enter Try.func7, Try.ntmps7
  go_wp2_with fail
  refine HS.out.mono ?_
  rintro e w1 ⟨b, rfl, _, lo⟩
  have HL := Lib.hid lo
  have HR1 := Lib.hid (RowK.lo HR.out lo)
  clear lo HS HR
  cases b with
  | false =>
    clear HM HP HI HD
    go_wp2_with fail
    go_ret
    exact ⟨rfl, HL.out⟩
  | true =>
    rcases hk with ⟨rfl, rfl⟩ | ⟨rfl, rfl⟩
    all_goals
      go_wp2_with fail
      refine (HM.out _ HR1.out).mono ?_
      rintro e w2 ⟨rfl, lo⟩
      have HL2 := Lib.hid (HL.out.trans lo)
      have HR2 := Lib.hid (RowK.lo HR1.out lo)
      clear lo HM HR1
      go_wp2_with fail
      refine (HP.out _ HR2.out).mono ?_
      rintro e w3 ⟨rfl, lo⟩
      have HL3 := Lib.hid (HL2.out.trans lo)
      have HR3 := Lib.hid (RowK.lo HR2.out lo)
      clear lo HP HR2
      go_wp2_with fail
      refine (HD.out _).mono ?_
      rintro e w4 ⟨rfl, lo⟩
      have HL4 := Lib.hid (HL3.out.trans lo)
      have HR4 := Lib.hid (RowK.lo HR3.out lo)
      clear lo HD HR3
      go_wp2_with fail
      refine (HI.out _ HR4.out).mono ?_
      rintro e w5 ⟨rfl, lo⟩
      have HL5 := Lib.hid (HL4.out.trans lo)
      clear lo HI HR4
      go_wp2_with fail
      go_ret
      exact ⟨rfl, HL5.out⟩

set_option maxRecDepth 100000 in
set_option maxHeartbeats 6400000 in
theorem segmentMany_yes (v : Value) (l : List Ch.Span) (f : Int) (w : World) (hr : SRow w v l) (hm : (Sg.manyOf l).2.2 = 0) : Calls Try.prog 7 #[v, .int .i64 f] w fun e w' => e = .returned (.bool true) ∧ Lo w w' := by
  have HS := Lib.hid (short_any v l w hr)
  have HM := Lib.hid (fun (W : World) (h : SRow W v l) => smany_any v l W h)
  have HP := Lib.hid (fun (W : World) (h : SRow W v l) => sput_any v l W h)
  have HP2 := Lib.hid (fun (u : Value) (W : World) (h : SRow W u (l ++ [⟨f, 1114111, 0, 0⟩])) => sput_any u _ W h)
  have HD := Lib.hid (fun W => parted_any W)
  have HR := Lib.hid hr
  obtain ⟨hp, hlen, hle, hl⟩ := Sg.many_facts hm
  have HMo := Lib.hid (fun (hf : Ch.lastTo (-1) l < f) (hf2 : f ≤ 1114111) (hl60 : l.length ≤ 60) => Sg.more_put hl hf hf2 hl60)
  have HLt : Hid (0 < l.length → Ch.lastTo (-1) l = (l.getD (l.length - 1) Ch.zs).to) := Lib.hid (fun h0 => Sg.lastTo_at h0)
  have HL0 : Hid (l.length = 0 → Ch.lastTo (-1) l = -1) := Lib.hid (fun h0 => by rw [List.length_eq_zero_iff.1 h0]; rfl)
  have htz : (ByteArray.mk (Sg.put l).1.toArray).size = (Sg.put l).1.length := rfl
  have hts : (Sg.put l).1.length ≤ 65535 := by
    obtain ⟨_, _, hs, e1, e2⟩ := Sg.manyOf_ok hm
    rw [hlen, e1, e2]; exact hs
  obtain ⟨p, c, rfl, hl63⟩ := RowK.form hr
  unfold manyEnd at HM
  rw [hm] at HM
  unfold strErr at HP HP2
  rw [hp] at HP
  unfold GotShort at HS
  generalize hpe : (Sg.put l).1 = t at *
  have hpp : Sg.put l = (t, 0) := by rw [← hpe, ← hp]
  rw [hpp] at HMo
  generalize t.length = tn at *
  generalize (Sg.manyOf l).1 = n at *
  generalize (Sg.manyOf l).2.1 = g at *
  generalize hln : l.length = ln at *
  have HN := Lib.hid hln
  clear hr hm hp hpe hpp hl hln
  go_enter Try.func7, Try.ntmps7
  go_wp2_with fail
  refine HS.out.mono ?_
  rintro e w1 ⟨b, rfl, hb, lo⟩
  have HL := Lib.hid lo
  have HR1 := Lib.hid (RowK.lo HR.out lo)
  clear lo HS HR
  cases b with
  | false =>
    clear HM HP HP2 HD HMo
    go_wp2_with fail
    go_ret
    exact ⟨rfl, HL.out⟩
  | true =>
    have HB := Lib.hid (hb rfl)
    clear hb
    go_wp2_with fail
    refine (HM.out _ HR1.out).mono ?_
    rintro e w2 ⟨rfl, lo⟩
    have HL2 := Lib.hid (HL.out.trans lo)
    have HR2 := Lib.hid (RowK.lo HR1.out lo)
    clear lo HM HR1
    go_wp2_with fail
    refine (HP.out _ HR2.out).mono ?_
    rintro e w3 ⟨rfl, lo⟩
    have HL3 := Lib.hid (HL2.out.trans lo)
    have HR3 := Lib.hid (RowK.lo HR2.out lo)
    clear lo HP HR2
    have hb60 := HB.out
    have i1 : (tn : Int) = 16 + 8 * (n : Int) + 2 * (g : Int) := by omega
    by_cases h0 : ln = 0
    · have hz := HL0.out h0
      subst h0
      rw [hz] at HMo
      clear HLt HL0 hz
      by_cases c1 : f ≤ -1
      · clear HMo HP2 HR3
        go_wp2_with fail
        refine (HD.out _).mono ?_
        rintro e w4 ⟨rfl, lo⟩
        have HL4 := Lib.hid (HL3.out.trans lo)
        clear lo HD
        go_wp2_with fail
        go_ret
        exact ⟨ret_bool (by simp), HL4.out⟩
      · by_cases c2 : 1114111 < f
        · clear HMo HP2 HR3
          go_wp2_with fail
          refine (HD.out _).mono ?_
          rintro e w4 ⟨rfl, lo⟩
          have HL4 := Lib.hid (HL3.out.trans lo)
          clear lo HD
          go_wp2_with fail
          go_ret
          exact ⟨ret_bool (by simp), HL4.out⟩
        · have _ := c2
          have HPm := Lib.hid (HMo.out (by omega) (by omega))
          rw [HPm.out] at HP2
          clear HMo HPm
          go_wp2_with (first | (at_builtin; refine wpList_appK _ rfl (.tmp 104) (.tmp 105) _ rfl 41 4 32 _ Try.underlying22 api_info rfl (by omega) (by omega) encS_len encS_one w3.heap.size (.slice none 0 0) ([] : List Ch.Span) rfl (OwnK.none _ _ _ _ _) _ l rfl HR3.out (by have := HB.out; have := HN.out; simp; omega) (Nat.le_refl _) ?_; intro q1 d1 w4 hown hlo; rw [List.length_nil, Nat.zero_add, HN.out] at hown ⊢; rw [List.nil_append] at hown; have HO4 := Lib.hid hown; have HF4 := Lib.hid (hlo w3 (Lo.refl _) (Nat.le_refl _)); clear hown hlo) | (at_builtin; refine wpList_appK _ rfl (.tmp 107) (.tmp 110) _ rfl 41 4 32 _ Try.underlying22 api_info rfl (by omega) (by omega) encS_len encS_one w3.heap.size (.slice q1 0 d1) l rfl (OwnK.lo HO4.out ((Lo.refl _).alloc _)) _ [⟨f, 1114111, 0, 0⟩] rfl (srow1 _ _ rfl ⟨f, 1114111, 0, 0⟩ _) (by have := HB.out; have := HN.out; simp; omega) (by have := HF4.out.size; simp; omega) ?_; intro q2 d2 w5 hown hlo; have HR5 := Lib.hid (OwnK.row encS_len hown); have HL5 := Lib.hid (HL3.out.trans (hlo w3 (HF4.out.alloc _) (Nat.le_refl _))); clear hown hlo))
          refine (HP2.out _ _ (by simpa using HR5.out)).mono ?_
          rintro e w6 ⟨rfl, lo⟩
          have HL6 := Lib.hid (HL5.out.trans lo)
          clear lo HP2 HR5 HO4 HF4
          go_wp2_with fail
          refine (HD.out _).mono ?_
          rintro e w7 ⟨rfl, lo⟩
          have HL7 := Lib.hid (HL6.out.trans lo)
          clear lo HD
          go_wp2_with fail
          go_ret
          exact ⟨ret_bool (by simp), HL7.out⟩
    · obtain ⟨j, rfl⟩ : ∃ j, ln = j + 1 := ⟨ln - 1, by omega⟩
      have hlt := HLt.out (by omega)
      have hj : j < l.length := by rw [HN.out]; omega
      rw [Nat.add_sub_cancel] at hlt
      obtain ⟨b, off, rfl, r0, r1, r2, r3⟩ := SRow.at4 HR3.out (Ch.getD_some hj)
      rw [← hlt] at r1
      generalize Ch.lastTo (-1) l = z at *
      clear HLt HL0 h0 hlt hj r0 r2 r3
      by_cases c1 : f ≤ z
      · clear HMo HP2 HR3
        go_wp2_with fail
        refine (HD.out _).mono ?_
        rintro e w4 ⟨rfl, lo⟩
        have HL4 := Lib.hid (HL3.out.trans lo)
        clear lo HD
        go_wp2_with fail
        go_ret
        exact ⟨ret_bool (by simp), HL4.out⟩
      · by_cases c2 : 1114111 < f
        · clear HMo HP2 HR3
          go_wp2_with fail
          refine (HD.out _).mono ?_
          rintro e w4 ⟨rfl, lo⟩
          have HL4 := Lib.hid (HL3.out.trans lo)
          clear lo HD
          go_wp2_with fail
          go_ret
          exact ⟨ret_bool (by simp), HL4.out⟩
        · have _ := c2
          have HPm := Lib.hid (HMo.out (by omega) (by omega))
          rw [HPm.out] at HP2
          clear HMo HPm
          go_wp2_with (first | (at_builtin; refine wpList_appK _ rfl (.tmp 104) (.tmp 105) _ rfl 41 4 32 _ Try.underlying22 api_info rfl (by omega) (by omega) encS_len encS_one w3.heap.size (.slice none 0 0) ([] : List Ch.Span) rfl (OwnK.none _ _ _ _ _) _ l rfl HR3.out (by have := HB.out; have := HN.out; simp; omega) (Nat.le_refl _) ?_; intro q1 d1 w4 hown hlo; rw [List.length_nil, Nat.zero_add, HN.out] at hown ⊢; rw [List.nil_append] at hown; have HO4 := Lib.hid hown; have HF4 := Lib.hid (hlo w3 (Lo.refl _) (Nat.le_refl _)); clear hown hlo) | (at_builtin; refine wpList_appK _ rfl (.tmp 107) (.tmp 110) _ rfl 41 4 32 _ Try.underlying22 api_info rfl (by omega) (by omega) encS_len encS_one w3.heap.size (.slice q1 (j + 1) d1) l rfl (OwnK.lo HO4.out ((Lo.refl _).alloc _)) _ [⟨f, 1114111, 0, 0⟩] rfl (srow1 _ _ rfl ⟨f, 1114111, 0, 0⟩ _) (by have := HB.out; have := HN.out; simp; omega) (by have := HF4.out.size; simp; omega) ?_; intro q2 d2 w5 hown hlo; have HR5 := Lib.hid (OwnK.row encS_len hown); have HL5 := Lib.hid (HL3.out.trans (hlo w3 (HF4.out.alloc _) (Nat.le_refl _))); clear hown hlo))
          refine (HP2.out _ _ (by simpa using HR5.out)).mono ?_
          rintro e w6 ⟨rfl, lo⟩
          have HL6 := Lib.hid (HL5.out.trans lo)
          clear lo HP2 HR5 HO4 HF4
          go_wp2_with fail
          refine (HD.out _).mono ?_
          rintro e w7 ⟨rfl, lo⟩
          have HL7 := Lib.hid (HL6.out.trans lo)
          clear lo HD
          go_wp2_with fail
          go_ret
          exact ⟨ret_bool (by simp), HL7.out⟩

theorem segmentMany_walk (v : Value) (l : List Ch.Span) (f : Int) (w : World) (hr : SRow w v l) (_wc : (Lit.int .i64 f).wf = true) : Calls Try.prog 7 #[v, .int .i64 f] w fun e w' => e = .returned (.bool true) ∧ Below w.heap.size w w' := by
  by_cases h : (Sg.manyOf l).2.2 = 0
  · exact segmentMany_yes v l f w hr h
  · exact segmentMany_no v l f w hr h
end Go.Proofs.Ytfnpindohoflaaa
