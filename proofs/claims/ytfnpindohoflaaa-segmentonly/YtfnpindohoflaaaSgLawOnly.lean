/-
  The walk of the law SegmentOnly. No conditions beyond those stated.
-/
import Derived.Test.YtfnpindohoflaaaSgParted
import Derived.Test.YtfnpindohoflaaaChLook2
namespace Sg
open Bn He Ch
theorem put_len (l : List Span) : (put l).1.length ≤ 65535 := by
  by_cases h : (put l).2 = 0
  · obtain ⟨_, _, _, _, hlen⟩ := get_put h []
    rw [hlen]
    have hm : (manyOf l).2.2 = 0 := by
      unfold put at h
      by_cases c : (manyOf l).2.2 ≠ 0
      · rw [if_pos c] at h; exact absurd h c
      · exact Decidable.not_not.1 c
    obtain ⟨_, _, hs, e1, e2⟩ := manyOf_ok hm
    rw [e1, e2]
    exact hs
  · rw [(put_refused h).1]; simp
theorem again {l : List Span} (h : (put l).2 = 0) (more : List UInt8) (c : Int) : (get ((put l).1 ++ more)).2 = 0 ∧ isL (get ((put l).1 ++ more)).1 = true ∧ Look (get ((put l).1 ++ more)).1 c = Look l c ∧ isL l = true := by
  obtain ⟨h1, h2, h3, h4, _⟩ := get_put h more
  refine ⟨h1, h2, ?_, h4⟩
  unfold Look
  rw [if_pos h2, if_pos h4, h3]
end Sg
namespace Go.Proofs.Ytfnpindohoflaaa
open Go.RowKit

set_option maxRecDepth 100000 in
set_option maxHeartbeats 3200000 in
theorem segmentOnly_list (s : List UInt8) (ch : Int) (w : World) (hs : s.length ≤ 9223372036854775807) : Calls Try.prog 5 #[.string ⟨s.toArray⟩, .int .i64 ch] w fun e w' => e = .returned (.bool true) ∧ Lo w w' := by
  have hsz : (ByteArray.mk s.toArray).size = s.length := rfl
  rcases Nat.lt_or_ge 3000 s.length with h3 | h3
  · have hz : (3000 : Int) < (s.length : Int) := by omega
    generalize s.length = n at *
    go_enter Try.func5, Try.ntmps5
    go_wp2_with fail
    go_ret
    exact ⟨rfl, Lo.refl _⟩
  · have HG := Lib.hid (fun W => sget_any s W hs)
    have HD := Lib.hid (fun W => parted_any W)
    unfold GotSp at HG
    by_cases h0 : (Sg.get s).2 = 0
    · obtain ⟨g1, _⟩ := Sg.get_right h0
      have hout := fun (h : ch < 0 ∨ 65535 < ch) => (show Ch.Look (Sg.get s).1 ch = 0 by unfold Ch.Look; rw [if_pos g1]; exact Sg.look_out h0 h)
      have HP := Lib.hid (fun (v : Value) (W : World) (h : SRow W v (Sg.get s).1) => sput_any v _ W h)
      have HI := Lib.hid (fun (v : Value) (W : World) (h : SRow W v (Sg.get s).1) => cis_any v _ W h)
      have HK := Lib.hid (fun (v : Value) (W : World) (h : SRow W v (Sg.get s).1) => clook_any v _ ch W h)
      have hpl := Sg.put_len (Sg.get s).1
      rw [g1] at HI
      unfold strErr at HP
      rw [h0] at HG
      generalize (Sg.get s).1 = l at *
      clear h0
      generalize hsn : s.length = sn at *
      have hz : ¬ (3000 : Int) < (sn : Int) := by omega
      clear hsn
      by_cases hp : (Sg.put l).2 = 0
      · obtain ⟨a1, _, a3, _⟩ := Sg.again hp [] ch
        rw [List.append_nil] at a1 a3
        have HG2 := Lib.hid (fun W => sget_any (Sg.put l).1 W (by omega))
        have HK2 := Lib.hid (fun (v : Value) (W : World) (h : SRow W v (Sg.get (Sg.put l).1).1) => clook_any v _ ch W h)
        unfold GotSp at HG2
        rw [a1] at HG2
        rw [a3] at HK2
        rw [hp] at HP
        generalize (Sg.get (Sg.put l).1).1 = m at *
        generalize (Sg.put l).1 = t at *
        clear a1 a3 hp hpl g1
        generalize Ch.Look l ch = k at *
        go_enter Try.func5, Try.ntmps5
        go_wp2_with fail
        refine (HG.out _).mono ?_
        rintro e w1 ⟨p, c, rfl, hrow, lo⟩
        have HL := Lib.hid lo
        have HR := Lib.hid hrow
        clear lo hrow HG
        go_wp2_with fail
        refine (HI.out _ _ HR.out).mono ?_
        rintro e w2 ⟨rfl, lo⟩
        have HL2 := Lib.hid (HL.out.trans lo)
        have HR2 := Lib.hid (RowK.lo HR.out lo)
        clear lo HI HR
        go_wp2_with fail
        refine (HP.out _ _ HR2.out).mono ?_
        rintro e w3 ⟨rfl, lo⟩
        have HL3 := Lib.hid (HL2.out.trans lo)
        have HR3 := Lib.hid (RowK.lo HR2.out lo)
        clear lo HP HR2
        go_wp2_with fail
        refine (HG2.out _).mono ?_
        rintro e w4 ⟨p4, c4, rfl, hrow, lo⟩
        have HL4 := Lib.hid (HL3.out.trans lo)
        have HR4 := Lib.hid (RowK.lo HR3.out lo)
        have HM4 := Lib.hid hrow
        clear lo hrow HG2 HR3
        go_wp2_with fail
        refine (HD.out _).mono ?_
        rintro e w5 ⟨rfl, lo⟩
        have HL5 := Lib.hid (HL4.out.trans lo)
        have HR5 := Lib.hid (RowK.lo HR4.out lo)
        have HM5 := Lib.hid (RowK.lo HM4.out lo)
        clear lo HD HR4 HM4
        go_wp2_with fail
        refine (HK2.out _ _ HM5.out).mono ?_
        rintro e w6 ⟨rfl, lo⟩
        have HL6 := Lib.hid (HL5.out.trans lo)
        have HR6 := Lib.hid (RowK.lo HR5.out lo)
        clear lo HK2 HR5 HM5
        go_wp2_with fail
        refine (HK.out _ _ HR6.out).mono ?_
        rintro e w7 ⟨rfl, lo⟩
        have HL7 := Lib.hid (HL6.out.trans lo)
        have HR7 := Lib.hid (RowK.lo HR6.out lo)
        clear lo HR6
        by_cases q1 : 0 ≤ ch
        · by_cases q2 : ch ≤ 65535
          · clear hout
            go_wp2_with fail
            go_ret
            exact ⟨ret_bool (by simp), HL7.out⟩
          · have hk := hout (by omega)
            clear hout
            go_wp2_with fail
            refine (HK.out _ _ HR7.out).mono ?_
            rintro e w8 ⟨rfl, lo⟩
            have HL8 := Lib.hid (HL7.out.trans lo)
            clear lo
            go_wp2_with fail
            go_ret
            exact ⟨ret_bool (by simp), HL8.out⟩
        · have hk := hout (by omega)
          clear hout
          go_wp2_with fail
          refine (HK.out _ _ HR7.out).mono ?_
          rintro e w8 ⟨rfl, lo⟩
          have HL8 := Lib.hid (HL7.out.trans lo)
          clear lo
          go_wp2_with fail
          go_ret
          exact ⟨ret_bool (by simp), HL8.out⟩
      · have h7 : (Sg.put l).2 = 7 := by rw [(Sg.put_refused hp).2]; exact (Sg.manyOf_no (by rw [← (Sg.put_refused hp).2]; exact hp)).2.2.2 g1
        rw [h7] at HP
        generalize (Sg.put l).1 = t at *
        clear hpl hp h7 hout HK g1
        go_enter Try.func5, Try.ntmps5
        go_wp2_with fail
        refine (HG.out _).mono ?_
        rintro e w1 ⟨p, c, rfl, hrow, lo⟩
        have HL := Lib.hid lo
        have HR := Lib.hid hrow
        clear lo hrow HG
        go_wp2_with fail
        refine (HI.out _ _ HR.out).mono ?_
        rintro e w2 ⟨rfl, lo⟩
        have HL2 := Lib.hid (HL.out.trans lo)
        have HR2 := Lib.hid (RowK.lo HR.out lo)
        clear lo HI HR
        go_wp2_with fail
        refine (HP.out _ _ HR2.out).mono ?_
        rintro e w3 ⟨rfl, lo⟩
        have HL3 := Lib.hid (HL2.out.trans lo)
        clear lo HP HR2
        go_wp2_with fail
        refine (HD.out _).mono ?_
        rintro e w5 ⟨rfl, lo⟩
        have HL5 := Lib.hid (HL3.out.trans lo)
        clear lo HD
        go_wp2_with fail
        go_ret
        exact ⟨rfl, HL5.out⟩
    · have hnil := Sg.get_none h0
      rw [hnil] at HG
      generalize (Sg.get s).2 = k at *
      generalize hsn : s.length = sn at *
      have hz : ¬ (3000 : Int) < (sn : Int) := by omega
      clear hsn hnil
      rw [List.length_nil] at HG
      go_enter Try.func5, Try.ntmps5
      go_wp2_with fail
      refine (HG.out _).mono ?_
      rintro e w1 ⟨p, c, rfl, hrow, lo⟩
      have HL := Lib.hid lo
      clear lo hrow HG
      go_wp2_with fail
      refine (HD.out _).mono ?_
      rintro e w2 ⟨rfl, lo⟩
      have HL2 := Lib.hid (HL.out.trans lo)
      clear lo HD
      go_wp2_with fail
      go_ret
      exact ⟨rfl, HL2.out⟩

theorem segmentOnly_walk (a : ByteArray) (ch : Int) (w : World) (h : a.size ≤ maxLen) (_wc : (Lit.int .i64 ch).wf = true) : Calls Try.prog 5 #[.string a, .int .i64 ch] w fun e w' => e = .returned (.bool true) ∧ Below w.heap.size w w' := by
  have h1 : a.size = a.data.toList.length := rfl
  exact segmentOnly_list a.data.toList ch w (by rw [h1] at h; unfold maxLen at h; omega)
end Go.Proofs.Ytfnpindohoflaaa
