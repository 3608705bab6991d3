/-
  The walk of the law SegmentBack. No conditions beyond those stated.
-/
import Derived.Test.YtfnpindohoflaaaSgLawOnly
import Derived.Test.YtfnpindohoflaaaSgShort
namespace Go.Proofs.Ytfnpindohoflaaa
open Go.RowKit

set_option maxRecDepth 100000 in
set_option maxHeartbeats 3200000 in
theorem segmentBack_list (v : Value) (l : List Ch.Span) (ch : Int) (more : List UInt8) (w : World) (hr : SRow w v l) (hmo : more.length ≤ 9223372036854775807) : Calls Try.prog 4 #[v, .int .i64 ch, .string ⟨more.toArray⟩] w fun e w' => e = .returned (.bool true) ∧ Lo w w' := by
  have HS := Lib.hid (short_any v l w hr)
  have HP := Lib.hid (fun (W : World) (h : SRow W v l) => sput_any v l W h)
  have HK := Lib.hid (fun (W : World) (h : SRow W v l) => clook_any v l ch W h)
  have HD := Lib.hid (fun W => parted_any W)
  have HR := Lib.hid hr
  have hsz : (ByteArray.mk more.toArray).size = more.length := rfl
  unfold GotShort at HS
  go_enter Try.func4, Try.ntmps4
  go_wp2_with fail
  refine HS.out.mono ?_
  rintro e w1 ⟨b, rfl, _, lo⟩
  have HL := Lib.hid lo
  have HR1 := Lib.hid (RowK.lo HR.out lo)
  clear lo HS HR hr
  cases b with
  | false =>
    clear HP HK HD
    go_wp2_with fail
    go_ret
    exact ⟨rfl, HL.out⟩
  | true =>
    by_cases hm : 100 < more.length
    · have hm2 : (100 : Int) < (more.length : Int) := by omega
      generalize more.length = mn at *
      clear HP HK HD
      go_wp2_with fail
      go_ret
      exact ⟨rfl, HL.out⟩
    · have hm2 : ¬ (100 : Int) < (more.length : Int) := by omega
      have hpl := Sg.put_len l
      by_cases hp : (Sg.put l).2 = 0
      · obtain ⟨a1, a2, a3, _⟩ := Sg.again hp more ch
        obtain ⟨_, _, _, _, hlen⟩ := Sg.get_put hp more
        have hcat := Gk.cat_list (Sg.put l).1 more
        have htz : (ByteArray.mk (Sg.put l).1.toArray).size = (Sg.put l).1.length := rfl
        have hcz : (ByteArray.mk ((Sg.put l).1 ++ more).toArray).size = (Sg.put l).1.length + more.length := by show ((Sg.put l).1 ++ more).length = _; rw [List.length_append]
        have hev : (((Sg.put l).1.length : Nat) : Int) % 2 = 0 := by rw [hlen]; omega
        have HG := Lib.hid (fun W => sget_any ((Sg.put l).1 ++ more) W (by rw [List.length_append]; omega))
        have HI := Lib.hid (fun (v : Value) (W : World) (h : SRow W v (Sg.get ((Sg.put l).1 ++ more)).1) => cis_any v _ W h)
        have HK2 := Lib.hid (fun (v : Value) (W : World) (h : SRow W v (Sg.get ((Sg.put l).1 ++ more)).1) => clook_any v _ ch W h)
        have HP1 := Lib.hid (HP.out w1 HR1.out)
        unfold strErr at HP1
        unfold GotSp at HG
        rw [a1] at HG
        rw [a2] at HI
        rw [a3] at HK2
        rw [hp] at HP1
        generalize Ch.Look l ch = k at *
        generalize (Sg.get ((Sg.put l).1 ++ more)).1 = m at *
        generalize (Sg.put l).1 ++ more = tm at *
        generalize (Sg.put l).1 = t at *
        generalize t.length = tn at *
        generalize more.length = mn at *
        clear a1 a2 a3 hp hlen HP hm
        go_wp2_with fail
        refine HP1.out.mono ?_
        rintro e w2 ⟨rfl, lo⟩
        have HL2 := Lib.hid (HL.out.trans lo)
        have HR2 := Lib.hid (RowK.lo HR1.out lo)
        clear lo HP1 HR1
        go_wp2_with fail
        refine (HG.out _).mono ?_
        rintro e w3 ⟨p3, c3, rfl, hrow, lo⟩
        have HL3 := Lib.hid (HL2.out.trans lo)
        have HR3 := Lib.hid (RowK.lo HR2.out lo)
        have HM3 := Lib.hid hrow
        clear lo hrow HG HR2 hcat
        go_wp2_with fail
        refine (HD.out _).mono ?_
        rintro e w4 ⟨rfl, lo⟩
        have HL4 := Lib.hid (HL3.out.trans lo)
        have HR4 := Lib.hid (RowK.lo HR3.out lo)
        have HM4 := Lib.hid (RowK.lo HM3.out lo)
        clear lo HD HR3 HM3
        go_wp2_with fail
        refine (HI.out _ _ HM4.out).mono ?_
        rintro e w5 ⟨rfl, lo⟩
        have HL5 := Lib.hid (HL4.out.trans lo)
        have HR5 := Lib.hid (RowK.lo HR4.out lo)
        have HM5 := Lib.hid (RowK.lo HM4.out lo)
        clear lo HI HR4 HM4
        go_wp2_with fail
        refine (HK2.out _ _ HM5.out).mono ?_
        rintro e w6 ⟨rfl, lo⟩
        have HL6 := Lib.hid (HL5.out.trans lo)
        have HR6 := Lib.hid (RowK.lo HR5.out lo)
        clear lo HK2 HR5 HM5
        go_wp2_with fail
        refine (HK.out _ HR6.out).mono ?_
        rintro e w7 ⟨rfl, lo⟩
        have HL7 := Lib.hid (HL6.out.trans lo)
        clear lo HK HR6
        go_wp2_with fail
        go_ret
        exact ⟨ret_bool (by simp), HL7.out⟩
      · obtain ⟨hnil, _⟩ := Sg.put_refused hp
        have HP1 := Lib.hid (HP.out w1 HR1.out)
        unfold strErr at HP1
        rw [hnil] at HP1
        generalize (Sg.put l).2 = k at *
        generalize more.length = mn at *
        clear hpl hnil HP HK HR1 hm
        go_wp2_with fail
        refine HP1.out.mono ?_
        rintro e w2 ⟨rfl, lo⟩
        have HL2 := Lib.hid (HL.out.trans lo)
        clear lo HP1
        go_wp2_with fail
        refine (HD.out _).mono ?_
        rintro e w3 ⟨rfl, lo⟩
        have HL3 := Lib.hid (HL2.out.trans lo)
        clear lo HD
        go_wp2_with fail
        go_ret
        exact ⟨rfl, HL3.out⟩

theorem segmentBack_walk (v : Value) (l : List Ch.Span) (ch : Int) (a : ByteArray) (w : World) (hr : SRow w v l) (_wc : (Lit.int .i64 ch).wf = true) (h : a.size ≤ maxLen) : Calls Try.prog 4 #[v, .int .i64 ch, .string a] w fun e w' => e = .returned (.bool true) ∧ Below w.heap.size w w' := by
  have h1 : a.size = a.data.toList.length := rfl
  exact segmentBack_list v l ch a.data.toList w hr (by rw [h1] at h; unfold maxLen at h; omega)
end Go.Proofs.Ytfnpindohoflaaa
