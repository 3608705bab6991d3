/-
  The walk of the law GroupBack. No conditions beyond those stated.
-/
import Derived.Test.YtnlifmedkkboaaaGrGrouped
import Derived.Test.YtnlifmedkkboaaaGrShort
import Derived.Test.YtnlifmedkkboaaaChLook2
namespace Gp
open Bn He Ch Sg
/-- What is parted tells the same glyph of each rune. -/
theorem split_look {l : List Span} {step : Int} (h : (split l step).2 = 0) (c : Int) : Look (split l step).1 c = Look l c := by
  obtain ⟨r1, _, _, r4⟩ := split_right h
  have hl := (split_ok h).1
  unfold Look
  rw [if_pos r1, if_pos hl, r4]
theorem split_len {l : List Span} {step : Int} : (split l step).1.length ≤ 65536 := by
  by_cases h : (split l step).2 = 0
  · rw [(split_ok h).2.2.1]; exact (split_ok h).2.2.2
  · rw [(split_no h).1]; simp
theorem put_len (l : List Span) (format : Int) : (put l format).1.length ≤ 800000 := by
  by_cases h : (put l format).2 = 0
  · obtain ⟨_, _, e⟩ := put_ok h
    rw [e, file_len]
    have := @split_len l (13 - format)
    omega
  · rw [put_no h]; simp
end Gp
namespace Go.Proofs.Ytnlifmedkkboaaa
open Go.RowKit

def moreB : List UInt8 := [109, 111, 114, 101]

set_option maxRecDepth 100000 in
set_option maxHeartbeats 3200000 in
theorem groupBack_list (v : Value) (l : List Ch.Span) (format ch : Int) (w : World) (hr : SRow w v l) : Calls Try.prog 4 #[v, .int .i64 format, .int .i64 ch] w fun e w' => e = .returned (.bool true) ∧ Lo w w' := by
  have HS := Lib.hid (short_any v l w hr)
  have HP := Lib.hid (fun (W : World) (h : SRow W v l) => gput_any v l format W h)
  have HK := Lib.hid (fun (W : World) (h : SRow W v l) => clook_any v l ch W h)
  have HSp := Lib.hid (fun (W : World) (h : SRow W v l) => gsplit_any l v (13 - format) W h)
  have HD := Lib.hid (fun W => grouped_any W)
  have HR := Lib.hid hr
  unfold GotShort at HS
  go_enter Try.func4, Try.ntmps4
  go_wp2_with fail
  refine HS.out.mono ?_
  rintro e w1 ⟨b, rfl, _, lo⟩
  have HL := Lib.hid lo
  have HR1 := Lib.hid (RowK.lo HR.out lo)
  clear lo HS HR hr
  cases b with
  | false =>
    clear HP HK HD HSp
    go_wp2_with fail
    go_ret
    exact ⟨rfl, HL.out⟩
  | true =>
    by_cases hp : (Gp.put l format).2 = 0
    · have hf := (Gp.put_ok hp).1
      have hs0 := (Gp.put_ok hp).2.1
      obtain ⟨g1, _⟩ := Gp.get_put hp moreB
      have hlk := Gp.split_look hs0 ch
      have hpl := Gp.put_len l format
      have hcat := Gk.cat_list (Gp.put l format).1 moreB
      have htz : (ByteArray.mk (Gp.put l format).1.toArray).size = (Gp.put l format).1.length := rfl
      have hcz : (ByteArray.mk ((Gp.put l format).1 ++ moreB).toArray).size = (Gp.put l format).1.length + 4 := by show ((Gp.put l format).1 ++ moreB).length = _; rw [List.length_append]; rfl
      have HG := Lib.hid (fun W => gget_any ((Gp.put l format).1 ++ moreB) W (by rw [List.length_append]; simp [moreB]; omega))
      have HK2 := Lib.hid (fun (v : Value) (W : World) (h : SRow W v (Gp.split l (13 - format)).1) => clook_any v _ ch W h)
      have HSm := Lib.hid (fun (v u : Value) (W : World) (h : SRow W v (Gp.split l (13 - format)).1) (h2 : SRow W u (Gp.split l (13 - format)).1) => ssame_any _ v u W h h2)
      have HP1 := Lib.hid (HP.out w1 HR1.out)
      unfold strErr at HP1
      unfold GotSp at HG HSp
      rw [g1] at HG
      rw [hlk] at HK2
      rw [hp] at HP1
      rw [hs0] at HSp
      generalize (Gp.split l (13 - format)).1 = m at *
      generalize (Gp.put l format).1 ++ moreB = tm at *
      generalize (Gp.put l format).1 = t at *
      generalize t.length = tn at *
      generalize Ch.Look l ch = k at *
      have hf1 : format ≤ 13 ∧ 12 ≤ format := by omega
      unfold moreB at hcat
      clear g1 hp hs0 hlk HP hf
      go_wp2_with fail
      refine HP1.out.mono ?_
      rintro e w2 ⟨rfl, lo⟩
      have HL2 := Lib.hid (HL.out.trans lo)
      have HR2 := Lib.hid (RowK.lo HR1.out lo)
      clear lo HP1 HR1
      go_wp2_with fail
      refine (HG.out _).mono ?_
      rintro e w3 ⟨p3, c3, rfl, hrow, lo⟩
      have HL3 := Lib.hid (HL2.out.trans lo)
      have HR3 := Lib.hid (RowK.lo HR2.out lo)
      have HM3 := Lib.hid hrow
      clear lo hrow HG HR2 hcat
      go_wp2_with fail
      refine (HSp.out _ HR3.out).mono ?_
      rintro e w4 ⟨p4, c4, rfl, hrow, lo⟩
      have HL4 := Lib.hid (HL3.out.trans lo)
      have HR4 := Lib.hid (RowK.lo HR3.out lo)
      have HM4 := Lib.hid (RowK.lo HM3.out lo)
      have HN4 := Lib.hid hrow
      clear lo hrow HSp HR3 HM3
      go_wp2_with fail
      refine (HD.out _).mono ?_
      rintro e w5 ⟨rfl, lo⟩
      have HL5 := Lib.hid (HL4.out.trans lo)
      have HR5 := Lib.hid (RowK.lo HR4.out lo)
      have HM5 := Lib.hid (RowK.lo HM4.out lo)
      have HN5 := Lib.hid (RowK.lo HN4.out lo)
      clear lo HD HR4 HM4 HN4
      go_wp2_with fail
      refine (HSm.out _ _ _ HM5.out HN5.out).mono ?_
      rintro e w6 ⟨rfl, lo⟩
      have HL6 := Lib.hid (HL5.out.trans lo)
      have HR6 := Lib.hid (RowK.lo HR5.out lo)
      have HM6 := Lib.hid (RowK.lo HM5.out lo)
      clear lo HSm HR5 HM5 HN5
      go_wp2_with fail
      refine (HK2.out _ _ HM6.out).mono ?_
      rintro e w7 ⟨rfl, lo⟩
      have HL7 := Lib.hid (HL6.out.trans lo)
      have HR7 := Lib.hid (RowK.lo HR6.out lo)
      clear lo HK2 HR6 HM6
      go_wp2_with fail
      refine (HK.out _ HR7.out).mono ?_
      rintro e w8 ⟨rfl, lo⟩
      have HL8 := Lib.hid (HL7.out.trans lo)
      clear lo HK HR7
      go_wp2_with fail
      go_ret
      exact ⟨ret_bool (by simp), HL8.out⟩
    · have hnil := Gp.put_no hp
      have HP1 := Lib.hid (HP.out w1 HR1.out)
      unfold strErr at HP1
      rw [hnil] at HP1
      generalize (Gp.put l format).2 = k at *
      have hz : (k != 0) = true := by simpa using hp
      clear hnil HP HK HR1 HSp hp
      go_wp2_with fail
      refine HP1.out.mono ?_
      rintro e w2 ⟨rfl, lo⟩
      have HL2 := Lib.hid (HL.out.trans lo)
      clear lo HP1
      go_wp2_with fail
      refine (HD.out _).mono ?_
      rintro e w3 ⟨rfl, lo⟩
      have HL3 := Lib.hid (HL2.out.trans lo)
      clear lo HD
      go_wp2_with fail
      go_ret
      exact ⟨rfl, HL3.out⟩

theorem groupBack_walk (v : Value) (l : List Ch.Span) (format ch : Int) (w : World) (hr : SRow w v l) (_wf : (Lit.int .i64 format).wf = true) (_wc : (Lit.int .i64 ch).wf = true) : Calls Try.prog 4 #[v, .int .i64 format, .int .i64 ch] w fun e w' => e = .returned (.bool true) ∧ Below w.heap.size w w' :=
  groupBack_list v l format ch w hr
end Go.Proofs.Ytnlifmedkkboaaa
