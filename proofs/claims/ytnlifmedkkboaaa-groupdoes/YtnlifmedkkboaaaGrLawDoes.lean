/-
  The walk of the law GroupDoes. No conditions beyond those stated.
-/
import Derived.Test.YtnlifmedkkboaaaGrRefPut
import Derived.Test.YtnlifmedkkboaaaGrRef
import Derived.Test.YtnlifmedkkboaaaGrGrouped
import Derived.Test.YtnlifmedkkboaaaGrShort
namespace Go.Proofs.Ytnlifmedkkboaaa
open Go.RowKit

set_option maxRecDepth 100000 in
set_option maxHeartbeats 3200000 in
theorem groupDoes_far (s : List UInt8) (v : Value) (step format : Int) (w : World) (h3 : 3000 < s.length) : Calls Try.prog 3 #[.string ⟨s.toArray⟩, v, .int .i64 step, .int .i64 format] w fun e w' => e = .returned (.bool true) ∧ Lo w w' := by
  have hsz : (ByteArray.mk s.toArray).size = s.length := rfl
  have hz : (3000 : Int) < (s.length : Int) := by omega
  generalize s.length = n at *
  go_enter Try.func3, Try.ntmps3
  go_wp2_with fail
  go_ret
  exact ⟨rfl, Lo.refl _⟩

set_option maxRecDepth 100000 in
set_option maxHeartbeats 6400000 in
theorem groupDoes_ok (s : List UInt8) (v : Value) (l : List Ch.Span) (step format : Int) (w : World) (hr : SRow w v l) (h3 : s.length ≤ 3000) : Calls Try.prog 3 #[.string ⟨s.toArray⟩, v, .int .i64 step, .int .i64 format] w fun e w' => e = .returned (.bool true) ∧ Lo w w' := by
  have hsz : (ByteArray.mk s.toArray).size = s.length := rfl
  have hz : ¬ (3000 : Int) < (s.length : Int) := by omega
  have HSh := Lib.hid (fun W h => short_any v l W h)
  have HG := Lib.hid (fun W => gget_any s W (by omega))
  have HG2 := Lib.hid (fun W => rgget_any s W (by omega))
  have HP := Lib.hid (fun W h => gput_any v l format W h)
  have HP2 := Lib.hid (fun (u : Value) (W : World) h => rgput_any u l format W h)
  have HQ := Lib.hid (fun W h => gsplit_any l v step W h)
  have HQ2 := Lib.hid (fun (u : Value) (W : World) h => rsplit_any l u step W h)
  have HD := Lib.hid (fun W => grouped_any W)
  have HSm := Lib.hid (fun (v u : Value) (W : World) h h2 => ssame_any (Gp.get s).1 v u W h h2)
  have HSm1 := Lib.hid (fun (v u : Value) (W : World) h h2 => ssame_any (Gp.split l step).1 v u W h h2)
  have HSm2 := Lib.hid (fun (v u : Value) (W : World) h h2 => ssame_any l v u W h h2)
  unfold GotShort at HSh
  unfold GotSp at HG HG2 HQ HQ2
  unfold strErr at HP HP2
  generalize Gp.get s = y at *
  obtain ⟨m, e0⟩ := y
  generalize Gp.put l format = y at *
  obtain ⟨s0, e1⟩ := y
  generalize Gp.split l step = y at *
  obtain ⟨m2, e2⟩ := y
  dsimp only at HG HG2 HSm HP HP2 HQ HQ2 HSm1
  generalize s.length = n at *
  obtain ⟨p, cp, rfl, _⟩ := RowK.form hr
  have HR := Lib.hid hr
  have HL := Lib.hid (Lo.refl w)
  generalize hm : l.length = k at *
  have HM := Lib.hid hm
  clear hr hm
  go_enter Try.func3, Try.ntmps3
  go_wp2_with fail
  refine (HSh.out _ HR.out).mono ?_
  rintro e w2 ⟨bb, rfl, hk60, lo⟩
  have HL := Lib.hid (HL.out.trans lo)
  have HR := Lib.hid (RowK.lo HR.out lo)
  clear lo HSh
  cases bb with
  | false =>
    clear HG HG2 HP HP2 HQ HQ2 HD HSm HSm1 HSm2
    go_wp2_with fail
    go_ret
    exact ⟨rfl, HL.out⟩
  | true =>
  have hf : k ≤ 60 := hk60 rfl
  clear hk60
  go_wp2_with (at_builtin; refine wpList_appK _ rfl (.tmp 30) (.tmp 31) _ rfl 36 4 32 _ Try.underlying22 api_info rfl (by omega) (by omega) encS_len encS_one w2.heap.size (.slice none 0 0) [] rfl (OwnK.none _ _ _ _ _) _ l rfl HR.out (by rw [HM.out]; simp; omega) (Nat.le_refl _) ?_; intro q1 cz w3 hown hlo; have HO := Lib.hid (OwnK.row encS_len hown); have lo := hlo w2 (Lo.refl _) (Nat.le_refl _); have HL := Lib.hid (HL.out.trans lo); have HR := Lib.hid (RowK.lo HR.out lo); clear hown hlo lo; rw [List.nil_append, List.length_nil, Nat.zero_add, HM.out] at HO; rw [List.length_nil, Nat.zero_add, HM.out])
  refine (HG.out _).mono ?_
  rintro e w4 ⟨p4, c4, rfl, hrow, lo⟩
  have HL := Lib.hid (HL.out.trans lo)
  have HR := Lib.hid (RowK.lo HR.out lo)
  have HO := Lib.hid (RowK.lo HO.out lo)
  have HA := Lib.hid hrow
  clear lo HG hrow
  go_wp2_with fail
  refine (HG2.out _).mono ?_
  rintro e w5 ⟨p5, c5, rfl, hrow, lo⟩
  have HL := Lib.hid (HL.out.trans lo)
  have HR := Lib.hid (RowK.lo HR.out lo)
  have HO := Lib.hid (RowK.lo HO.out lo)
  have HA := Lib.hid (RowK.lo HA.out lo)
  have HB := Lib.hid hrow
  clear lo HG2 hrow
  go_wp2_with fail
  refine (HQ.out _ HR.out).mono ?_
  rintro e w6 ⟨p6, c6, rfl, hrow, lo⟩
  have HL := Lib.hid (HL.out.trans lo)
  have HR := Lib.hid (RowK.lo HR.out lo)
  have HO := Lib.hid (RowK.lo HO.out lo)
  have HA := Lib.hid (RowK.lo HA.out lo)
  have HB := Lib.hid (RowK.lo HB.out lo)
  have HC := Lib.hid hrow
  clear lo HQ hrow
  go_wp2_with fail
  refine (HQ2.out _ _ HO.out).mono ?_
  rintro e w7 ⟨p7, c7, rfl, hrow, lo⟩
  have HL := Lib.hid (HL.out.trans lo)
  have HR := Lib.hid (RowK.lo HR.out lo)
  have HO := Lib.hid (RowK.lo HO.out lo)
  have HA := Lib.hid (RowK.lo HA.out lo)
  have HB := Lib.hid (RowK.lo HB.out lo)
  have HC := Lib.hid (RowK.lo HC.out lo)
  have HE := Lib.hid hrow
  clear lo HQ2 hrow
  go_wp2_with fail
  refine (HP.out _ HR.out).mono ?_
  rintro e w8 ⟨rfl, lo⟩
  have HL := Lib.hid (HL.out.trans lo)
  have HR := Lib.hid (RowK.lo HR.out lo)
  have HO := Lib.hid (RowK.lo HO.out lo)
  have HA := Lib.hid (RowK.lo HA.out lo)
  have HB := Lib.hid (RowK.lo HB.out lo)
  have HC := Lib.hid (RowK.lo HC.out lo)
  have HE := Lib.hid (RowK.lo HE.out lo)
  clear lo HP
  go_wp2_with fail
  refine (HP2.out _ _ HO.out).mono ?_
  rintro e w9 ⟨rfl, lo⟩
  have HL := Lib.hid (HL.out.trans lo)
  have HR := Lib.hid (RowK.lo HR.out lo)
  have HO := Lib.hid (RowK.lo HO.out lo)
  have HA := Lib.hid (RowK.lo HA.out lo)
  have HB := Lib.hid (RowK.lo HB.out lo)
  have HC := Lib.hid (RowK.lo HC.out lo)
  have HE := Lib.hid (RowK.lo HE.out lo)
  clear lo HP2
  go_wp2_with fail
  refine (HD.out _).mono ?_
  rintro e w10 ⟨rfl, lo⟩
  have HL := Lib.hid (HL.out.trans lo)
  have HR := Lib.hid (RowK.lo HR.out lo)
  have HO := Lib.hid (RowK.lo HO.out lo)
  have HA := Lib.hid (RowK.lo HA.out lo)
  have HB := Lib.hid (RowK.lo HB.out lo)
  have HC := Lib.hid (RowK.lo HC.out lo)
  have HE := Lib.hid (RowK.lo HE.out lo)
  clear lo HD
  go_wp2_with fail
  refine (HSm.out _ _ _ HA.out HB.out).mono ?_
  rintro e w11 ⟨rfl, lo⟩
  have HL := Lib.hid (HL.out.trans lo)
  have HR := Lib.hid (RowK.lo HR.out lo)
  have HO := Lib.hid (RowK.lo HO.out lo)
  have HC := Lib.hid (RowK.lo HC.out lo)
  have HE := Lib.hid (RowK.lo HE.out lo)
  clear lo HSm HA HB
  go_wp2_with fail
  refine (HSm1.out _ _ _ HC.out HE.out).mono ?_
  rintro e w12 ⟨rfl, lo⟩
  have HL := Lib.hid (HL.out.trans lo)
  have HR := Lib.hid (RowK.lo HR.out lo)
  have HO := Lib.hid (RowK.lo HO.out lo)
  clear lo HSm1 HC HE
  go_wp2_with fail
  refine (HSm2.out _ _ _ HR.out HO.out).mono ?_
  rintro e w13 ⟨rfl, lo⟩
  have HL := Lib.hid (HL.out.trans lo)
  clear lo HSm2 HR HO
  go_wp2_with fail
  go_ret
  exact ⟨by first | rfl | simp, HL.out⟩

theorem groupDoes_walk (a : ByteArray) (v : Value) (l : List Ch.Span) (step format : Int) (w : World) (_w0 : a.size ≤ maxLen) (hr : SRow w v l) (_ws : (Lit.int .i64 step).wf = true) (_wf : (Lit.int .i64 format).wf = true) : Calls Try.prog 3 #[.string a, v, .int .i64 step, .int .i64 format] w fun e w' => e = .returned (.bool true) ∧ Below w.heap.size w w' := by
  rcases Nat.lt_or_ge 3000 a.data.toList.length with h3 | h3
  · exact groupDoes_far a.data.toList v step format w h3
  · exact groupDoes_ok a.data.toList v l step format w hr h3
end Go.Proofs.Ytnlifmedkkboaaa
