/-
  The walk of the law SegmentDoes. No conditions beyond those stated.
-/
import Derived.Test.YtfnpindohoflaaaSgRefPut
import Derived.Test.YtfnpindohoflaaaSgRefGet
import Derived.Test.YtfnpindohoflaaaSgParted
import Derived.Test.YtfnpindohoflaaaSgShort
import Derived.Test.YtfnpindohoflaaaChRefSame
namespace Go.Proofs.Ytfnpindohoflaaa
open Go.RowKit

set_option maxRecDepth 100000 in
set_option maxHeartbeats 3200000 in
theorem segmentDoes_long (s : List UInt8) (v : Value) (l : List Ch.Span) (w : World) (_hr : SRow w v l) (h3 : 3000 < s.length) : Calls Try.prog 3 #[.string ⟨s.toArray⟩, v] w fun e w' => e = .returned (.bool true) ∧ Lo w w' := by
  have hsz : (ByteArray.mk s.toArray).size = s.length := rfl
  have hz : (3000 : Int) < (s.length : Int) := by omega
  generalize s.length = n at *
  go_enter Try.func3, Try.ntmps3
  go_wp2_with fail
  go_ret
  exact ⟨rfl, Lo.refl _⟩

set_option maxRecDepth 100000 in
set_option maxHeartbeats 6400000 in
theorem segmentDoes_ok (s : List UInt8) (v : Value) (l : List Ch.Span) (w : World) (hr : SRow w v l) (h3 : s.length ≤ 3000) : Calls Try.prog 3 #[.string ⟨s.toArray⟩, v] w fun e w' => e = .returned (.bool true) ∧ Lo w w' := by
  have hsz : (ByteArray.mk s.toArray).size = s.length := rfl
  have hz : ¬ (3000 : Int) < (s.length : Int) := by omega
  have HSh := Lib.hid (fun W h => short_any v l W h)
  have HG := Lib.hid (fun W => sget_any s W (by omega))
  have HG2 := Lib.hid (fun W => rget9_any s W (by omega))
  have HP := Lib.hid (fun W h => sput_any v l W h)
  have HP2 := Lib.hid (fun (u : Value) (W : World) h => rput9_any u l W h)
  have HQ := Lib.hid (fun W h => smany_any v l W h)
  have HQ2 := Lib.hid (fun (u : Value) (W : World) h => rmany_any u l W h)
  have HD := Lib.hid (fun W => parted_any W)
  have HSm := Lib.hid (fun (v u : Value) (W : World) h h2 => ssame_any (Sg.get s).1 v u W h h2)
  have HSm2 := Lib.hid (fun (v u : Value) (W : World) h h2 => ssame_any l v u W h h2)
  unfold GotShort at HSh
  unfold GotSp at HG HG2
  unfold strErr at HP HP2
  unfold manyEnd at HQ HQ2
  generalize Sg.get s = y at *
  obtain ⟨m, e0⟩ := y
  dsimp only at HG HG2 HSm
  generalize Sg.put l = y at *
  obtain ⟨s0, e1⟩ := y
  generalize Sg.manyOf l = y at *
  obtain ⟨n1, n2, e2⟩ := y
  dsimp only at HP HP2 HQ HQ2
  generalize s.length = n at *
  obtain ⟨p, cp, rfl, _⟩ := RowK.form hr
  have HR := Lib.hid hr
  have HL := Lib.hid (Lo.refl w)
  generalize hm : l.length = k at *
  have HM := Lib.hid hm
  clear hr hm
  go_enter Try.func3, Try.ntmps3
  go_wp2_with fail
  refine (HSh.out _ HR.out).mono ?_
  rintro e w2 ⟨bb, rfl, hk60, lo⟩
  have HL := Lib.hid (HL.out.trans lo)
  have HR := Lib.hid (RowK.lo HR.out lo)
  clear lo HSh
  cases bb with
  | false =>
    clear HG HG2 HP HP2 HQ HQ2 HD HSm HSm2
    go_wp2_with fail
    go_ret
    exact ⟨rfl, HL.out⟩
  | true =>
  have hf : k ≤ 60 := hk60 rfl
  clear hk60
  go_wp2_with (at_builtin; refine wpList_appK _ rfl (.tmp 28) (.tmp 29) _ rfl 41 4 32 _ Try.underlying22 api_info rfl (by omega) (by omega) encS_len encS_one w2.heap.size (.slice none 0 0) [] rfl (OwnK.none _ _ _ _ _) _ l rfl HR.out (by rw [HM.out]; simp; omega) (Nat.le_refl _) ?_; intro q1 cz w3 hown hlo; have HO := Lib.hid (OwnK.row encS_len hown); have lo := hlo w2 (Lo.refl _) (Nat.le_refl _); have HL := Lib.hid (HL.out.trans lo); have HR := Lib.hid (RowK.lo HR.out lo); clear hown hlo lo; rw [List.nil_append, List.length_nil, Nat.zero_add, HM.out] at HO; rw [List.length_nil, Nat.zero_add, HM.out])
  refine (HG.out _).mono ?_
  rintro e w4 ⟨p4, c4, rfl, hrow, lo⟩
  have HL := Lib.hid (HL.out.trans lo)
  have HR := Lib.hid (RowK.lo HR.out lo)
  have HO := Lib.hid (RowK.lo HO.out lo)
  have HA := Lib.hid hrow
  clear lo HG hrow
  go_wp2_with fail
  refine (HG2.out _).mono ?_
  rintro e w5 ⟨p5, c5, rfl, hrow, lo⟩
  have HL := Lib.hid (HL.out.trans lo)
  have HR := Lib.hid (RowK.lo HR.out lo)
  have HO := Lib.hid (RowK.lo HO.out lo)
  have HA := Lib.hid (RowK.lo HA.out lo)
  have HB := Lib.hid hrow
  clear lo HG2 hrow
  go_wp2_with fail
  refine (HP.out _ HR.out).mono ?_
  rintro e w6 ⟨rfl, lo⟩
  have HL := Lib.hid (HL.out.trans lo)
  have HR := Lib.hid (RowK.lo HR.out lo)
  have HO := Lib.hid (RowK.lo HO.out lo)
  have HA := Lib.hid (RowK.lo HA.out lo)
  have HB := Lib.hid (RowK.lo HB.out lo)
  clear lo HP
  go_wp2_with fail
  refine (HP2.out _ _ HO.out).mono ?_
  rintro e w7 ⟨rfl, lo⟩
  have HL := Lib.hid (HL.out.trans lo)
  have HR := Lib.hid (RowK.lo HR.out lo)
  have HO := Lib.hid (RowK.lo HO.out lo)
  have HA := Lib.hid (RowK.lo HA.out lo)
  have HB := Lib.hid (RowK.lo HB.out lo)
  clear lo HP2
  go_wp2_with fail
  refine (HQ.out _ HR.out).mono ?_
  rintro e w8 ⟨rfl, lo⟩
  have HL := Lib.hid (HL.out.trans lo)
  have HR := Lib.hid (RowK.lo HR.out lo)
  have HO := Lib.hid (RowK.lo HO.out lo)
  have HA := Lib.hid (RowK.lo HA.out lo)
  have HB := Lib.hid (RowK.lo HB.out lo)
  clear lo HQ
  go_wp2_with fail
  refine (HQ2.out _ _ HO.out).mono ?_
  rintro e w9 ⟨rfl, lo⟩
  have HL := Lib.hid (HL.out.trans lo)
  have HR := Lib.hid (RowK.lo HR.out lo)
  have HO := Lib.hid (RowK.lo HO.out lo)
  have HA := Lib.hid (RowK.lo HA.out lo)
  have HB := Lib.hid (RowK.lo HB.out lo)
  clear lo HQ2
  go_wp2_with fail
  refine (HD.out _).mono ?_
  rintro e w10 ⟨rfl, lo⟩
  have HL := Lib.hid (HL.out.trans lo)
  have HR := Lib.hid (RowK.lo HR.out lo)
  have HO := Lib.hid (RowK.lo HO.out lo)
  have HA := Lib.hid (RowK.lo HA.out lo)
  have HB := Lib.hid (RowK.lo HB.out lo)
  clear lo HD
  go_wp2_with fail
  refine (HSm.out _ _ _ HA.out HB.out).mono ?_
  rintro e w11 ⟨rfl, lo⟩
  have HL := Lib.hid (HL.out.trans lo)
  have HR := Lib.hid (RowK.lo HR.out lo)
  have HO := Lib.hid (RowK.lo HO.out lo)
  clear lo HSm HA HB
  go_wp2_with fail
  refine (HSm2.out _ _ _ HR.out HO.out).mono ?_
  rintro e w16 ⟨rfl, lo⟩
  have HL := Lib.hid (HL.out.trans lo)
  clear lo HSm2 HR HO
  go_wp2_with fail
  go_ret
  exact ⟨by first | rfl | simp, HL.out⟩

theorem segmentDoes_walk (a : ByteArray) (v : Value) (l : List Ch.Span) (w : World) (_w0 : a.size ≤ maxLen) (hr : SRow w v l) : Calls Try.prog 3 #[.string a, v] w fun e w' => e = .returned (.bool true) ∧ Below w.heap.size w w' := by
  rcases Nat.lt_or_ge 3000 a.data.toList.length with h3 | h3
  · exact segmentDoes_long a.data.toList v l w hr h3
  · exact segmentDoes_ok a.data.toList v l w hr h3
end Go.Proofs.Ytfnpindohoflaaa
