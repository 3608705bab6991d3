/-
  The walk of the law ChartDoes. No conditions beyond those stated.
-/
import Derived.Test.YtjfobpbnofjjdaaChSame
import Derived.Test.YtjfobpbnofjjdaaChRefGet
import Derived.Test.YtjfobpbnofjjdaaChRefPut
namespace Go.Proofs.Ytjfobpbnofjjdaa
open Go.RowKit

set_option maxRecDepth 100000 in
set_option maxHeartbeats 3200000 in
theorem chartDoes_long (s : List UInt8) (v : Value) (l : List Ch.Span) (c : Int) (w : World) (_hr : SRow w v l) (h3 : 3000 < s.length) : Calls Try.prog 3 #[.string ⟨s.toArray⟩, v, .int .i64 c] w fun e w' => e = .returned (.bool true) ∧ Lo w w' := by
  have hsz : (ByteArray.mk s.toArray).size = s.length := rfl
  have hz : (3000 : Int) < (s.length : Int) := by omega
  generalize s.length = n at *
  go_enter Try.func3, Try.ntmps3
  go_wp2_with fail
  go_ret
  exact ⟨rfl, Lo.refl _⟩

set_option maxRecDepth 100000 in
set_option maxHeartbeats 3200000 in
theorem chartDoes_many (s : List UInt8) (v : Value) (l : List Ch.Span) (c : Int) (w : World) (hr : SRow w v l) (h3 : s.length ≤ 3000) (hf : ¬ l.length ≤ 60) : Calls Try.prog 3 #[.string ⟨s.toArray⟩, v, .int .i64 c] w fun e w' => e = .returned (.bool true) ∧ Lo w w' := by
  have hsz : (ByteArray.mk s.toArray).size = s.length := rfl
  have hz : ¬ (3000 : Int) < (s.length : Int) := by omega
  generalize s.length = n at *
  have HFw := Lib.hid (fun W h => few_any v l W h)
  rw [decide_eq_false hf] at HFw
  have HR := Lib.hid hr
  have HL := Lib.hid (Lo.refl w)
  clear hr
  go_enter Try.func3, Try.ntmps3
  go_wp2_with fail
  refine (HFw.out _ HR.out).mono ?_
  rintro e w1 ⟨rfl, lo⟩
  have HL := Lib.hid (HL.out.trans lo)
  clear lo HFw
  go_wp2_with fail
  go_ret
  exact ⟨rfl, HL.out⟩

set_option maxRecDepth 100000 in
set_option maxHeartbeats 3200000 in
theorem chartDoes_wide (s : List UInt8) (v : Value) (l : List Ch.Span) (c : Int) (w : World) (hr : SRow w v l) (h3 : s.length ≤ 3000) (hf : l.length ≤ 60) (hs : Ch.short l = false) : Calls Try.prog 3 #[.string ⟨s.toArray⟩, v, .int .i64 c] w fun e w' => e = .returned (.bool true) ∧ Lo w w' := by
  have hsz : (ByteArray.mk s.toArray).size = s.length := rfl
  have hz : ¬ (3000 : Int) < (s.length : Int) := by omega
  generalize s.length = n at *
  have HFw := Lib.hid (fun W h => few_any v l W h)
  have HSh := Lib.hid (fun W h => short_any v l W h)
  rw [decide_eq_true hf] at HFw
  rw [hs] at HSh
  have HR := Lib.hid hr
  have HL := Lib.hid (Lo.refl w)
  clear hr
  go_enter Try.func3, Try.ntmps3
  go_wp2_with fail
  refine (HFw.out _ HR.out).mono ?_
  rintro e w1 ⟨rfl, lo⟩
  have HL := Lib.hid (HL.out.trans lo)
  have HR := Lib.hid (RowK.lo HR.out lo)
  clear lo HFw
  go_wp2_with fail
  refine (HSh.out _ HR.out).mono ?_
  rintro e w2 ⟨rfl, lo⟩
  have HL := Lib.hid (HL.out.trans lo)
  clear lo HSh
  go_wp2_with fail
  go_ret
  exact ⟨rfl, HL.out⟩

set_option maxRecDepth 100000 in
set_option maxHeartbeats 3200000 in
theorem chartDoes_ok (s : List UInt8) (v : Value) (l : List Ch.Span) (c : Int) (w : World) (hr : SRow w v l) (h3 : s.length ≤ 3000) (hf : l.length ≤ 60) (hs : Ch.short l = true) : Calls Try.prog 3 #[.string ⟨s.toArray⟩, v, .int .i64 c] w fun e w' => e = .returned (.bool true) ∧ Lo w w' := by
  have hsz : (ByteArray.mk s.toArray).size = s.length := rfl
  have hz : ¬ (3000 : Int) < (s.length : Int) := by omega
  have HFw := Lib.hid (fun W h => few_any v l W h)
  have HSh := Lib.hid (fun W h => short_any v l W h)
  have HG := Lib.hid (fun W => cget_any s W (by omega))
  have HG2 := Lib.hid (fun W => rcget_any s W (by omega))
  have HP := Lib.hid (fun W h => putSmall_any v l W h)
  have HP2 := Lib.hid (fun (u : Value) (W : World) h => rputSmall_any u l W h)
  have HQ := Lib.hid (fun W h => putTrimmed_any v l W h)
  have HQ2 := Lib.hid (fun (u : Value) (W : World) h => rputTrimmed_any u l W h)
  have HD := Lib.hid (fun W => charted_any W)
  have HSm := Lib.hid (fun (v u : Value) (W : World) h h2 => ssame_any (Ch.get s).1 v u W h h2)
  have HSm2 := Lib.hid (fun (v u : Value) (W : World) h h2 => ssame_any l v u W h h2)
  have HI := Lib.hid (fun W h => cis_any v l W h)
  have HI2 := Lib.hid (fun (u : Value) (W : World) h => ris_any u l W h)
  have HK := Lib.hid (fun W h => clook_any v l c W h)
  have HK2 := Lib.hid (fun (u : Value) (W : World) h => rLook_any u l c W h)
  rw [decide_eq_true hf] at HFw
  rw [hs] at HSh
  unfold GotSp at HG HG2
  unfold strErr at HP HP2 HQ HQ2
  generalize Ch.get s = y at *
  obtain ⟨m, e0⟩ := y
  dsimp only at HG HG2 HSm
  generalize Ch.putSmall l = y at *
  obtain ⟨s0, e1⟩ := y
  generalize Ch.putTrimmed l = y at *
  obtain ⟨s6, e2⟩ := y
  dsimp only at HP HP2 HQ HQ2
  generalize Ch.isL l = ok at *
  generalize Ch.Look l c = g at *
  generalize s.length = n at *
  obtain ⟨p, cp, rfl, _⟩ := RowK.form hr
  have HR := Lib.hid hr
  have HL := Lib.hid (Lo.refl w)
  generalize hm : l.length = k at *
  have HM := Lib.hid hm
  clear hr hm
  go_enter Try.func3, Try.ntmps3
  go_wp2_with fail
  refine (HFw.out _ HR.out).mono ?_
  rintro e w1 ⟨rfl, lo⟩
  have HL := Lib.hid (HL.out.trans lo)
  have HR := Lib.hid (RowK.lo HR.out lo)
  clear lo HFw
  go_wp2_with fail
  refine (HSh.out _ HR.out).mono ?_
  rintro e w2 ⟨rfl, lo⟩
  have HL := Lib.hid (HL.out.trans lo)
  have HR := Lib.hid (RowK.lo HR.out lo)
  clear lo HSh
  go_wp2_with (at_builtin; refine wpList_appK _ rfl (.tmp 33) (.tmp 34) _ rfl 35 4 32 _ Try.underlying22 api_info rfl (by omega) (by omega) encS_len encS_one w2.heap.size (.slice none 0 0) [] rfl (OwnK.none _ _ _ _ _) _ l rfl HR.out (by rw [HM.out]; simp; omega) (Nat.le_refl _) ?_; intro q1 cz w3 hown hlo; have HO := Lib.hid (OwnK.row encS_len hown); have lo := hlo w2 (Lo.refl _) (Nat.le_refl _); have HL := Lib.hid (HL.out.trans lo); have HR := Lib.hid (RowK.lo HR.out lo); clear hown hlo lo; rw [List.nil_append, List.length_nil, Nat.zero_add, HM.out] at HO; rw [List.length_nil, Nat.zero_add, HM.out])
  refine (HG.out _).mono ?_
  rintro e w4 ⟨p4, c4, rfl, hrow, lo⟩
  have HL := Lib.hid (HL.out.trans lo)
  have HR := Lib.hid (RowK.lo HR.out lo)
  have HO := Lib.hid (RowK.lo HO.out lo)
  have HA := Lib.hid hrow
  clear lo HG hrow
  go_wp2_with fail
  refine (HG2.out _).mono ?_
  rintro e w5 ⟨p5, c5, rfl, hrow, lo⟩
  have HL := Lib.hid (HL.out.trans lo)
  have HR := Lib.hid (RowK.lo HR.out lo)
  have HO := Lib.hid (RowK.lo HO.out lo)
  have HA := Lib.hid (RowK.lo HA.out lo)
  have HB := Lib.hid hrow
  clear lo HG2 hrow
  go_wp2_with fail
  refine (HP.out _ HR.out).mono ?_
  rintro e w6 ⟨rfl, lo⟩
  have HL := Lib.hid (HL.out.trans lo)
  have HR := Lib.hid (RowK.lo HR.out lo)
  have HO := Lib.hid (RowK.lo HO.out lo)
  have HA := Lib.hid (RowK.lo HA.out lo)
  have HB := Lib.hid (RowK.lo HB.out lo)
  clear lo HP
  go_wp2_with fail
  refine (HP2.out _ _ HO.out).mono ?_
  rintro e w7 ⟨rfl, lo⟩
  have HL := Lib.hid (HL.out.trans lo)
  have HR := Lib.hid (RowK.lo HR.out lo)
  have HO := Lib.hid (RowK.lo HO.out lo)
  have HA := Lib.hid (RowK.lo HA.out lo)
  have HB := Lib.hid (RowK.lo HB.out lo)
  clear lo HP2
  go_wp2_with fail
  refine (HQ.out _ HR.out).mono ?_
  rintro e w8 ⟨rfl, lo⟩
  have HL := Lib.hid (HL.out.trans lo)
  have HR := Lib.hid (RowK.lo HR.out lo)
  have HO := Lib.hid (RowK.lo HO.out lo)
  have HA := Lib.hid (RowK.lo HA.out lo)
  have HB := Lib.hid (RowK.lo HB.out lo)
  clear lo HQ
  go_wp2_with fail
  refine (HQ2.out _ _ HO.out).mono ?_
  rintro e w9 ⟨rfl, lo⟩
  have HL := Lib.hid (HL.out.trans lo)
  have HR := Lib.hid (RowK.lo HR.out lo)
  have HO := Lib.hid (RowK.lo HO.out lo)
  have HA := Lib.hid (RowK.lo HA.out lo)
  have HB := Lib.hid (RowK.lo HB.out lo)
  clear lo HQ2
  go_wp2_with fail
  refine (HD.out _).mono ?_
  rintro e w10 ⟨rfl, lo⟩
  have HL := Lib.hid (HL.out.trans lo)
  have HR := Lib.hid (RowK.lo HR.out lo)
  have HO := Lib.hid (RowK.lo HO.out lo)
  have HA := Lib.hid (RowK.lo HA.out lo)
  have HB := Lib.hid (RowK.lo HB.out lo)
  clear lo HD
  go_wp2_with fail
  refine (HSm.out _ _ _ HA.out HB.out).mono ?_
  rintro e w11 ⟨rfl, lo⟩
  have HL := Lib.hid (HL.out.trans lo)
  have HR := Lib.hid (RowK.lo HR.out lo)
  have HO := Lib.hid (RowK.lo HO.out lo)
  clear lo HSm HA HB
  go_wp2_with fail
  refine (HI.out _ HR.out).mono ?_
  rintro e w12 ⟨rfl, lo⟩
  have HL := Lib.hid (HL.out.trans lo)
  have HR := Lib.hid (RowK.lo HR.out lo)
  have HO := Lib.hid (RowK.lo HO.out lo)
  clear lo HI
  go_wp2_with fail
  refine (HI2.out _ _ HO.out).mono ?_
  rintro e w13 ⟨rfl, lo⟩
  have HL := Lib.hid (HL.out.trans lo)
  have HR := Lib.hid (RowK.lo HR.out lo)
  have HO := Lib.hid (RowK.lo HO.out lo)
  clear lo HI2
  go_wp2_with fail
  refine (HK.out _ HR.out).mono ?_
  rintro e w14 ⟨rfl, lo⟩
  have HL := Lib.hid (HL.out.trans lo)
  have HR := Lib.hid (RowK.lo HR.out lo)
  have HO := Lib.hid (RowK.lo HO.out lo)
  clear lo HK
  go_wp2_with fail
  refine (HK2.out _ _ HO.out).mono ?_
  rintro e w15 ⟨rfl, lo⟩
  have HL := Lib.hid (HL.out.trans lo)
  have HR := Lib.hid (RowK.lo HR.out lo)
  have HO := Lib.hid (RowK.lo HO.out lo)
  clear lo HK2
  go_wp2_with fail
  refine (HSm2.out _ _ _ HR.out HO.out).mono ?_
  rintro e w16 ⟨rfl, lo⟩
  have HL := Lib.hid (HL.out.trans lo)
  clear lo HSm2 HR HO
  go_wp2_with fail
  go_ret
  exact ⟨by first | rfl | simp, HL.out⟩

theorem chartDoes_walk (a : ByteArray) (v : Value) (l : List Ch.Span) (c : Int) (w : World) (_w0 : a.size ≤ maxLen) (hr : SRow w v l) (_wc : (Lit.int .i64 c).wf = true) : Calls Try.prog 3 #[.string a, v, .int .i64 c] w fun e w' => e = .returned (.bool true) ∧ Below w.heap.size w w' := by
  rcases Nat.lt_or_ge 3000 a.data.toList.length with h3 | h3
  · exact chartDoes_long a.data.toList v l c w hr h3
  · by_cases hf : l.length ≤ 60
    · cases hs : Ch.short l with
      | false => exact chartDoes_wide a.data.toList v l c w hr h3 hf hs
      | true => exact chartDoes_ok a.data.toList v l c w hr h3 hf hs
    · exact chartDoes_many a.data.toList v l c w hr h3 hf
end Go.Proofs.Ytjfobpbnofjjdaa
