/-
  The walk of the law HmtxDoes: it returns true for all texts, numbers and metrics. No conditions.
-/
import Derived.Test.YtchhjfocanjniaaHmRefGet
namespace Go.Proofs.Ytchhjfocanjniaa
open Go.RowKit

set_option maxRecDepth 100000 in
set_option maxHeartbeats 800000 in
theorem hmtxDoes_long (a : ByteArray) (g m : Int) (v : Value) (l : List Hm.Metric) (i : Int) (w : World) (hr : MRow w v l) (h : ¬ (a.size ≤ 3000 ∧ l.length ≤ 700)) :
    Calls Try.prog 3 #[.string a, .int .i64 g, .int .i64 m, v, .int .i64 i] w fun e w' => e = .returned (.bool true) ∧ Lo w w' := by
  obtain ⟨p, c, rfl, hlen⟩ := RowK.form hr
  generalize l.length = n at *
  clear hr
  by_cases h1 : a.size ≤ 3000
  · have h2 : ¬ n ≤ 700 := fun h2 => h ⟨h1, h2⟩
    clear h
    go_enter Try.func3, Try.ntmps3
    go_wp2_with fail
    go_ret
    exact ⟨rfl, Lo.refl _⟩
  · clear h
    go_enter Try.func3, Try.ntmps3
    go_wp2_with fail
    go_ret
    exact ⟨rfl, Lo.refl _⟩

set_option maxRecDepth 100000 in
set_option maxHeartbeats 2000000 in
theorem hmtxDoes_some (s : List UInt8) (g m : Int) (v : Value) (l : List Hm.Metric) (i : Int) (w : World) (hr : MRow w v l) (h1 : s.length ≤ 3000) (h2 : l.length ≤ 700) :
    Calls Try.prog 3 #[.string ⟨s.toArray⟩, .int .i64 g, .int .i64 m, v, .int .i64 i] w fun e w' => e = .returned (.bool true) ∧ Lo w w' := by
  have HG := Lib.hid (fun W => hget_any s g m W (by omega))
  have HG2 := Lib.hid (fun W => hrget_any s g m W (by omega))
  have HP := Lib.hid (fun (u : Value) (W : World) (h : MRow W u l) => hput_any u l W h (by omega))
  have HP2 := Lib.hid (fun (u : Value) (W : World) (h : MRow W u l) => hrput_any u l W h (by omega))
  have HW := Lib.hid (fun (u : Value) (W : World) (h : MRow W u l) => width_any' u l i W h)
  have HW2 := Lib.hid (fun (u : Value) (W : World) (h : MRow W u l) => rwidth_any u l i W h)
  have HSm := Lib.hid (fun (q : List Hm.Metric) (v u : Value) (W : World) (h : MRow W v q) (h2 : MRow W u q) => msame_any q v u W h h2)
  unfold GotMet at HG HG2
  unfold strNumErr at HP HP2
  generalize (Hm.get s g m).1 = q at *
  generalize (Hm.get s g m).2 = er at *
  generalize (Hm.put l).1 = y1 at *
  generalize (Hm.put l).2.1 = y2 at *
  generalize (Hm.put l).2.2 = y3 at *
  generalize (widthOf l i).1 = z1 at *
  generalize (widthOf l i).2 = z2 at *
  obtain ⟨p, c, rfl, hlen⟩ := RowK.form hr
  have HR := Lib.hid hr
  generalize q.length = qn at *
  generalize hn : l.length = n at *
  have HN := Lib.hid hn
  clear hr hn
  have HO0 : Hid (OwnM w w.heap.size (.slice none 0 0) []) := Lib.hid (OwnK.none _ _ _ _ _)
  go_enter Try.func3, Try.ntmps3
  go_wp2_with (at_builtin; refine wpList_appK _ rfl (.tmp 34) (.tmp 35) _ rfl 34 2 16 _ Try.underlying22 met_info rfl (by omega) (by omega) encM_len encM_one w.heap.size (.slice none 0 0) [] rfl HO0.out _ l rfl HR.out (by rw [HN.out]; simp; omega) (Nat.le_refl _) ?_; intro po co w1 hown hlo; have HO := Lib.hid (OwnK.row encM_len hown); have HL := Lib.hid (hlo w (Lo.refl _) (Nat.le_refl _)); clear hown hlo; rw [List.nil_append, List.length_nil, Nat.zero_add, HN.out] at HO; rw [List.length_nil, Nat.zero_add, HN.out])
  have HR1 := Lib.hid (RowK.lo HR.out HL.out)
  clear HR HO0
  refine (HG.out _).mono ?_
  rintro e w2 ⟨pa, ca, rfl, hrow, lo⟩
  have HL2 := Lib.hid (HL.out.trans lo)
  have HR2 := Lib.hid (RowK.lo HR1.out lo)
  have HO2 := Lib.hid (RowK.lo HO.out lo)
  have HA2 := Lib.hid hrow
  clear lo hrow HL HR1 HO HG
  go_wp2_with fail
  refine (HG2.out _).mono ?_
  rintro e w3 ⟨pb, cb, rfl, hrow, lo⟩
  have HL3 := Lib.hid (HL2.out.trans lo)
  have HR3 := Lib.hid (RowK.lo HR2.out lo)
  have HO3 := Lib.hid (RowK.lo HO2.out lo)
  have HA3 := Lib.hid (RowK.lo HA2.out lo)
  have HB3 := Lib.hid hrow
  clear lo hrow HL2 HR2 HO2 HA2 HG2
  go_wp2_with fail
  refine (HP.out _ _ HR3.out).mono ?_
  rintro e w4 ⟨rfl, lo⟩
  have HL4 := Lib.hid (HL3.out.trans lo)
  have HR4 := Lib.hid (RowK.lo HR3.out lo)
  have HO4 := Lib.hid (RowK.lo HO3.out lo)
  have HA4 := Lib.hid (RowK.lo HA3.out lo)
  have HB4 := Lib.hid (RowK.lo HB3.out lo)
  clear lo HL3 HR3 HO3 HA3 HB3 HP
  go_wp2_with fail
  refine (HP2.out _ _ HO4.out).mono ?_
  rintro e w5 ⟨rfl, lo⟩
  have HL5 := Lib.hid (HL4.out.trans lo)
  have HR5 := Lib.hid (RowK.lo HR4.out lo)
  have HO5 := Lib.hid (RowK.lo HO4.out lo)
  have HA5 := Lib.hid (RowK.lo HA4.out lo)
  have HB5 := Lib.hid (RowK.lo HB4.out lo)
  clear lo HL4 HR4 HO4 HA4 HB4 HP2
  go_wp2_with fail
  refine (HW.out _ _ HR5.out).mono ?_
  rintro e w6 ⟨rfl, rfl⟩
  go_wp2_with fail
  refine (HW2.out _ _ HO5.out).mono ?_
  rintro e w6 ⟨rfl, rfl⟩
  clear HW HW2
  go_wp2_with fail
  refine (wide_any _).mono ?_
  rintro e w7 ⟨rfl, lo⟩
  have HL7 := Lib.hid (HL5.out.trans lo)
  have HR7 := Lib.hid (RowK.lo HR5.out lo)
  have HO7 := Lib.hid (RowK.lo HO5.out lo)
  have HA7 := Lib.hid (RowK.lo HA5.out lo)
  have HB7 := Lib.hid (RowK.lo HB5.out lo)
  clear lo HL5 HR5 HO5 HA5 HB5
  go_wp2_with fail
  refine (HSm.out q _ _ _ HA7.out HB7.out).mono ?_
  rintro e w8 ⟨rfl, lo⟩
  have HL8 := Lib.hid (HL7.out.trans lo)
  have HR8 := Lib.hid (RowK.lo HR7.out lo)
  have HO8 := Lib.hid (RowK.lo HO7.out lo)
  clear lo HL7 HR7 HO7 HA7 HB7
  go_wp2_with fail
  refine (HSm.out l _ _ _ HR8.out HO8.out).mono ?_
  rintro e w9 ⟨rfl, lo⟩
  have HL9 := Lib.hid (HL8.out.trans lo)
  clear lo HL8 HR8 HO8
  go_wp2_with fail
  go_ret
  exact ⟨ret_bool (by simp), HL9.out⟩

theorem hmtxDoes_walk (a : ByteArray) (g m : Int) (v : Value) (l : List Hm.Metric) (i : Int) (w : World) (_wa : a.size ≤ maxLen) (_wg : (Lit.int .i64 g).wf = true) (_wm : (Lit.int .i64 m).wf = true) (hr : MRow w v l) (_wi : (Lit.int .i64 i).wf = true) :
    Calls Try.prog 3 #[.string a, .int .i64 g, .int .i64 m, v, .int .i64 i] w fun e w' => e = .returned (.bool true) ∧ Below w.heap.size w w' := by
  by_cases h : a.size ≤ 3000 ∧ l.length ≤ 700
  · exact hmtxDoes_some a.data.toList g m v l i w hr h.1 h.2
  · exact hmtxDoes_long a g m v l i w hr h
end Go.Proofs.Ytchhjfocanjniaa
