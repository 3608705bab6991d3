/-
  The contract of glyf.Put: it answers what the plain function on extents says (up to 10000 of them). No conditions beyond those stated.
-/
import Derived.Test.YtkfljalcnjdliaaGlExt
import Derived.Test.YtkfljalcnjdliaaGlLaid
import Derived.Test.YtkfljalcnjdliaaBnPut
namespace Go.Proofs.Ytkfljalcnjdliaa
open Go.RowKit

/-- Two texts and an error, told. -/
def strs3 (a : List UInt8 × List UInt8 × Int) : Ending := .returned (.tuple #[.string ⟨a.1.toArray⟩, .string ⟨a.2.1.toArray⟩, .int .i64 a.2.2])

set_option maxHeartbeats 800000 in
theorem gput_none (v : Value) (l : List Gl.Ext) (long : Bool) (w : World) (hr : ERow w v l) (h : l.length = 0) :
    Calls Try.prog 9 #[v, .bool long] w fun e w' => e = strs3 ([], [], 1) ∧ Lo w w' := by
  obtain ⟨p, c, rfl, hlen⟩ := RowK.form hr
  rw [h]
  clear hr hlen
  go_enter Try.func9, Try.ntmps9
  go_wp2_with fail
  go_ret3
  exact ⟨rfl, Lo.refl _⟩

set_option maxHeartbeats 800000 in
theorem gput_wrong (v : Value) (l : List Gl.Ext) (long : Bool) (w : World) (hr : ERow w v l) (h1 : 1 ≤ l.length) (h2 : l.length ≤ 65535) (h : l.all Gl.isExt = false) :
    Calls Try.prog 9 #[v, .bool long] w fun e w' => e = strs3 ([], [], 1) ∧ Lo w w' := by
  have HV := Lib.hid (areValid_any v l w hr)
  rw [h] at HV
  obtain ⟨p, c, rfl, hlen⟩ := RowK.form hr
  generalize l.length = n at *
  clear hr hlen h
  have h3 : ¬ n < 1 := by omega
  have h4 : ¬ 65535 < n := by omega
  go_enter Try.func9, Try.ntmps9
  go_wp2_with fail
  refine (HV.out).mono ?_
  rintro e w1 ⟨rfl, lo⟩
  have HL := Lib.hid lo
  clear lo HV
  go_wp2_with fail
  go_ret3
  exact ⟨rfl, HL.out⟩

set_option maxRecDepth 100000 in
set_option maxHeartbeats 3200000 in
theorem gput_right (v : Value) (l : List Gl.Ext) (long : Bool) (w : World) (hr : ERow w v l) (h1 : 1 ≤ l.length) (h2 : l.length ≤ 10000) (h : l.all Gl.isExt = true) :
    Calls Try.prog 9 #[v, .bool long] w fun e w' => e = strs3 (Gl.loca l long, Gl.bodies l, 0) ∧ Lo w w' := by
  have HV := Lib.hid (areValid_any v l w hr)
  rw [h] at HV
  have ho := Gl.outlines_le l
  have HOu := Lib.hid (fun W (hr : ERow W v l) => outlines_any v l W hr (by omega))
  have HF := Lib.hid (fun W => offsetForm_any long W)
  have HLd := Lib.hid (fun W (hr : ERow W v l) => laid_any v l (Gl.unitN long) W hr (by omega) (by cases long; exact .inr rfl; exact .inl rfl))
  have hvl : (Gl.vals l).length ≤ 60000 := by rw [Gl.vals_many]; omega
  rw [Gl.ends_places] at HLd
  unfold TwoRows at HLd
  rw [Gl.places_len] at HLd
  rw [Gl.unit_nat] at HF
  have HM1 := Lib.hid (fun W => repeated_any ((Gl.wid long : Nat) : Int) (l.length + 1) W (by omega))
  have HM2 := Lib.hid (fun W => repeated_any (-2) (Gl.vals l).length W (by omega))
  unfold Many at HM1 HM2
  have HP1 := Lib.hid (fun (a b : Value) (W : World) (r1 : Row W a (List.replicate (l.length + 1) ((Gl.wid long : Nat) : Int))) (r2 : Row W b (Gl.places l long)) => put_any _ _ a b W r1 r2 (by rw [List.length_replicate]; omega))
  rw [Gl.put_loca (by split <;> omega)] at HP1
  have HP2 := Lib.hid (fun (a b : Value) (W : World) (r1 : Row W a (List.replicate (Gl.vals l).length (-2))) (r2 : Row W b (Gl.vals l)) => put_any _ _ a b W r1 r2 (by rw [List.length_replicate]; omega))
  rw [Gl.put_bodies h] at HP2
  unfold strErr at HP1 HP2
  dsimp only at HP1 HP2
  unfold strs3
  dsimp only
  obtain ⟨p, c, rfl, hlen⟩ := RowK.form hr
  have HR := Lib.hid hr
  generalize Gl.loca l long = t1 at *
  generalize Gl.bodies l = t2 at *
  generalize Gl.places l long = ps at *
  generalize Gl.vals l = vs at *
  generalize Gl.outlines l = ou at *
  generalize Gl.wid long = z at *
  generalize Gl.unitN long = un at *
  generalize l.length = n at *
  generalize vs.length = m at *
  rw [show ((n + 1 : Nat) : Int) = (n : Int) + 1 by omega] at HM1
  clear hr hlen h
  have h3 : ¬ n < 1 := by omega
  have h4 : ¬ 65535 < n := by omega
  have h5 : ¬ 10922 < ou := by omega
  cases long with
  | true =>
    go_enter Try.func9, Try.ntmps9
    go_wp2_with fail
    refine (HV.out).mono ?_
    rintro e w1 ⟨rfl, lo⟩
    have HL := Lib.hid lo
    clear lo HV
    go_wp2_with fail
    refine (HF.out _).mono ?_
    rintro e w2 ⟨rfl, rfl⟩
    go_wp2_with fail
    refine (HLd.out _ (RowK.lo HR.out HL.out)).mono ?_
    rintro e w3 ⟨p3, c3, q3, d3, rfl, hr1, hr2, lo⟩
    have HR1 := Lib.hid hr1
    have HR2 := Lib.hid hr2
    have HL := Lib.hid (HL.out.trans lo)
    clear lo hr1 hr2 HLd HF HR
    go_wp2_with fail
    refine (HM1.out _).mono ?_
    rintro e w4 ⟨p4, c4, rfl, hr, lo⟩
    have HR3 := Lib.hid hr
    have HR1 := Lib.hid (HR1.out.lo lo)
    have HR2 := Lib.hid (HR2.out.lo lo)
    have HL := Lib.hid (HL.out.trans lo)
    clear lo hr HM1
    go_wp2_with fail
    refine (HP1.out _ _ _ HR3.out HR1.out).mono ?_
    rintro e w5 ⟨rfl, lo⟩
    have HR2 := Lib.hid (HR2.out.lo lo)
    have HL := Lib.hid (HL.out.trans lo)
    clear lo HP1 HR3 HR1
    go_wp2_with fail
    refine (HM2.out _).mono ?_
    rintro e w6 ⟨p6, c6, rfl, hr, lo⟩
    have HR3 := Lib.hid hr
    have HR2 := Lib.hid (HR2.out.lo lo)
    have HL := Lib.hid (HL.out.trans lo)
    clear lo hr HM2
    go_wp2_with fail
    refine (HP2.out _ _ _ HR3.out HR2.out).mono ?_
    rintro e w7 ⟨rfl, lo⟩
    have HL := Lib.hid (HL.out.trans lo)
    clear lo HP2 HR3 HR2
    go_wp2_with fail
    go_ret3
    exact ⟨rfl, HL.out⟩
  | false =>
    go_enter Try.func9, Try.ntmps9
    go_wp2_with fail
    refine (HV.out).mono ?_
    rintro e w1 ⟨rfl, lo⟩
    have HL := Lib.hid lo
    clear lo HV
    go_wp2_with fail
    refine (HOu.out _ (RowK.lo HR.out HL.out)).mono ?_
    rintro e w1b ⟨rfl, lo⟩
    have HL := Lib.hid (HL.out.trans lo)
    clear lo HOu
    go_wp2_with fail
    refine (HF.out _).mono ?_
    rintro e w2 ⟨rfl, rfl⟩
    go_wp2_with fail
    refine (HLd.out _ (RowK.lo HR.out HL.out)).mono ?_
    rintro e w3 ⟨p3, c3, q3, d3, rfl, hr1, hr2, lo⟩
    have HR1 := Lib.hid hr1
    have HR2 := Lib.hid hr2
    have HL := Lib.hid (HL.out.trans lo)
    clear lo hr1 hr2 HLd HF HR
    go_wp2_with fail
    refine (HM1.out _).mono ?_
    rintro e w4 ⟨p4, c4, rfl, hr, lo⟩
    have HR3 := Lib.hid hr
    have HR1 := Lib.hid (HR1.out.lo lo)
    have HR2 := Lib.hid (HR2.out.lo lo)
    have HL := Lib.hid (HL.out.trans lo)
    clear lo hr HM1
    go_wp2_with fail
    refine (HP1.out _ _ _ HR3.out HR1.out).mono ?_
    rintro e w5 ⟨rfl, lo⟩
    have HR2 := Lib.hid (HR2.out.lo lo)
    have HL := Lib.hid (HL.out.trans lo)
    clear lo HP1 HR3 HR1
    go_wp2_with fail
    refine (HM2.out _).mono ?_
    rintro e w6 ⟨p6, c6, rfl, hr, lo⟩
    have HR3 := Lib.hid hr
    have HR2 := Lib.hid (HR2.out.lo lo)
    have HL := Lib.hid (HL.out.trans lo)
    clear lo hr HM2
    go_wp2_with fail
    refine (HP2.out _ _ _ HR3.out HR2.out).mono ?_
    rintro e w7 ⟨rfl, lo⟩
    have HL := Lib.hid (HL.out.trans lo)
    clear lo HP2 HR3 HR2
    go_wp2_with fail
    go_ret3
    exact ⟨rfl, HL.out⟩

/-- glyf.Put. -/
theorem gput_any (v : Value) (l : List Gl.Ext) (long : Bool) (w : World) (hr : ERow w v l) (h2 : l.length ≤ 10000) :
    Calls Try.prog 9 #[v, .bool long] w fun e w' => e = strs3 (Gl.put l long) ∧ Lo w w' := by
  rcases Nat.lt_or_ge l.length 1 with h | h
  · rw [Gl.put_arg long (.inl h)]; exact gput_none v l long w hr (by omega)
  · cases ha : l.all Gl.isExt with
    | false => rw [Gl.put_arg long (.inr (.inr ha))]; exact gput_wrong v l long w hr h (by omega) ha
    | true =>
      have ho := Gl.outlines_le l
      rw [Gl.put_right h (by omega) ha (by split <;> omega)]; exact gput_right v l long w hr h h2 ha
end Go.Proofs.Ytkfljalcnjdliaa
