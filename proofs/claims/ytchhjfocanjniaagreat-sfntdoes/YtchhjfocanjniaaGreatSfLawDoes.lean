/-
  The walk of the law SfntDoes: it returns true for all texts, numbers and tables. No conditions.
-/
import Derived.Test.YtchhjfocanjniaaGreatSfRefPut
import Derived.Test.YtchhjfocanjniaaGreatSfFiled
namespace Go.Proofs.YtchhjfocanjniaaGreat
open Go.RowKit

abbrev PairTab (b b' o o' : Nat) (t d : List UInt8) (w0 W : World) : Prop := W.cell? ⟨b, o, none⟩ = some (.string ⟨t.toArray⟩) ∧ W.cell? ⟨b, o + 1, none⟩ = some (.string ⟨d.toArray⟩) ∧ W.cell? ⟨b', o', none⟩ = some (.string ⟨t.toArray⟩) ∧ W.cell? ⟨b', o' + 1, none⟩ = some (.string ⟨d.toArray⟩) ∧ Hid (Lo w0 W)

set_option maxRecDepth 100000 in
set_option maxHeartbeats 800000 in
theorem sfntDoes_mid (s t : List UInt8) (v : Int) (u : Value) (w : World) (h1 : 4000 < s.length) (h2 : s.length ≤ 16777216) :
    Calls Tryz.prog 3 #[.string ⟨s.toArray⟩, .int .i64 v, u, .string ⟨t.toArray⟩] w fun e w' => e = .returned (.bool true) ∧ Lo w w' := by
  have b1 : decide ((4000 : Int) < (s.length : Int)) = true := by simp; omega
  have b2 : decide ((s.length : Int) ≤ 16777216) = true := by simp; omega
  have b1' : decide (4000 < s.length) = true := by simp; omega
  have b2' : decide (s.length ≤ 16777216) = true := by simp; omega
  clear h1 h2
  go_enter Tryz.func3, Tryz.ntmps3
  go_wp2_with fail
  go_ret
  exact ⟨rfl, Lo.refl _⟩

set_option maxRecDepth 100000 in
set_option maxHeartbeats 800000 in
theorem sfntDoes_letS (s t : List UInt8) (v : Int) (l : List Sf.Tab) (u : Value) (w : World) (hr : TRow w u l) (hb : ∀ x ∈ l, x.1.length ≤ 9223372036854775807 ∧ x.2.length ≤ 9223372036854775807) (hs : s.length ≤ 4000) (ht : t.length ≤ 9223372036854775807) (h : Sf.few l = false ∨ 20 < t.length) :
    Calls Tryz.prog 3 #[.string ⟨s.toArray⟩, .int .i64 v, u, .string ⟨t.toArray⟩] w fun e w' => e = .returned (.bool true) ∧ Lo w w' := by
  have CF := Lib.hid (few_any l u w hr hb)
  obtain ⟨p, c, rfl, hlen⟩ := hr.form
  have b1 : decide ((4000 : Int) < (s.length : Int)) = false := by simp; omega
  have b1' : decide (4000 < s.length) = false := by simp; omega
  clear hr hb
  cases hf : Sf.few l with
  | false =>
    rw [hf] at CF
    clear h hf
    go_enter Tryz.func3, Tryz.ntmps3
    go_wp2_with fail
    refine CF.out.mono ?_
    rintro e w1 ⟨rfl, lo⟩
    have HL := Lib.hid lo
    clear lo CF
    go_wp2_with fail
    go_ret
    exact ⟨rfl, HL.out⟩
  | true =>
    rw [hf] at CF h
    have h20 : 20 < t.length := by simpa using h
    have b3 : decide ((20 : Int) < (t.length : Int)) = true := by simp; omega
    clear h hf
    go_enter Tryz.func3, Tryz.ntmps3
    go_wp2_with fail
    refine CF.out.mono ?_
    rintro e w1 ⟨rfl, lo⟩
    have HL := Lib.hid lo
    clear lo CF
    go_wp2_with fail
    go_ret
    exact ⟨rfl, HL.out⟩

set_option maxRecDepth 100000 in
set_option maxHeartbeats 4000000 in
theorem sfntDoes_mainS (s t : List UInt8) (v : Int) (l : List Sf.Tab) (u : Value) (w : World) (hr : TRow w u l) (hb : ∀ x ∈ l, x.1.length ≤ 9223372036854775807 ∧ x.2.length ≤ 9223372036854775807) (hs : s.length ≤ 4000) (hl : s.length ≤ 9223372036854775807) (ht : t.length ≤ 20) (hf : Sf.few l = true) :
    Calls Tryz.prog 3 #[.string ⟨s.toArray⟩, .int .i64 v, u, .string ⟨t.toArray⟩] w fun e w' => e = .returned (.bool true) ∧ Lo w w' := by
  have CF := Lib.hid (fun W (h : TRow W u l) => few_any l u W h hb)
  rw [hf] at CF
  have HSm := Lib.hid (Sf.few_small hf)
  have hn70 := HSm.out.1
  have CG := Lib.hid (fun W => sget_any s W hl)
  have CG2 := Lib.hid (fun W => rsget_any s W (by omega))
  have CP := Lib.hid (fun (u : Value) (W : World) (h : TRow W u l) => sput_any v l u W h HSm.out)
  have CP2 := Lib.hid (fun (u : Value) (W : World) (h : TRow W u l) => rsput_any v l u W h HSm.out)
  have CFi := Lib.hid (fun (u : Value) (W : World) (h : TRow W u l) => find_any l t u W h)
  have CFi2 := Lib.hid (fun (u : Value) (W : World) (h : TRow W u l) => rfind_any l u t W h)
  unfold GotTabs at CG CG2
  unfold strErr at CP CP2
  generalize (Sf.get s).1 = gv at *
  generalize (Sf.get s).2.1 = q at *
  generalize (Sf.get s).2.2 = ge at *
  generalize (Sf.put v l).1 = y1 at *
  generalize (Sf.put v l).2 = y2 at *
  generalize (Sf.find l t).1 = z1 at *
  generalize (Sf.find l t).2 = z2 at *
  generalize q.length = qn at *
  obtain ⟨p, c, rfl, hlen⟩ := hr.form
  have HR0 := Lib.hid hr
  have b1 : decide ((4000 : Int) < (s.length : Int)) = false := by simp; omega
  have b1' : decide (4000 < s.length) = false := by simp; omega
  have b3 : decide ((20 : Int) < (t.length : Int)) = false := by simp; omega
  have b3' : decide (20 < t.length) = false := by simp; omega
  generalize hnn : l.length = n at *
  have HN := Lib.hid hnn
  clear hr hb hf hnn
  go_enter Tryz.func3, Tryz.ntmps3
  go_wp2_with fail
  refine (CF.out _ HR0.out).mono ?_
  rintro e w1 ⟨rfl, lo⟩
  have HL1 := Lib.hid lo
  have HR1 := Lib.hid (RowK.lo HR0.out lo)
  have HO0 : Hid (OwnK encT 33 2 w1 w1.heap.size (.slice none 0 0) []) := Lib.hid (OwnK.none _ _ _ _ _)
  clear lo CF HR0
  go_wp2_with (at_builtin; refine wpList_appK (enc := encT) _ rfl (.tmp 43) (.tmp 44) 22 rfl 33 2 32 (.agg #[.string ⟨#[]⟩, .string ⟨#[]⟩]) (by kernel_rfl) (by kernel_rfl) rfl (by omega) (by omega) encT_len encT_one w1.heap.size (.slice none 0 0) [] rfl HO0.out _ l rfl HR1.out (by rw [HN.out]; simp; omega) (Nat.le_refl _) ?_; intro po co w2 hown hlo; have HO2 := Lib.hid (OwnK.row encT_len hown); have lo := hlo w1 (Lo.refl _) (Nat.le_refl _); have HL2 := Lib.hid (HL1.out.trans lo); have HR2 := Lib.hid (RowK.lo HR1.out lo); clear hown hlo lo HL1 HR1 HO0; rw [List.nil_append, List.length_nil, Nat.zero_add, HN.out] at HO2; rw [List.length_nil, Nat.zero_add, HN.out])
  refine (CG.out _).mono ?_
  rintro e w3 ⟨pa, ca, rfl, hrow, lo⟩
  have HL3 := Lib.hid (HL2.out.trans lo)
  have HR3 := Lib.hid (RowK.lo HR2.out lo)
  have HO3 := Lib.hid (RowK.lo HO2.out lo)
  have HA3 := Lib.hid hrow
  clear hrow
  clear lo HL2 HR2 HO2
  go_wp2_with fail
  refine (CG2.out _).mono ?_
  rintro e w4 ⟨pb, cb, rfl, hrow, lo⟩
  have HL4 := Lib.hid (HL3.out.trans lo)
  have HR4 := Lib.hid (RowK.lo HR3.out lo)
  have HO4 := Lib.hid (RowK.lo HO3.out lo)
  have HA4 := Lib.hid (RowK.lo HA3.out lo)
  have HB4 := Lib.hid hrow
  clear hrow
  clear lo HL3 HR3 HO3 HA3
  go_wp2_with fail
  refine (CP.out _ _ HR4.out).mono ?_
  rintro e w5 ⟨rfl, lo⟩
  have HL5 := Lib.hid (HL4.out.trans lo)
  have HR5 := Lib.hid (RowK.lo HR4.out lo)
  have HO5 := Lib.hid (RowK.lo HO4.out lo)
  have HA5 := Lib.hid (RowK.lo HA4.out lo)
  have HB5 := Lib.hid (RowK.lo HB4.out lo)
  clear lo HL4 HR4 HO4 HA4 HB4
  go_wp2_with fail
  refine (CP2.out _ _ HO5.out).mono ?_
  rintro e w6 ⟨rfl, lo⟩
  have HL6 := Lib.hid (HL5.out.trans lo)
  have HR6 := Lib.hid (RowK.lo HR5.out lo)
  have HO6 := Lib.hid (RowK.lo HO5.out lo)
  have HA6 := Lib.hid (RowK.lo HA5.out lo)
  have HB6 := Lib.hid (RowK.lo HB5.out lo)
  clear lo HL5 HR5 HO5 HA5 HB5
  go_wp2_with fail
  refine (CFi.out _ _ HR6.out).mono ?_
  rintro e w7 ⟨rfl, lo⟩
  have HL7 := Lib.hid (HL6.out.trans lo)
  have HR7 := Lib.hid (RowK.lo HR6.out lo)
  have HO7 := Lib.hid (RowK.lo HO6.out lo)
  have HA7 := Lib.hid (RowK.lo HA6.out lo)
  have HB7 := Lib.hid (RowK.lo HB6.out lo)
  clear lo HL6 HR6 HO6 HA6 HB6
  go_wp2_with fail
  refine (CFi2.out _ _ HO7.out).mono ?_
  rintro e w8 ⟨rfl, rfl⟩
  clear CG CG2 CP CP2 CFi CFi2
  go_wp2_with fail
  go_loopw [24] (fun i W => ∃ k : Nat, k ≤ n ∧ i = .int .i64 k ∧ Hid (Lo w7 W)) (fun i _ => n - (intOf i).toNat)
  case atStart => exact ⟨0, Nat.zero_le _, rfl, Lib.hid (Lo.refl _)⟩
  case round =>
    obtain ⟨k, hk, rfl, HLk⟩ := hrel
    by_cases hlt : k < n
    · obtain ⟨⟨tg, d⟩, hx⟩ := Sf.some_at (l := l) (k := k) (by rw [HN.out]; exact hlt)
      have hsm := HSm.out.at_ hx
      obtain ⟨b, off, rfl, c1, c2⟩ := TRow.at2 HR7.out hx
      obtain ⟨b', off', rfl, c3, c4⟩ := TRow.at2 HO7.out hx
      dsimp only at hsm c1 c2 c3 c4
      have k1 := World.block_lt_of_cell? w7 _ c1
      have k2 := World.block_lt_of_cell? w7 _ c3
      have HSt : Hid (∀ W, Lo w7 W → PairTab b b' (off + k * 2) (off' + k * 2) tg d w7 W) := Lib.hid (fun W lo => ⟨(lo.cell k1).trans c1, (lo.cell k1).trans c2, (lo.cell k2).trans c3, (lo.cell k2).trans c4, Lib.hid lo⟩)
      have CS : Hid (∀ W, PairTab b b' (off + k * 2) (off' + k * 2) tg d w7 W → Calls Tryz.prog 11 #[.agg #[.string ⟨tg.toArray⟩, .string ⟨d.toArray⟩]] W fun e w' => e = .returned (.int .i64 (Sf.tsum (tg, d) : Nat)) ∧ PairTab b b' (off + k * 2) (off' + k * 2) tg d w7 w') := Lib.hid (fun W hW => (tsum_any (tg, d) W (by dsimp only; omega)).mono fun _ _ ⟨h1, h2⟩ => ⟨h1, HSt.out _ (hW.2.2.2.2.out.trans h2)⟩)
      have CS2 : Hid (∀ W, PairTab b b' (off + k * 2) (off' + k * 2) tg d w7 W → Calls Tryz.prog 12 #[.agg #[.string ⟨tg.toArray⟩, .string ⟨d.toArray⟩]] W fun e w' => e = .returned (.int .i64 (Sf.tsum (tg, d) : Nat)) ∧ PairTab b b' (off + k * 2) (off' + k * 2) tg d w7 w') := Lib.hid (fun W hW => (rtsum_any (tg, d) W (by dsimp only; omega)).mono fun _ _ ⟨h1, h2⟩ => ⟨h1, HSt.out _ (hW.2.2.2.2.out.trans h2)⟩)
      generalize Sf.tsum (tg, d) = ts at *
      clear hx c1 c2 c3 c4 k1 k2
      have s3 : (0 : Int) ≤ (k : Int) := by omega
      have s4 : (k : Int) < (n : Int) := by omega
      go_wp2_with fail
      go_region_held3 (fun W => PairTab b b' (off + k * 2) (off' + k * 2) tg d w7 W) (first | assumption | exact HSt.out _ HLk.out.drew)
        (first
          | (go_at_call 11; refine (CS.out _ (by assumption)).mono ?_; rintro e wS ⟨rfl, hSS⟩)
          | (go_at_call 12; refine (CS2.out _ (by assumption)).mono ?_; rintro e wB ⟨rfl, hSB⟩))
      all_goals
        have HLk2 := Lib.hid hSB.2.2.2.2.out
        clear CS CS2 HSt hSB hSS
        go_wp2_with fail
        go_roundw
        case rel => exact ⟨k + 1, by omega, by go_num, HLk2⟩
        case measure => simp [intOf]; omega
    · have HL8 := Lib.hid (HL7.out.trans HLk.out)
      have HR8 := Lib.hid (RowK.lo HR7.out HLk.out)
      have HO8 := Lib.hid (RowK.lo HO7.out HLk.out)
      have HA8 := Lib.hid (RowK.lo HA7.out HLk.out)
      have HB8 := Lib.hid (RowK.lo HB7.out HLk.out)
      clear HL7 HR7 HO7 HA7 HB7 HLk
      go_wp2_with fail
      refine (filed_any _).mono ?_
      rintro e w9 ⟨rfl, lo⟩
      have HL9 := Lib.hid (HL8.out.trans lo)
      have HR9 := Lib.hid (RowK.lo HR8.out lo)
      have HO9 := Lib.hid (RowK.lo HO8.out lo)
      have HA9 := Lib.hid (RowK.lo HA8.out lo)
      have HB9 := Lib.hid (RowK.lo HB8.out lo)
      clear lo HL8 HR8 HO8 HA8 HB8
      go_wp2_with fail
      refine (same_any q _ _ _ HA9.out HB9.out).mono ?_
      rintro e w10 ⟨rfl, lo⟩
      have HL10 := Lib.hid (HL9.out.trans lo)
      have HR10 := Lib.hid (RowK.lo HR9.out lo)
      have HO10 := Lib.hid (RowK.lo HO9.out lo)
      clear lo HL9 HR9 HO9
      go_wp2_with fail
      refine (same_any l _ _ _ HR10.out HO10.out).mono ?_
      rintro e w11 ⟨rfl, lo⟩
      have HL11 := Lib.hid (HL10.out.trans lo)
      clear lo HL10 
      go_wp2_with fail
      go_ret
      exact ⟨ret_bool (by simp), HL11.out⟩

set_option maxRecDepth 100000 in
set_option maxHeartbeats 800000 in
theorem sfntDoes_letL (s t : List UInt8) (v : Int) (l : List Sf.Tab) (u : Value) (w : World) (hr : TRow w u l) (hb : ∀ x ∈ l, x.1.length ≤ 9223372036854775807 ∧ x.2.length ≤ 9223372036854775807) (hs : 16777216 < s.length) (ht : t.length ≤ 9223372036854775807) (h : Sf.few l = false ∨ 20 < t.length) :
    Calls Tryz.prog 3 #[.string ⟨s.toArray⟩, .int .i64 v, u, .string ⟨t.toArray⟩] w fun e w' => e = .returned (.bool true) ∧ Lo w w' := by
  have CF := Lib.hid (few_any l u w hr hb)
  obtain ⟨p, c, rfl, hlen⟩ := hr.form
  have b1 : decide ((4000 : Int) < (s.length : Int)) = true := by simp; omega
  have b1' : decide (4000 < s.length) = true := by simp; omega
  have b2 : decide ((s.length : Int) ≤ 16777216) = false := by simp; omega
  have b2' : decide (s.length ≤ 16777216) = false := by simp; omega
  clear hr hb
  cases hf : Sf.few l with
  | false =>
    rw [hf] at CF
    clear h hf
    go_enter Tryz.func3, Tryz.ntmps3
    go_wp2_with fail
    refine CF.out.mono ?_
    rintro e w1 ⟨rfl, lo⟩
    have HL := Lib.hid lo
    clear lo CF
    go_wp2_with fail
    go_ret
    exact ⟨rfl, HL.out⟩
  | true =>
    rw [hf] at CF h
    have h20 : 20 < t.length := by simpa using h
    have b3 : decide ((20 : Int) < (t.length : Int)) = true := by simp; omega
    clear h hf
    go_enter Tryz.func3, Tryz.ntmps3
    go_wp2_with fail
    refine CF.out.mono ?_
    rintro e w1 ⟨rfl, lo⟩
    have HL := Lib.hid lo
    clear lo CF
    go_wp2_with fail
    go_ret
    exact ⟨rfl, HL.out⟩

set_option maxRecDepth 100000 in
set_option maxHeartbeats 4000000 in
theorem sfntDoes_mainL (s t : List UInt8) (v : Int) (l : List Sf.Tab) (u : Value) (w : World) (hr : TRow w u l) (hb : ∀ x ∈ l, x.1.length ≤ 9223372036854775807 ∧ x.2.length ≤ 9223372036854775807) (hs : 16777216 < s.length) (hl : s.length ≤ 9223372036854775807) (ht : t.length ≤ 20) (hf : Sf.few l = true) :
    Calls Tryz.prog 3 #[.string ⟨s.toArray⟩, .int .i64 v, u, .string ⟨t.toArray⟩] w fun e w' => e = .returned (.bool true) ∧ Lo w w' := by
  have CF := Lib.hid (fun W (h : TRow W u l) => few_any l u W h hb)
  rw [hf] at CF
  have HSm := Lib.hid (Sf.few_small hf)
  have hn70 := HSm.out.1
  have CG := Lib.hid (fun W => sget_any s W hl)
  have CG2 := Lib.hid (fun W => rsget_any s W (by omega))
  have CP := Lib.hid (fun (u : Value) (W : World) (h : TRow W u l) => sput_any v l u W h HSm.out)
  have CP2 := Lib.hid (fun (u : Value) (W : World) (h : TRow W u l) => rsput_any v l u W h HSm.out)
  have CFi := Lib.hid (fun (u : Value) (W : World) (h : TRow W u l) => find_any l t u W h)
  have CFi2 := Lib.hid (fun (u : Value) (W : World) (h : TRow W u l) => rfind_any l u t W h)
  unfold GotTabs at CG CG2
  unfold strErr at CP CP2
  generalize (Sf.get s).1 = gv at *
  generalize (Sf.get s).2.1 = q at *
  generalize (Sf.get s).2.2 = ge at *
  generalize (Sf.put v l).1 = y1 at *
  generalize (Sf.put v l).2 = y2 at *
  generalize (Sf.find l t).1 = z1 at *
  generalize (Sf.find l t).2 = z2 at *
  generalize q.length = qn at *
  obtain ⟨p, c, rfl, hlen⟩ := hr.form
  have HR0 := Lib.hid hr
  have b1 : decide ((4000 : Int) < (s.length : Int)) = true := by simp; omega
  have b1' : decide (4000 < s.length) = true := by simp; omega
  have b2 : decide ((s.length : Int) ≤ 16777216) = false := by simp; omega
  have b2' : decide (s.length ≤ 16777216) = false := by simp; omega
  have b3 : decide ((20 : Int) < (t.length : Int)) = false := by simp; omega
  have b3' : decide (20 < t.length) = false := by simp; omega
  generalize hnn : l.length = n at *
  have HN := Lib.hid hnn
  clear hr hb hf hnn
  go_enter Tryz.func3, Tryz.ntmps3
  go_wp2_with fail
  refine (CF.out _ HR0.out).mono ?_
  rintro e w1 ⟨rfl, lo⟩
  have HL1 := Lib.hid lo
  have HR1 := Lib.hid (RowK.lo HR0.out lo)
  have HO0 : Hid (OwnK encT 33 2 w1 w1.heap.size (.slice none 0 0) []) := Lib.hid (OwnK.none _ _ _ _ _)
  clear lo CF HR0
  go_wp2_with (at_builtin; refine wpList_appK (enc := encT) _ rfl (.tmp 43) (.tmp 44) 22 rfl 33 2 32 (.agg #[.string ⟨#[]⟩, .string ⟨#[]⟩]) (by kernel_rfl) (by kernel_rfl) rfl (by omega) (by omega) encT_len encT_one w1.heap.size (.slice none 0 0) [] rfl HO0.out _ l rfl HR1.out (by rw [HN.out]; simp; omega) (Nat.le_refl _) ?_; intro po co w2 hown hlo; have HO2 := Lib.hid (OwnK.row encT_len hown); have lo := hlo w1 (Lo.refl _) (Nat.le_refl _); have HL2 := Lib.hid (HL1.out.trans lo); have HR2 := Lib.hid (RowK.lo HR1.out lo); clear hown hlo lo HL1 HR1 HO0; rw [List.nil_append, List.length_nil, Nat.zero_add, HN.out] at HO2; rw [List.length_nil, Nat.zero_add, HN.out])
  refine (CG.out _).mono ?_
  rintro e w3 ⟨pa, ca, rfl, hrow, lo⟩
  have HL3 := Lib.hid (HL2.out.trans lo)
  have HR3 := Lib.hid (RowK.lo HR2.out lo)
  have HO3 := Lib.hid (RowK.lo HO2.out lo)
  have HA3 := Lib.hid hrow
  clear hrow
  clear lo HL2 HR2 HO2
  go_wp2_with fail
  refine (CG2.out _).mono ?_
  rintro e w4 ⟨pb, cb, rfl, hrow, lo⟩
  have HL4 := Lib.hid (HL3.out.trans lo)
  have HR4 := Lib.hid (RowK.lo HR3.out lo)
  have HO4 := Lib.hid (RowK.lo HO3.out lo)
  have HA4 := Lib.hid (RowK.lo HA3.out lo)
  have HB4 := Lib.hid hrow
  clear hrow
  clear lo HL3 HR3 HO3 HA3
  go_wp2_with fail
  refine (CP.out _ _ HR4.out).mono ?_
  rintro e w5 ⟨rfl, lo⟩
  have HL5 := Lib.hid (HL4.out.trans lo)
  have HR5 := Lib.hid (RowK.lo HR4.out lo)
  have HO5 := Lib.hid (RowK.lo HO4.out lo)
  have HA5 := Lib.hid (RowK.lo HA4.out lo)
  have HB5 := Lib.hid (RowK.lo HB4.out lo)
  clear lo HL4 HR4 HO4 HA4 HB4
  go_wp2_with fail
  refine (CP2.out _ _ HO5.out).mono ?_
  rintro e w6 ⟨rfl, lo⟩
  have HL6 := Lib.hid (HL5.out.trans lo)
  have HR6 := Lib.hid (RowK.lo HR5.out lo)
  have HO6 := Lib.hid (RowK.lo HO5.out lo)
  have HA6 := Lib.hid (RowK.lo HA5.out lo)
  have HB6 := Lib.hid (RowK.lo HB5.out lo)
  clear lo HL5 HR5 HO5 HA5 HB5
  go_wp2_with fail
  refine (CFi.out _ _ HR6.out).mono ?_
  rintro e w7 ⟨rfl, lo⟩
  have HL7 := Lib.hid (HL6.out.trans lo)
  have HR7 := Lib.hid (RowK.lo HR6.out lo)
  have HO7 := Lib.hid (RowK.lo HO6.out lo)
  have HA7 := Lib.hid (RowK.lo HA6.out lo)
  have HB7 := Lib.hid (RowK.lo HB6.out lo)
  clear lo HL6 HR6 HO6 HA6 HB6
  go_wp2_with fail
  refine (CFi2.out _ _ HO7.out).mono ?_
  rintro e w8 ⟨rfl, rfl⟩
  clear CG CG2 CP CP2 CFi CFi2
  go_wp2_with fail
  go_loopw [24] (fun i W => ∃ k : Nat, k ≤ n ∧ i = .int .i64 k ∧ Hid (Lo w7 W)) (fun i _ => n - (intOf i).toNat)
  case atStart => exact ⟨0, Nat.zero_le _, rfl, Lib.hid (Lo.refl _)⟩
  case round =>
    obtain ⟨k, hk, rfl, HLk⟩ := hrel
    by_cases hlt : k < n
    · obtain ⟨⟨tg, d⟩, hx⟩ := Sf.some_at (l := l) (k := k) (by rw [HN.out]; exact hlt)
      have hsm := HSm.out.at_ hx
      obtain ⟨b, off, rfl, c1, c2⟩ := TRow.at2 HR7.out hx
      obtain ⟨b', off', rfl, c3, c4⟩ := TRow.at2 HO7.out hx
      dsimp only at hsm c1 c2 c3 c4
      have k1 := World.block_lt_of_cell? w7 _ c1
      have k2 := World.block_lt_of_cell? w7 _ c3
      have HSt : Hid (∀ W, Lo w7 W → PairTab b b' (off + k * 2) (off' + k * 2) tg d w7 W) := Lib.hid (fun W lo => ⟨(lo.cell k1).trans c1, (lo.cell k1).trans c2, (lo.cell k2).trans c3, (lo.cell k2).trans c4, Lib.hid lo⟩)
      have CS : Hid (∀ W, PairTab b b' (off + k * 2) (off' + k * 2) tg d w7 W → Calls Tryz.prog 11 #[.agg #[.string ⟨tg.toArray⟩, .string ⟨d.toArray⟩]] W fun e w' => e = .returned (.int .i64 (Sf.tsum (tg, d) : Nat)) ∧ PairTab b b' (off + k * 2) (off' + k * 2) tg d w7 w') := Lib.hid (fun W hW => (tsum_any (tg, d) W (by dsimp only; omega)).mono fun _ _ ⟨h1, h2⟩ => ⟨h1, HSt.out _ (hW.2.2.2.2.out.trans h2)⟩)
      have CS2 : Hid (∀ W, PairTab b b' (off + k * 2) (off' + k * 2) tg d w7 W → Calls Tryz.prog 12 #[.agg #[.string ⟨tg.toArray⟩, .string ⟨d.toArray⟩]] W fun e w' => e = .returned (.int .i64 (Sf.tsum (tg, d) : Nat)) ∧ PairTab b b' (off + k * 2) (off' + k * 2) tg d w7 w') := Lib.hid (fun W hW => (rtsum_any (tg, d) W (by dsimp only; omega)).mono fun _ _ ⟨h1, h2⟩ => ⟨h1, HSt.out _ (hW.2.2.2.2.out.trans h2)⟩)
      generalize Sf.tsum (tg, d) = ts at *
      clear hx c1 c2 c3 c4 k1 k2
      have s3 : (0 : Int) ≤ (k : Int) := by omega
      have s4 : (k : Int) < (n : Int) := by omega
      go_wp2_with fail
      go_region_held3 (fun W => PairTab b b' (off + k * 2) (off' + k * 2) tg d w7 W) (first | assumption | exact HSt.out _ HLk.out.drew)
        (first
          | (go_at_call 11; refine (CS.out _ (by assumption)).mono ?_; rintro e wS ⟨rfl, hSS⟩)
          | (go_at_call 12; refine (CS2.out _ (by assumption)).mono ?_; rintro e wB ⟨rfl, hSB⟩))
      all_goals
        have HLk2 := Lib.hid hSB.2.2.2.2.out
        clear CS CS2 HSt hSB hSS
        go_wp2_with fail
        go_roundw
        case rel => exact ⟨k + 1, by omega, by go_num, HLk2⟩
        case measure => simp [intOf]; omega
    · have HL8 := Lib.hid (HL7.out.trans HLk.out)
      have HR8 := Lib.hid (RowK.lo HR7.out HLk.out)
      have HO8 := Lib.hid (RowK.lo HO7.out HLk.out)
      have HA8 := Lib.hid (RowK.lo HA7.out HLk.out)
      have HB8 := Lib.hid (RowK.lo HB7.out HLk.out)
      clear HL7 HR7 HO7 HA7 HB7 HLk
      go_wp2_with fail
      refine (filed_any _).mono ?_
      rintro e w9 ⟨rfl, lo⟩
      have HL9 := Lib.hid (HL8.out.trans lo)
      have HR9 := Lib.hid (RowK.lo HR8.out lo)
      have HO9 := Lib.hid (RowK.lo HO8.out lo)
      have HA9 := Lib.hid (RowK.lo HA8.out lo)
      have HB9 := Lib.hid (RowK.lo HB8.out lo)
      clear lo HL8 HR8 HO8 HA8 HB8
      go_wp2_with fail
      refine (same_any q _ _ _ HA9.out HB9.out).mono ?_
      rintro e w10 ⟨rfl, lo⟩
      have HL10 := Lib.hid (HL9.out.trans lo)
      have HR10 := Lib.hid (RowK.lo HR9.out lo)
      have HO10 := Lib.hid (RowK.lo HO9.out lo)
      clear lo HL9 HR9 HO9
      go_wp2_with fail
      refine (same_any l _ _ _ HR10.out HO10.out).mono ?_
      rintro e w11 ⟨rfl, lo⟩
      have HL11 := Lib.hid (HL10.out.trans lo)
      clear lo HL10 
      go_wp2_with fail
      go_ret
      exact ⟨ret_bool (by simp), HL11.out⟩

theorem sfntDoes_walk (a : ByteArray) (v : Int) (u : Value) (l : List Sf.Tab) (b : ByteArray) (w : World) (wa : a.size ≤ maxLen) (_wv : (Lit.int .i64 v).wf = true) (hr : TRow w u l) (hb : ∀ x ∈ l, x.1.length ≤ 9223372036854775807 ∧ x.2.length ≤ 9223372036854775807) (wb : b.size ≤ maxLen) :
    Calls Tryz.prog 3 #[.string a, .int .i64 v, u, .string b] w fun e w' => e = .returned (.bool true) ∧ Below w.heap.size w w' := by
  have ha : a.data.toList.length ≤ 9223372036854775807 := by unfold maxLen at wa; exact Nat.le_trans (show a.data.toList.length ≤ a.size from Nat.le_refl _) (by omega)
  have hbb : b.data.toList.length ≤ 9223372036854775807 := by unfold maxLen at wb; exact Nat.le_trans (show b.data.toList.length ≤ b.size from Nat.le_refl _) (by omega)
  show Calls Tryz.prog 3 #[.string ⟨a.data.toList.toArray⟩, .int .i64 v, u, .string ⟨b.data.toList.toArray⟩] w _
  generalize a.data.toList = s at *
  generalize b.data.toList = t at *
  by_cases h1 : 4000 < s.length
  · by_cases h2 : s.length ≤ 16777216
    · exact sfntDoes_mid s t v u w h1 h2
    · by_cases h : Sf.few l = false ∨ 20 < t.length
      · exact sfntDoes_letL s t v l u w hr hb (by omega) hbb h
      · exact sfntDoes_mainL s t v l u w hr hb (by omega) ha (by omega) (by cases hf : Sf.few l with | true => rfl | false => exact absurd (.inl hf) h)
  · by_cases h : Sf.few l = false ∨ 20 < t.length
    · exact sfntDoes_letS s t v l u w hr hb (by omega) hbb h
    · exact sfntDoes_mainS s t v l u w hr hb (by omega) ha (by omega) (by cases hf : Sf.few l with | true => rfl | false => exact absurd (.inl hf) h)
end Go.Proofs.YtchhjfocanjniaaGreat
