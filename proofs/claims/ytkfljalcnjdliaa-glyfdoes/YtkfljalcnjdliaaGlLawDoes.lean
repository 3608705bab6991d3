/-
  The walk of the law GlyfDoes: it returns true, whatever tables, number and extents (no table longer than a machine's memory), and nothing that was there turns. No conditions beyond that.
-/
import Derived.Test.YtkfljalcnjdliaaGlRefGet
import Derived.Test.YtkfljalcnjdliaaGlRefPut
import Derived.SizedLaws
namespace Go.Proofs.Ytkfljalcnjdliaa
open Go.RowKit

/-- Two extents' cells stand, further on. -/
abbrev TwoExtAt (b o b2 o2 : Nat) (xa : Bool) (x0 y0 x1 y1 : Int) (w0 W : World) : Prop :=
  W.cell? ⟨b, o, none⟩ = some (.bool xa) ∧ W.cell? ⟨b, o + 1, none⟩ = some (.int .i64 x0) ∧ W.cell? ⟨b, o + 2, none⟩ = some (.int .i64 y0) ∧ W.cell? ⟨b, o + 3, none⟩ = some (.int .i64 x1) ∧ W.cell? ⟨b, o + 4, none⟩ = some (.int .i64 y1) ∧
  W.cell? ⟨b2, o2, none⟩ = some (.bool xa) ∧ W.cell? ⟨b2, o2 + 1, none⟩ = some (.int .i64 x0) ∧ W.cell? ⟨b2, o2 + 2, none⟩ = some (.int .i64 y0) ∧ W.cell? ⟨b2, o2 + 3, none⟩ = some (.int .i64 x1) ∧ W.cell? ⟨b2, o2 + 4, none⟩ = some (.int .i64 y1) ∧ Hid (Lo w0 W)

set_option maxHeartbeats 400000 in
theorem glyfDoes_long (s g : List UInt8) (n : Int) (long : Bool) (v : Value) (l : List Gl.Ext) (w : World) (hr : ERow w v l) (hs : s.length ≤ 140737488351232) (hg : g.length ≤ 140737488351232) (h : 4000 < s.length + g.length ∨ 300 < l.length) :
    Calls Try.prog 3 #[.string ⟨s.toArray⟩, .string ⟨g.toArray⟩, .int .i64 n, .bool long, v] w fun e w' => e = .returned (.bool true) ∧ Lo w w' := by
  obtain ⟨p, c, rfl, hlen⟩ := RowK.form hr
  generalize l.length = m at *
  clear hr
  by_cases h1 : (4000 : Int) < (s.length : Int) + (g.length : Int)
  · clear h
    go_enter Try.func3, Try.ntmps3
    go_wp2_with fail
    go_ret
    exact ⟨rfl, Lo.refl _⟩
  · have h2 : 300 < m := by omega
    clear h
    go_enter Try.func3, Try.ntmps3
    go_wp2_with fail
    go_ret
    exact ⟨rfl, Lo.refl _⟩

set_option maxRecDepth 100000 in
set_option maxHeartbeats 6400000 in
theorem glyfDoes_some (s g : List UInt8) (n : Int) (long : Bool) (v : Value) (l : List Gl.Ext) (w : World) (hr : ERow w v l) (h : s.length + g.length ≤ 4000) (hl : l.length ≤ 300) :
    Calls Try.prog 3 #[.string ⟨s.toArray⟩, .string ⟨g.toArray⟩, .int .i64 n, .bool long, v] w fun e w' => e = .returned (.bool true) ∧ Lo w w' := by
  have HG1 := Lib.hid (fun W => gget_any s g n long W (by omega) (by omega))
  have HG2 := Lib.hid (fun W => grget_any s g n long W (by omega) (by omega))
  have HP1 := Lib.hid (fun (v : Value) W (h : ERow W v l) => gput_any v l long W h (by omega))
  have HP2 := Lib.hid (fun (v : Value) W (h : ERow W v l) => grput_any v l long W h hl)
  have HD := Lib.hid (fun W => drawn_any W)
  unfold GotExt at HG1 HG2
  unfold strs3 at HP1 HP2
  generalize (Gl.get s g n long).2 = ge at *
  generalize hgl : (Gl.get s g n long).1 = gl at *
  clear hgl
  generalize (Gl.put l long).1 = t1 at *
  generalize (Gl.put l long).2.1 = t2 at *
  generalize (Gl.put l long).2.2 = t3 at *
  have HS1 := Lib.hid (fun (v u : Value) (W : World) (h : ERow W v gl) (h2 : ERow W u gl) => esame_any gl v u W h h2)
  have HS2 := Lib.hid (fun (v u : Value) (W : World) (h : ERow W v l) (h2 : ERow W u l) => esame_any l v u W h h2)
  have HX : Hid (∀ k, k < l.length → l[k]? = some (l.getD k Gl.none)) := Lib.hid (fun k hk => Gl.getD_some hk)
  obtain ⟨p, c, rfl, hlen⟩ := RowK.form hr
  have HR := Lib.hid hr
  generalize hm : l.length = m at *
  have HM := Lib.hid hm
  generalize gl.length = q at *
  have h1 : ¬ (4000 : Int) < (s.length : Int) + (g.length : Int) := by omega
  have h2 : ¬ 300 < m := by omega
  clear hr hm
  go_enter Try.func3, Try.ntmps3
  go_wp2_with (at_builtin; refine wpList_appK _ rfl (.tmp 34) (.tmp 35) _ rfl 30 5 40 _ Try.underlying22 ext_info rfl (by omega) (by omega) encE_len encE_one w.heap.size (.slice none 0 0) [] rfl (OwnK.none _ _ _ _ _) _ l rfl HR.out (by rw [HM.out]; simp; omega) (Nat.le_refl _) ?_; intro q1 cz w3 hown hlo; have HO := Lib.hid (OwnK.row encE_len hown); have HL := Lib.hid (hlo w (Lo.refl _) (Nat.le_refl _)); clear hown hlo; rw [List.nil_append, List.length_nil, Nat.zero_add, HM.out] at HO; rw [List.length_nil, Nat.zero_add, HM.out])
  have HR := Lib.hid (RowK.lo HR.out HL.out)
  refine (HG1.out _).mono ?_
  rintro e w4 ⟨p4, c4, rfl, hrow, lo⟩
  have HL := Lib.hid (HL.out.trans lo)
  have HR := Lib.hid (RowK.lo HR.out lo)
  have HO := Lib.hid (RowK.lo HO.out lo)
  have HA := Lib.hid hrow
  clear lo hrow HG1
  go_wp2_with fail
  refine (HG2.out _).mono ?_
  rintro e w5 ⟨p5, c5, rfl, hrow, lo⟩
  have HL := Lib.hid (HL.out.trans lo)
  have HR := Lib.hid (RowK.lo HR.out lo)
  have HO := Lib.hid (RowK.lo HO.out lo)
  have HA := Lib.hid (RowK.lo HA.out lo)
  have HB := Lib.hid hrow
  clear lo hrow HG2
  go_wp2_with fail
  refine (HP1.out _ _ HR.out).mono ?_
  rintro e w6 ⟨rfl, lo⟩
  have HL := Lib.hid (HL.out.trans lo)
  have HR := Lib.hid (RowK.lo HR.out lo)
  have HO := Lib.hid (RowK.lo HO.out lo)
  have HA := Lib.hid (RowK.lo HA.out lo)
  have HB := Lib.hid (RowK.lo HB.out lo)
  clear lo HP1
  go_wp2_with fail
  refine (HP2.out _ _ HO.out).mono ?_
  rintro e w7 ⟨rfl, lo⟩
  have HL := Lib.hid (HL.out.trans lo)
  have HR := Lib.hid (RowK.lo HR.out lo)
  have HO := Lib.hid (RowK.lo HO.out lo)
  have HA := Lib.hid (RowK.lo HA.out lo)
  have HB := Lib.hid (RowK.lo HB.out lo)
  clear lo HP2
  go_wp2_with fail
  go_loopw [22] (fun i W => ∃ k : Nat, k ≤ m ∧ i = .int .i64 k ∧ Hid (Lo w7 W)) (fun i _ => m - (intOf i).toNat)
  case atStart => exact ⟨0, Nat.zero_le _, rfl, Lib.hid (Lo.refl _)⟩
  case round =>
    obtain ⟨k, hk, rfl, HL2⟩ := hrel
    rename World => W1
    by_cases hlt : k < m
    · have hx := HX.out k hlt
      obtain ⟨b, off, rfl, r0, r1, r2, r3, r4⟩ := ERow.at5 (RowK.lo HR.out HL2.out) hx
      obtain ⟨b2, off2, rfl, s0, s1, s2, s3, s4⟩ := ERow.at5 (RowK.lo HO.out HL2.out) hx
      clear hx
      generalize l.getD k Gl.none = x at *
      have HI1 := Lib.hid (fun W => gis_any x W)
      have HI2 := Lib.hid (fun W => gris_any x W)
      generalize Gl.isExt x = r at *
      obtain ⟨xa, x0, y0, x1, y1⟩ := x
      unfold aggE at HI1 HI2
      dsimp only at *
      have hb := World.block_lt_of_cell? W1 _ r0
      have hb2 := World.block_lt_of_cell? W1 _ s0
      have HS : Hid (∀ W, Lo W1 W → TwoExtAt b (off + k * 5) b2 (off2 + k * 5) xa x0 y0 x1 y1 W1 W) := Lib.hid (fun W lo => ⟨(lo.cell hb).trans r0, (lo.cell hb).trans r1, (lo.cell hb).trans r2, (lo.cell hb).trans r3, (lo.cell hb).trans r4, (lo.cell hb2).trans s0, (lo.cell hb2).trans s1, (lo.cell hb2).trans s2, (lo.cell hb2).trans s3, (lo.cell hb2).trans s4, Lib.hid lo⟩)
      have C1 : Hid (∀ W, TwoExtAt b (off + k * 5) b2 (off2 + k * 5) xa x0 y0 x1 y1 W1 W → Calls Try.prog 11 #[.agg #[.bool xa, .int .i64 x0, .int .i64 y0, .int .i64 x1, .int .i64 y1]] W fun e w' => e = .returned (.bool r) ∧ TwoExtAt b (off + k * 5) b2 (off2 + k * 5) xa x0 y0 x1 y1 W1 w') :=
        Lib.hid (fun W hW => (HI1.out W).mono fun e w' hh => ⟨hh.1, HS.out w' (hW.2.2.2.2.2.2.2.2.2.2.out.trans hh.2)⟩)
      have C2 : Hid (∀ W, TwoExtAt b (off + k * 5) b2 (off2 + k * 5) xa x0 y0 x1 y1 W1 W → Calls Try.prog 12 #[.agg #[.bool xa, .int .i64 x0, .int .i64 y0, .int .i64 x1, .int .i64 y1]] W fun e w' => e = .returned (.bool r) ∧ TwoExtAt b (off + k * 5) b2 (off2 + k * 5) xa x0 y0 x1 y1 W1 w') :=
        Lib.hid (fun W hW => (HI2.out W).mono fun e w' hh => ⟨hh.1, HS.out w' (hW.2.2.2.2.2.2.2.2.2.2.out.trans hh.2)⟩)
      clear HI1 HI2 r0 r1 r2 r3 r4 s0 s1 s2 s3 s4 hb hb2
      have j1 : (k : Int) < (m : Int) := by omega
      go_wp2_with fail
      go_region_held3 (fun W => TwoExtAt b (off + k * 5) b2 (off2 + k * 5) xa x0 y0 x1 y1 W1 W) (first | assumption | exact HS.out _ (Lo.drew (Lo.refl _)))
        (first
          | (go_at_call 11; refine (C1.out _ (by assumption)).mono ?_; rintro e wA ⟨rfl, hSA⟩)
          | (go_at_call 12; refine (C2.out _ (by assumption)).mono ?_; rintro e wB ⟨rfl, hSB⟩))
      all_goals
        have HL3 : Hid (Lo w7 wB) := Lib.hid (HL2.out.trans hSB.2.2.2.2.2.2.2.2.2.2.out)
        clear hSA hSB HS C1 C2
        go_wp2_with fail
        go_roundw
        case rel => exact ⟨k + 1, by omega, by go_num, HL3⟩
        case measure => simp [intOf]; omega
    · obtain rfl : k = m := by omega
      have HL := Lib.hid (HL.out.trans HL2.out)
      have HR := Lib.hid (RowK.lo HR.out HL2.out)
      have HO := Lib.hid (RowK.lo HO.out HL2.out)
      have HA := Lib.hid (RowK.lo HA.out HL2.out)
      have HB := Lib.hid (RowK.lo HB.out HL2.out)
      clear HL2
      go_wp2_with fail
      refine (HD.out _).mono ?_
      rintro e w8 ⟨rfl, lo⟩
      have HL := Lib.hid (HL.out.trans lo)
      have HR := Lib.hid (RowK.lo HR.out lo)
      have HO := Lib.hid (RowK.lo HO.out lo)
      have HA := Lib.hid (RowK.lo HA.out lo)
      have HB := Lib.hid (RowK.lo HB.out lo)
      clear lo HD
      go_wp2_with fail
      refine (HS1.out _ _ _ HA.out HB.out).mono ?_
      rintro e w9 ⟨rfl, lo⟩
      have HL := Lib.hid (HL.out.trans lo)
      have HR := Lib.hid (RowK.lo HR.out lo)
      have HO := Lib.hid (RowK.lo HO.out lo)
      clear lo HS1 HA HB
      go_wp2_with fail
      refine (HS2.out _ _ _ HR.out HO.out).mono ?_
      rintro e w10 ⟨rfl, lo⟩
      have HL := Lib.hid (HL.out.trans lo)
      clear lo HS2 HR HO
      go_wp2_with fail
      go_ret
      exact ⟨rfl, HL.out⟩

theorem glyfDoes_walk (a b : ByteArray) (n : Int) (long : Bool) (v : Value) (l : List Gl.Ext) (w : World) (_w0 : a.size ≤ maxLen) (z0 : a.data.toList.length ≤ reachBytes) (_w1 : b.size ≤ maxLen) (z1 : b.data.toList.length ≤ reachBytes) (_w2 : (Lit.int .i64 n).wf = true) (hr : ERow w v l) :
    Calls Try.prog 3 #[.string a, .string b, .int .i64 n, .bool long, v] w fun e w' => e = .returned (.bool true) ∧ Below w.heap.size w w' := by
  by_cases h : a.data.toList.length + b.data.toList.length ≤ 4000 ∧ l.length ≤ 300
  · exact glyfDoes_some a.data.toList b.data.toList n long v l w hr h.1 h.2
  · exact glyfDoes_long a.data.toList b.data.toList n long v l w hr z0 z1 (by omega)
end Go.Proofs.Ytkfljalcnjdliaa
