/-
  Contracts of glyf.extents and glyf.Get: they answer what the plain functions on bytes say. No conditions beyond those stated.
-/
import Derived.Test.YtkfljalcnjdliaaGlExt
import Derived.WalkMore
namespace Gl
/-- What has been got behind k steps. -/
def got (g : List UInt8) (os : List Int) (u : Int) (k : Nat) : List Ext := (List.range k).map fun i => (fO g os u i).1
theorem got_len (g : List UInt8) (os : List Int) (u : Int) (k : Nat) : (got g os u k).length = k := by simp [got]
theorem got_succ (g : List UInt8) (os : List Int) (u : Int) (k : Nat) : got g os u (k + 1) = got g os u k ++ [(fO g os u k).1] := by
  unfold got; rw [List.range_succ, List.map_append]; rfl
end Gl
namespace Go.Proofs.Ytkfljalcnjdliaa
open Go.RowKit

/-- Extents and an error, told. -/
def GotExt (a : List Gl.Ext × Int) (w : World) (e : Ending) (w' : World) : Prop := ∃ p c, e = .returned (.tuple #[.slice p a.1.length c, .int .i64 a.2]) ∧ ERow w' (.slice p a.1.length c) a.1 ∧ Lo w w'
theorem GotExt.nil {w w' : World} {k : Int} {e : Ending} (he : e = .returned (.tuple #[.slice none 0 0, .int .i64 k])) (h : Lo w w') : GotExt ([], k) w e w' := by
  subst he
  exact ⟨none, 0, rfl, .inl ⟨_, _, rfl, fun _ => rfl, rfl⟩, h⟩

set_option maxRecDepth 100000 in
set_option maxHeartbeats 4000000 in
theorem extents_any (g : List UInt8) (os : List Int) (u : Int) (n : Nat) (v : Value) (w : World) (hr : Row w v os) (hn : os.length = n + 1) (h1 : 1 ≤ n) (h2 : n ≤ 65535) (_hg : g.length ≤ 9223372036854775807)
    (hu : u = 1 ∨ u = 2) (hos : ∀ i, 0 ≤ os.getD i 0 ∧ os.getD i 0 ≤ 4294967295) :
    Calls Try.prog 20 #[.string ⟨g.toArray⟩, v, .int .i64 u] w (GotExt (Gl.gets g os u n) w) := by
  obtain ⟨pu, c, rfl, _⟩ := hr.form
  obtain ⟨b, off, rfl, _⟩ := hr.at_ (k := 0) (by omega)
  have HW := Lib.hid (fun k => @Gl.gets_wrong g os u n k)
  have HRt := Lib.hid (@Gl.gets_right g os u n)
  have HR := Lib.hid hr
  have hcn : n + 1 ≤ c := by
    rcases hr with ⟨_, _, _, _, h⟩ | ⟨_, _, cap, he, _, h2b, _⟩
    · rw [h] at hn; simp at hn
    · injection he with _ _ hc; omega
  rw [hn] at HR ⊢
  have HOS := Lib.hid hos
  generalize Gl.gets g os u n = ans at *
  clear hr hn hos
  have hsl : ∀ W, (Instr.slice 44 (.slice (some ⟨b, off, none⟩) (n + 1) c) (some (.int .i64 1)) none none).run Try.prog W = .ok (.slice (some ⟨b, off + 1, none⟩) n (c - 1)) W := fun W => by
    rw [slice_from' b off (n + 1) c 1 1 rfl (by omega) W, if_neg (by omega)]; rfl
  go_enter Try.func20, Try.ntmps20
  go_wp2_with fail
  go_step3
  go_wp2_with (at_make; refine wpList_mkK (enc := encE) _ rfl _ _ _ rfl 30 5 40 _ Try.underlying22 ext_info (by omega) w.heap.size _ n rfl rfl (by omega) (by omega) (Nat.le_refl _) ?_; intro pv cv w1 hown hlo; have HL := Lib.hid hlo; have HO := Lib.hid hown; clear hown hlo)
  go_step3
  go_wp2_with fail
  clear hsl
  go_loopw [8, 9, 10, 11, 12, 13, 14, 15, 23] (fun s z _ _ _ _ _ _ i W => ∃ (k : Nat) (p : Option Addr) (c : Nat), k ≤ n ∧ i = .int .i64 k ∧ z = .int .i64 0 ∧ s = .slice p k c ∧ Hid (OwnE W w.heap.size (.slice p k c) (Gl.got g os u k)) ∧ Hid (Lo w W) ∧ Hid (∀ j, j < k → (Gl.fO g os u j).2 = 0)) (fun _ _ _ _ _ _ _ _ i _ => n - (intOf i).toNat)
  case atStart => exact ⟨0, pv, cv, Nat.zero_le _, rfl, rfl, rfl, HO, HL, Lib.hid (by omega)⟩
  case round =>
    obtain ⟨k, p, cq, hk, rfl, rfl, rfl, HO1, HL1, HP⟩ := hrel
    by_cases hlt : k < n
    · have hrow := HR.out.lo HL1.out
      obtain ⟨b', off', he, hc1⟩ := hrow.at_ (k := k) (by omega)
      obtain ⟨b'', off'', he2, hc2⟩ := hrow.at_ (k := k + 1) (by omega)
      simp only [Option.some.injEq, Addr.mk.injEq, and_true] at he he2
      obtain ⟨rfl, rfl⟩ := he
      obtain ⟨rfl, rfl⟩ := he2
      rw [show off + (k + 1) = off + 1 + k by omega] at hc2
      have hb1 := HOS.out k
      have hb2 := HOS.out (k + 1)
      have HWk := Lib.hid (HW.out k hlt HP.out)
      have HGs := Lib.hid (Gl.got_succ g os u k)
      have HGl := Lib.hid (Gl.got_len g os u k)
      have HFO : Hid (Gl.fO g os u k = Gl.stepO g (os.getD k 0 * u) (os.getD (k + 1) 0 * u)) := Lib.hid rfl
      have HP2 : Hid ((Gl.fO g os u k).2 = 0 → ∀ j, j < k + 1 → (Gl.fO g os u j).2 = 0) := Lib.hid (fun h j hj => by
        rcases Nat.lt_or_ge j k with hl | hl
        · exact HP.out j hl
        · obtain rfl : j = k := by omega
          exact h)
      clear hrow HP
      generalize os.getD k 0 = x at *
      generalize os.getD (k + 1) 0 = y at *
      obtain ⟨a, ha⟩ : ∃ a : Nat, x * u = (a : Int) := ⟨(x * u).toNat, by rcases hu with rfl | rfl <;> omega⟩
      obtain ⟨bb, hbb⟩ : ∃ a : Nat, y * u = (a : Int) := ⟨(y * u).toNat, by rcases hu with rfl | rfl <;> omega⟩
      have ha2 : a ≤ 8589934590 := by rcases hu with rfl | rfl <;> omega
      have hbb2 : bb ≤ 8589934590 := by rcases hu with rfl | rfl <;> omega
      have hw1 : IntKind.i64.wrap (x * u) = (a : Int) := by rw [ha]; exact IntWalk.i64_in _ (by omega)
      have hw2 : IntKind.i64.wrap (y * u) = (bb : Int) := by rw [hbb]; exact IntWalk.i64_in _ (by omega)
      rw [ha, hbb] at HFO
      generalize Gl.fO g os u k = f at *
      clear ha hbb hb1 hb2
      unfold Gl.stepO at HFO
      by_cases c1 : bb < a
      · have HE : Hid (f = (Gl.none, 5)) := Lib.hid (by rw [HFO.out, if_pos (by omega)])
        have HE2 : Hid (ans = ([], 5)) := Lib.hid (by rw [HWk.out (by rw [HE.out]; simp), HE.out])
        clear HFO
        go_wp2_with fail
        go_ret2
        rw [HE2.out]
        exact GotExt.nil rfl HL1.out
      · by_cases c2 : g.length < bb
        · have HE : Hid (f = (Gl.none, 4)) := Lib.hid (by rw [HFO.out, if_neg (by omega), if_pos (by omega)])
          have HE2 : Hid (ans = ([], 4)) := Lib.hid (by rw [HWk.out (by rw [HE.out]; simp), HE.out])
          clear HFO
          go_wp2_with fail
          go_ret2
          rw [HE2.out]
          exact GotExt.nil rfl HL1.out
        · by_cases c3 : bb = a
          · subst c3
            have HE : Hid (f = (Gl.none, 0)) := Lib.hid (by rw [HFO.out, if_neg (by omega), if_neg (by omega)]; simp [Gl.ext])
            clear HFO
            go_wp2_with (at_builtin; refine wpList_appK _ rfl (.tmp 50) (.tmp 52) _ rfl 30 5 40 _ Try.underlying22 ext_info rfl (by omega) (by omega) encE_len encE_one w.heap.size (.slice p k cq) (Gl.got g os u k) rfl (OwnK.lo HO1.out ((Lo.refl _).alloc _)) _ [Gl.none] rfl (erow1 _ _ rfl Gl.none _) (by rw [HGl.out]; simp; omega) (by have := HL1.out.size; simp; omega) ?_; intro q1 cz w3 hown hlo; have HO3 := Lib.hid hown; have HL3 := Lib.hid (hlo w (HL1.out.alloc _) (Nat.le_refl _)); clear hown hlo; rw [HGl.out] at HO3; rw [HGl.out])
            go_roundw
            case rel => exact ⟨k + 1, q1, cz, by omega, by go_num, rfl, rfl, Lib.hid (by rw [HGs.out, HE.out]; exact HO3.out), HL3, Lib.hid (HP2.out (by rw [HE.out]))⟩
            case measure => simp [intOf]; omega
          · have hab : a < bb := by omega
            have hsub : (⟨g.toArray⟩ : ByteArray).extract a bb = ⟨((g.drop a).take (bb - a)).toArray⟩ := Gk.extract_list g a bb
            have HLs : Hid (((g.drop a).take (bb - a)).length = bb - a) := Lib.hid (by rw [List.length_take, List.length_drop]; omega)
            have HE : Hid (f = Gl.ext ((g.drop a).take (bb - a))) := Lib.hid (by rw [HFO.out, if_neg (by omega), if_neg (by omega), Int.toNat_natCast, Int.toNat_natCast])
            have HX := Lib.hid (fun W => extent_any ((g.drop a).take (bb - a)) W (by rw [HLs.out]; omega) (by rw [HLs.out]; omega))
            rw [← HE.out] at HX
            unfold extErr aggE at HX
            clear HFO HE
            generalize (g.drop a).take (bb - a) = sub at *
            obtain ⟨⟨xa, x0, y0, x1, y1⟩, ez⟩ := f
            dsimp only at *
            by_cases hz : ez = 0
            · subst hz
              go_wp2_with fail
              refine (HX.out _).mono ?_
              rintro e w4 ⟨rfl, lo⟩
              have HL4 := Lib.hid (HL1.out.trans lo)
              have HO4 := Lib.hid (OwnK.lo HO1.out lo)
              clear lo HX hsub HO1 HL1
              go_wp2_with (at_builtin; refine wpList_appK _ rfl (.tmp 65) (.tmp 67) _ rfl 30 5 40 _ Try.underlying22 ext_info rfl (by omega) (by omega) encE_len encE_one w.heap.size (.slice p k cq) (Gl.got g os u k) rfl (OwnK.lo HO4.out (((Lo.refl _).alloc _).alloc _)) _ [⟨xa, x0, y0, x1, y1⟩] rfl (erow1 _ _ (by simp) ⟨xa, x0, y0, x1, y1⟩ _) (by rw [HGl.out]; simp; omega) (by have := HL4.out.size; simp; omega) ?_; intro q1 cz w3 hown hlo; have HO3 := Lib.hid hown; have HL3 := Lib.hid (hlo w ((HL4.out.alloc _).alloc _) (Nat.le_refl _)); clear hown hlo; rw [HGl.out] at HO3; rw [HGl.out])
              go_roundw
              case rel => exact ⟨k + 1, q1, cz, by omega, by go_num, rfl, rfl, Lib.hid (by rw [HGs.out]; exact HO3.out), HL3, Lib.hid (HP2.out trivial)⟩
              case measure => simp [intOf]; omega
            · have hb : (ez != 0) = true := by simpa using hz
              have HE2 : Hid (ans = ([], ez)) := Lib.hid (HWk.out hz)
              go_wp2_with fail
              refine (HX.out _).mono ?_
              rintro e w4 ⟨rfl, lo⟩
              have HL4 := Lib.hid (HL1.out.trans lo)
              clear lo HX hsub HO1 HL1 hz
              go_wp2_with fail
              go_ret2
              rw [HE2.out]
              exact GotExt.nil rfl (HL4.out.alloc _)
    · obtain rfl : k = n := by omega
      have HE2 : Hid (ans = (Gl.got g os u k, 0)) := Lib.hid (HRt.out HP.out)
      have HGl := Lib.hid (Gl.got_len g os u k)
      go_wp2_with fail
      go_ret2
      rw [HE2.out]
      refine ⟨p, cq, by rw [HGl.out]; rfl, ?_, HL1.out⟩
      rw [HGl.out]
      exact OwnK.row encE_len HO1.out

set_option maxHeartbeats 400000 in
theorem gget_arg (s g : List UInt8) (n : Int) (long : Bool) (w : World) (h : n < 1 ∨ 65535 < n) :
    Calls Try.prog 7 #[.string ⟨s.toArray⟩, .string ⟨g.toArray⟩, .int .i64 n, .bool long] w (GotExt ([], 1) w) := by
  by_cases h1 : n < 1
  · go_enter Try.func7, Try.ntmps7
    go_wp2_with fail
    go_ret2
    exact GotExt.nil rfl (Lo.refl _)
  · have h2 : 65535 < n := by omega
    go_enter Try.func7, Try.ntmps7
    go_wp2_with fail
    go_ret2
    exact GotExt.nil rfl (Lo.refl _)

set_option maxRecDepth 100000 in
set_option maxHeartbeats 1600000 in
theorem gget_some (s g : List UInt8) (n : Nat) (long : Bool) (w : World) (h1 : 1 ≤ n) (h2 : n ≤ 65535) (hs : s.length ≤ 9223372036854775807) (hg : g.length ≤ 9223372036854775807) :
    Calls Try.prog 7 #[.string ⟨s.toArray⟩, .string ⟨g.toArray⟩, .int .i64 (n : Int), .bool long] w (GotExt (Gl.get s g n long) w) := by
  have HF := Lib.hid (fun W => offsetForm_any long W)
  have HM := Lib.hid (fun W => repeated_any ((Gl.wid long : Nat) : Int) (n + 1) W (by omega))
  have HG := Lib.hid (fun (v : Value) (W : World) (h : Row W v (List.replicate (n + 1) ((Gl.wid long : Nat) : Int))) => get_any s 0 v _ W h (by rw [List.length_replicate]; omega) hs (by omega))
  rw [Gl.get_loca] at HG
  unfold Many at HM
  rw [show ((n + 1 : Nat) : Int) = (n : Int) + 1 by omega] at HM
  by_cases hm : s.length < Gl.wid long * (n + 1)
  · rw [if_pos hm] at HG
    rw [Gl.get_few s g n long h1 h2 hm]
    unfold GotRow at HG
    generalize Gl.unit long = u at *
    generalize Gl.wid long = z at *
    clear hm
    go_enter Try.func7, Try.ntmps7
    go_wp2_with fail
    refine (HF.out _).mono ?_
    rintro e w1 ⟨rfl, rfl⟩
    go_wp2_with fail
    refine (HM.out _).mono ?_
    rintro e w2 ⟨p, c, rfl, hr, lo⟩
    have HR := Lib.hid hr
    have HL := Lib.hid lo
    clear hr lo HM HF
    go_wp2_with fail
    refine (HG.out _ _ HR.out).mono ?_
    rintro e w3 ⟨p2, c2, rfl, hr, lo⟩
    have HL3 := Lib.hid (HL.out.trans lo)
    clear hr lo HG HR
    go_wp2_with fail
    go_ret2
    exact GotExt.nil rfl HL3.out
  · rw [if_neg hm] at HG
    rw [Gl.get_by s g n long h1 h2 (by omega)]
    have HE := Lib.hid (fun (v : Value) (W : World) (h : Row W v (Gl.offs s (n + 1) long)) => extents_any g (Gl.offs s (n + 1) long) (Gl.unit long) n v W h (Gl.offs_len _ _ _) h1 h2 hg (by cases long; exact .inr rfl; exact .inl rfl) (fun i => by
      rcases Nat.lt_or_ge i (n + 1) with hi | hi
      · rw [Gl.offs_at hi]; exact Gl.fld_bd _ _ _
      · simp [List.getD, List.getElem?_eq_none (show (Gl.offs s (n + 1) long).length ≤ i by rw [Gl.offs_len]; exact hi)]))
    unfold GotRow at HG
    unfold GotExt at HE
    rw [Gl.offs_len] at HG
    generalize Gl.gets g (Gl.offs s (n + 1) long) (Gl.unit long) n = ans at *
    generalize Gl.offs s (n + 1) long = os at *
    generalize Gl.unit long = u at *
    generalize Gl.wid long = z at *
    clear hm
    go_enter Try.func7, Try.ntmps7
    go_wp2_with fail
    refine (HF.out _).mono ?_
    rintro e w1 ⟨rfl, rfl⟩
    go_wp2_with fail
    refine (HM.out _).mono ?_
    rintro e w2 ⟨p, c, rfl, hr, lo⟩
    have HR := Lib.hid hr
    have HL := Lib.hid lo
    clear hr lo HM HF
    go_wp2_with fail
    refine (HG.out _ _ HR.out).mono ?_
    rintro e w3 ⟨p2, c2, rfl, hr, lo⟩
    have HR3 := Lib.hid hr
    have HL3 := Lib.hid (HL.out.trans lo)
    clear hr lo HG HR HL
    go_wp2_with fail
    refine (HE.out _ _ HR3.out).mono ?_
    rintro e w4 ⟨p4, c4, rfl, hr, lo⟩
    have HR4 := Lib.hid hr
    have HL4 := Lib.hid (HL3.out.trans lo)
    clear hr lo HE HR3 HL3
    go_wp2_with fail
    go_ret2
    exact ⟨p4, c4, rfl, HR4.out, HL4.out⟩

/-- glyf.Get. -/
theorem gget_any (s g : List UInt8) (n : Int) (long : Bool) (w : World) (hs : s.length ≤ 9223372036854775807) (hg : g.length ≤ 9223372036854775807) :
    Calls Try.prog 7 #[.string ⟨s.toArray⟩, .string ⟨g.toArray⟩, .int .i64 n, .bool long] w (GotExt (Gl.get s g n long) w) := by
  by_cases h : n < 1 ∨ 65535 < n
  · rw [Gl.get_arg s g long h]; exact gget_arg s g n long w h
  · obtain ⟨n', rfl⟩ := Int.eq_ofNat_of_zero_le (show 0 ≤ n by omega)
    exact gget_some s g n' long w (by omega) (by omega) hs hg
end Go.Proofs.Ytkfljalcnjdliaa
