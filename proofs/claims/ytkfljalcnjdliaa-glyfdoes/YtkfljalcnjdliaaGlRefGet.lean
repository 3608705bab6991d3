/-
  The contract of the document's Get for layer 7: it answers what the plain function on bytes says. No conditions beyond those stated.
-/
import Derived.Test.YtkfljalcnjdliaaGlRef
namespace Gl
open Sf
theorem get_step_wrong {s g : List UInt8} {n k : Nat} {long : Bool} (h1 : 1 ≤ n) (h2 : n ≤ 65535) (h3 : wid long * (n + 1) ≤ s.length) (hk : k < n) (h : ∀ i, i < k → (step s g long i).2 = 0) (hw : (step s g long k).2 ≠ 0) : get s g n long = ([], (step s g long k).2) := by
  have e := scan_first (fun i => (step s g long i).2) n 0 k (by omega) (by omega) (fun i _ hi => h i hi) hw
  have h4 : ((wid long * (n + 1) : Nat) : Int) = (wid long : Int) * ((n : Int) + 1) := by simp
  unfold get
  rw [if_neg (by omega), if_neg (by omega), Int.toNat_natCast, e, if_pos hw]
theorem get_step_right {s g : List UInt8} {n : Nat} {long : Bool} (h1 : 1 ≤ n) (h2 : n ≤ 65535) (h3 : wid long * (n + 1) ≤ s.length) (h : ∀ i, i < n → (step s g long i).2 = 0) : get s g n long = ((List.range n).map fun i => (step s g long i).1, 0) := by
  have e := scan_zero (fun i => (step s g long i).2) n 0 (fun i _ hi => h i (by omega))
  have h4 : ((wid long * (n + 1) : Nat) : Int) = (wid long : Int) * ((n : Int) + 1) := by simp
  unfold get
  rw [if_neg (by omega), if_neg (by omega), Int.toNat_natCast, e, if_neg (by simp)]
def gotS (s g : List UInt8) (long : Bool) (k : Nat) : List Ext := (List.range k).map fun i => (step s g long i).1
theorem gotS_len (s g : List UInt8) (long : Bool) (k : Nat) : (gotS s g long k).length = k := by simp [gotS]
theorem gotS_succ (s g : List UInt8) (long : Bool) (k : Nat) : gotS s g long (k + 1) = gotS s g long k ++ [(step s g long k).1] := by
  unfold gotS; rw [List.range_succ, List.map_append]; rfl
theorem place_bd (s : List UInt8) (i : Nat) (long : Bool) : 0 ≤ place s i long ∧ place s i long ≤ 8589934590 := by
  rw [place_fld]
  have h := fld_bd s (wid long * i) long
  cases long with
  | true => show 0 ≤ _ * 1 ∧ _ * 1 ≤ _; omega
  | false => show 0 ≤ _ * 2 ∧ _ * 2 ≤ _; omega
theorem wid_le (long : Bool) {i n : Nat} (h : i ≤ n) : wid long * (i + 1) ≤ wid long * (n + 1) := Nat.mul_le_mul_left _ (by omega)
end Gl
namespace Go.Proofs.Ytkfljalcnjdliaa
open Go.RowKit

set_option maxHeartbeats 400000 in
theorem grget_arg (s g : List UInt8) (n : Int) (long : Bool) (w : World) (h : n < 1 ∨ 65535 < n) :
    Calls Try.prog 8 #[.string ⟨s.toArray⟩, .string ⟨g.toArray⟩, .int .i64 n, .bool long] w (GotExt ([], 1) w) := by
  by_cases h1 : n < 1
  · go_enter Try.func8, Try.ntmps8
    go_wp2_with fail
    go_ret2
    exact GotExt.nil rfl (Lo.refl _)
  · have h2 : 65535 < n := by omega
    go_enter Try.func8, Try.ntmps8
    go_wp2_with fail
    go_ret2
    exact GotExt.nil rfl (Lo.refl _)

set_option maxHeartbeats 800000 in
theorem grget_few (s g : List UInt8) (n : Nat) (long : Bool) (w : World) (h1 : 1 ≤ n) (h2 : n ≤ 65535) (h : s.length < Gl.wid long * (n + 1)) :
    Calls Try.prog 8 #[.string ⟨s.toArray⟩, .string ⟨g.toArray⟩, .int .i64 (n : Int), .bool long] w (GotExt ([], 4) w) := by
  cases long with
  | true =>
    have h' : s.length < 4 * (n + 1) := h
    have h'' : (s.length : Int) < 4 * ((n : Int) + 1) := by omega
    clear h
    go_enter Try.func8, Try.ntmps8
    go_wp2_with fail
    go_ret2
    exact GotExt.nil rfl (Lo.refl _)
  | false =>
    have h' : s.length < 2 * (n + 1) := h
    have h'' : (s.length : Int) < 2 * ((n : Int) + 1) := by omega
    clear h
    go_enter Try.func8, Try.ntmps8
    go_wp2_with fail
    go_ret2
    exact GotExt.nil rfl (Lo.refl _)

set_option maxRecDepth 100000 in
set_option maxHeartbeats 6400000 in
theorem grget_some (s g : List UInt8) (n : Nat) (long : Bool) (w : World) (h1 : 1 ≤ n) (h2 : n ≤ 65535) (hs : s.length ≤ 9223372036854775807) (_hg : g.length ≤ 9223372036854775807) (h3 : Gl.wid long * (n + 1) ≤ s.length) :
    Calls Try.prog 8 #[.string ⟨s.toArray⟩, .string ⟨g.toArray⟩, .int .i64 (n : Int), .bool long] w (GotExt (Gl.get s g n long) w) := by
  have HW := Lib.hid (fun k => @Gl.get_step_wrong s g n k long h1 h2 h3)
  have HRt := Lib.hid (Gl.get_step_right (g := g) h1 h2 h3)
  have HPl := Lib.hid (fun k (hk : k ≤ n) W => rplace_any s k long W (by omega) (Nat.le_trans (Gl.wid_le long hk) h3))
  have hsz : ∃ z : Int, (z = 4 ∧ long = true ∨ z = 2 ∧ long = false) ∧ ¬ (s.length : Int) < z * ((n : Int) + 1) := by
    cases long with
    | true => exact ⟨4, .inl ⟨rfl, rfl⟩, by have h' : 4 * (n + 1) ≤ s.length := h3; omega⟩
    | false => exact ⟨2, .inr ⟨rfl, rfl⟩, by have h' : 2 * (n + 1) ≤ s.length := h3; omega⟩
  have HPP := Lib.hid (fun k => Gl.place_bd s k long)
  generalize hans : Gl.get s g n long = ans at *
  clear hans h3
  obtain ⟨z, hz, hz2⟩ := hsz
  rcases hz with ⟨rfl, rfl⟩ | ⟨rfl, rfl⟩
  · go_enter Try.func8, Try.ntmps8
    go_wp2_with fail
    go_loopw [11, 12, 13, 14, 15, 16] (fun s2 i _ _ _ _ W => ∃ (k : Nat) (p : Option Addr) (c : Nat), k ≤ n ∧ i = .int .i64 k ∧ s2 = .slice p k c ∧ Hid (OwnE W w.heap.size (.slice p k c) (Gl.gotS s g true k)) ∧ Hid (Lo w W) ∧ Hid (∀ j, j < k → (Gl.step s g true j).2 = 0)) (fun _ i _ _ _ _ _ => n - (intOf i).toNat)
    case atStart => exact ⟨0, none, 0, Nat.zero_le _, rfl, rfl, Lib.hid (OwnK.none _ _ _ _ _), Lib.hid (Lo.refl _), Lib.hid (by omega)⟩
    case round =>
      obtain ⟨k, p, cq, hk, rfl, rfl, HO1, HL1, HP⟩ := hrel
      by_cases hlt : k < n
      · have HA := Lib.hid (HPl.out k (by omega))
        have HB := Lib.hid (HPl.out (k + 1) (by omega))
        rw [show ((k + 1 : Nat) : Int) = (k : Int) + 1 by omega] at HB
        have ba := HPP.out k
        have bb := HPP.out (k + 1)
        have HWk := Lib.hid (HW.out k hlt HP.out)
        have HGs := Lib.hid (Gl.gotS_succ s g true k)
        have HGl := Lib.hid (Gl.gotS_len s g true k)
        have HFO : Hid (Gl.step s g true k = Gl.stepO g (Gl.place s k true) (Gl.place s (k + 1) true)) := Lib.hid rfl
        have HP2 : Hid ((Gl.step s g true k).2 = 0 → ∀ j, j < k + 1 → (Gl.step s g true j).2 = 0) := Lib.hid (fun h j hj => by
          rcases Nat.lt_or_ge j k with hl | hl
          · exact HP.out j hl
          · obtain rfl : j = k := by omega
            exact h)
        clear HP
        generalize Gl.place s k true = x at *
        generalize Gl.place s (k + 1) true = y at *
        obtain ⟨a, rfl⟩ := Int.eq_ofNat_of_zero_le ba.1
        obtain ⟨b, rfl⟩ := Int.eq_ofNat_of_zero_le bb.1
        have ha2 : a ≤ 8589934590 := by omega
        have hb2 : b ≤ 8589934590 := by omega
        clear ba bb
        generalize Gl.step s g true k = f at *
        unfold Gl.stepO at HFO
        by_cases c1 : b < a
        · have HE : Hid (f = (Gl.none, 5)) := Lib.hid (by rw [HFO.out, if_pos (by omega)])
          have HE2 : Hid (ans = ([], 5)) := Lib.hid (by rw [HWk.out (by rw [HE.out]; simp), HE.out])
          clear HFO
          go_wp2_with fail
          refine (HA.out _).mono ?_
          rintro e wa ⟨rfl, rfl⟩
          go_wp2_with fail
          refine (HB.out _).mono ?_
          rintro e wb ⟨rfl, rfl⟩
          go_wp2_with fail
          go_ret2
          rw [HE2.out]
          exact GotExt.nil rfl HL1.out
        · by_cases c2 : g.length < b
          · have HE : Hid (f = (Gl.none, 4)) := Lib.hid (by rw [HFO.out, if_neg (by omega), if_pos (by omega)])
            have HE2 : Hid (ans = ([], 4)) := Lib.hid (by rw [HWk.out (by rw [HE.out]; simp), HE.out])
            clear HFO
            go_wp2_with fail
            refine (HA.out _).mono ?_
            rintro e wa ⟨rfl, rfl⟩
            go_wp2_with fail
            refine (HB.out _).mono ?_
            rintro e wb ⟨rfl, rfl⟩
            go_wp2_with fail
            go_ret2
            rw [HE2.out]
            exact GotExt.nil rfl HL1.out
          · have hab : a ≤ b := by omega
            have hsub : (⟨g.toArray⟩ : ByteArray).extract a b = ⟨((g.drop a).take (b - a)).toArray⟩ := Gk.extract_list g a b
            have HLs : Hid (((g.drop a).take (b - a)).length ≤ 8589934590) := Lib.hid (by rw [List.length_take]; omega)
            have HE : Hid (f = Gl.ext ((g.drop a).take (b - a))) := Lib.hid (by rw [HFO.out, if_neg (by omega), if_neg (by omega), Int.toNat_natCast, Int.toNat_natCast])
            have HX := Lib.hid (fun W => rext_any ((g.drop a).take (b - a)) W (by have := HLs.out; omega))
            rw [← HE.out] at HX
            unfold extErr aggE at HX
            clear HFO HE HLs
            generalize (g.drop a).take (b - a) = sub at *
            obtain ⟨⟨xa, x0, y0, x1, y1⟩, ez⟩ := f
            dsimp only at *
            by_cases hz : ez = 0
            · subst hz
              go_wp2_with fail
              refine (HA.out _).mono ?_
              rintro e wa ⟨rfl, rfl⟩
              go_wp2_with fail
              refine (HB.out _).mono ?_
              rintro e wb ⟨rfl, rfl⟩
              go_wp2_with fail
              refine (HX.out _).mono ?_
              rintro e w4 ⟨rfl, lo⟩
              have HL4 := Lib.hid (HL1.out.trans lo)
              have HO4 := Lib.hid (OwnK.lo HO1.out lo)
              clear lo HX hsub HO1 HL1
              go_wp2_with (at_builtin; refine wpList_appK _ rfl (.tmp 63) (.tmp 65) _ rfl 30 5 40 _ Try.underlying22 ext_info rfl (by omega) (by omega) encE_len encE_one w.heap.size (.slice p k cq) (Gl.gotS s g true k) rfl (OwnK.lo HO4.out (((Lo.refl _).alloc _).alloc _)) _ [⟨xa, x0, y0, x1, y1⟩] rfl (erow1 _ _ (by simp) ⟨xa, x0, y0, x1, y1⟩ _) (by rw [HGl.out]; simp; omega) (by have := HL4.out.size; simp; omega) ?_; intro q1 cz w3 hown hlo; have HO3 := Lib.hid hown; have HL3 := Lib.hid (hlo w ((HL4.out.alloc _).alloc _) (Nat.le_refl _)); clear hown hlo; rw [HGl.out] at HO3; rw [HGl.out])
              go_roundw
              case rel => exact ⟨k + 1, q1, cz, by omega, by go_num, rfl, Lib.hid (by rw [HGs.out]; exact HO3.out), HL3, Lib.hid (HP2.out trivial)⟩
              case measure => simp [intOf]; omega
            · have hb : (ez != 0) = true := by simpa using hz
              have HE2 : Hid (ans = ([], ez)) := Lib.hid (HWk.out hz)
              go_wp2_with fail
              refine (HA.out _).mono ?_
              rintro e wa ⟨rfl, rfl⟩
              go_wp2_with fail
              refine (HB.out _).mono ?_
              rintro e wb ⟨rfl, rfl⟩
              go_wp2_with fail
              refine (HX.out _).mono ?_
              rintro e w4 ⟨rfl, lo⟩
              have HL4 := Lib.hid (HL1.out.trans lo)
              clear lo HX hsub HO1 HL1 hz
              go_wp2_with fail
              go_ret2
              rw [HE2.out]
              exact GotExt.nil rfl (HL4.out.alloc _)
      · obtain rfl : k = n := by omega
        have HE2 : Hid (ans = (Gl.gotS s g true k, 0)) := Lib.hid (HRt.out HP.out)
        have HGl := Lib.hid (Gl.gotS_len s g true k)
        go_wp2_with fail
        go_ret2
        rw [HE2.out]
        refine ⟨p, cq, by rw [HGl.out]; rfl, ?_, HL1.out⟩
        rw [HGl.out]
        exact OwnK.row encE_len HO1.out
  · go_enter Try.func8, Try.ntmps8
    go_wp2_with fail
    go_loopw [11, 12, 13, 14, 15, 16] (fun s2 i _ _ _ _ W => ∃ (k : Nat) (p : Option Addr) (c : Nat), k ≤ n ∧ i = .int .i64 k ∧ s2 = .slice p k c ∧ Hid (OwnE W w.heap.size (.slice p k c) (Gl.gotS s g false k)) ∧ Hid (Lo w W) ∧ Hid (∀ j, j < k → (Gl.step s g false j).2 = 0)) (fun _ i _ _ _ _ _ => n - (intOf i).toNat)
    case atStart => exact ⟨0, none, 0, Nat.zero_le _, rfl, rfl, Lib.hid (OwnK.none _ _ _ _ _), Lib.hid (Lo.refl _), Lib.hid (by omega)⟩
    case round =>
      obtain ⟨k, p, cq, hk, rfl, rfl, HO1, HL1, HP⟩ := hrel
      by_cases hlt : k < n
      · have HA := Lib.hid (HPl.out k (by omega))
        have HB := Lib.hid (HPl.out (k + 1) (by omega))
        rw [show ((k + 1 : Nat) : Int) = (k : Int) + 1 by omega] at HB
        have ba := HPP.out k
        have bb := HPP.out (k + 1)
        have HWk := Lib.hid (HW.out k hlt HP.out)
        have HGs := Lib.hid (Gl.gotS_succ s g false k)
        have HGl := Lib.hid (Gl.gotS_len s g false k)
        have HFO : Hid (Gl.step s g false k = Gl.stepO g (Gl.place s k false) (Gl.place s (k + 1) false)) := Lib.hid rfl
        have HP2 : Hid ((Gl.step s g false k).2 = 0 → ∀ j, j < k + 1 → (Gl.step s g false j).2 = 0) := Lib.hid (fun h j hj => by
          rcases Nat.lt_or_ge j k with hl | hl
          · exact HP.out j hl
          · obtain rfl : j = k := by omega
            exact h)
        clear HP
        generalize Gl.place s k false = x at *
        generalize Gl.place s (k + 1) false = y at *
        obtain ⟨a, rfl⟩ := Int.eq_ofNat_of_zero_le ba.1
        obtain ⟨b, rfl⟩ := Int.eq_ofNat_of_zero_le bb.1
        have ha2 : a ≤ 8589934590 := by omega
        have hb2 : b ≤ 8589934590 := by omega
        clear ba bb
        generalize Gl.step s g false k = f at *
        unfold Gl.stepO at HFO
        by_cases c1 : b < a
        · have HE : Hid (f = (Gl.none, 5)) := Lib.hid (by rw [HFO.out, if_pos (by omega)])
          have HE2 : Hid (ans = ([], 5)) := Lib.hid (by rw [HWk.out (by rw [HE.out]; simp), HE.out])
          clear HFO
          go_wp2_with fail
          refine (HA.out _).mono ?_
          rintro e wa ⟨rfl, rfl⟩
          go_wp2_with fail
          refine (HB.out _).mono ?_
          rintro e wb ⟨rfl, rfl⟩
          go_wp2_with fail
          go_ret2
          rw [HE2.out]
          exact GotExt.nil rfl HL1.out
        · by_cases c2 : g.length < b
          · have HE : Hid (f = (Gl.none, 4)) := Lib.hid (by rw [HFO.out, if_neg (by omega), if_pos (by omega)])
            have HE2 : Hid (ans = ([], 4)) := Lib.hid (by rw [HWk.out (by rw [HE.out]; simp), HE.out])
            clear HFO
            go_wp2_with fail
            refine (HA.out _).mono ?_
            rintro e wa ⟨rfl, rfl⟩
            go_wp2_with fail
            refine (HB.out _).mono ?_
            rintro e wb ⟨rfl, rfl⟩
            go_wp2_with fail
            go_ret2
            rw [HE2.out]
            exact GotExt.nil rfl HL1.out
          · have hab : a ≤ b := by omega
            have hsub : (⟨g.toArray⟩ : ByteArray).extract a b = ⟨((g.drop a).take (b - a)).toArray⟩ := Gk.extract_list g a b
            have HLs : Hid (((g.drop a).take (b - a)).length ≤ 8589934590) := Lib.hid (by rw [List.length_take]; omega)
            have HE : Hid (f = Gl.ext ((g.drop a).take (b - a))) := Lib.hid (by rw [HFO.out, if_neg (by omega), if_neg (by omega), Int.toNat_natCast, Int.toNat_natCast])
            have HX := Lib.hid (fun W => rext_any ((g.drop a).take (b - a)) W (by have := HLs.out; omega))
            rw [← HE.out] at HX
            unfold extErr aggE at HX
            clear HFO HE HLs
            generalize (g.drop a).take (b - a) = sub at *
            obtain ⟨⟨xa, x0, y0, x1, y1⟩, ez⟩ := f
            dsimp only at *
            by_cases hz : ez = 0
            · subst hz
              go_wp2_with fail
              refine (HA.out _).mono ?_
              rintro e wa ⟨rfl, rfl⟩
              go_wp2_with fail
              refine (HB.out _).mono ?_
              rintro e wb ⟨rfl, rfl⟩
              go_wp2_with fail
              refine (HX.out _).mono ?_
              rintro e w4 ⟨rfl, lo⟩
              have HL4 := Lib.hid (HL1.out.trans lo)
              have HO4 := Lib.hid (OwnK.lo HO1.out lo)
              clear lo HX hsub HO1 HL1
              go_wp2_with (at_builtin; refine wpList_appK _ rfl (.tmp 63) (.tmp 65) _ rfl 30 5 40 _ Try.underlying22 ext_info rfl (by omega) (by omega) encE_len encE_one w.heap.size (.slice p k cq) (Gl.gotS s g false k) rfl (OwnK.lo HO4.out (((Lo.refl _).alloc _).alloc _)) _ [⟨xa, x0, y0, x1, y1⟩] rfl (erow1 _ _ (by simp) ⟨xa, x0, y0, x1, y1⟩ _) (by rw [HGl.out]; simp; omega) (by have := HL4.out.size; simp; omega) ?_; intro q1 cz w3 hown hlo; have HO3 := Lib.hid hown; have HL3 := Lib.hid (hlo w ((HL4.out.alloc _).alloc _) (Nat.le_refl _)); clear hown hlo; rw [HGl.out] at HO3; rw [HGl.out])
              go_roundw
              case rel => exact ⟨k + 1, q1, cz, by omega, by go_num, rfl, Lib.hid (by rw [HGs.out]; exact HO3.out), HL3, Lib.hid (HP2.out trivial)⟩
              case measure => simp [intOf]; omega
            · have hb : (ez != 0) = true := by simpa using hz
              have HE2 : Hid (ans = ([], ez)) := Lib.hid (HWk.out hz)
              go_wp2_with fail
              refine (HA.out _).mono ?_
              rintro e wa ⟨rfl, rfl⟩
              go_wp2_with fail
              refine (HB.out _).mono ?_
              rintro e wb ⟨rfl, rfl⟩
              go_wp2_with fail
              refine (HX.out _).mono ?_
              rintro e w4 ⟨rfl, lo⟩
              have HL4 := Lib.hid (HL1.out.trans lo)
              clear lo HX hsub HO1 HL1 hz
              go_wp2_with fail
              go_ret2
              rw [HE2.out]
              exact GotExt.nil rfl (HL4.out.alloc _)
      · obtain rfl : k = n := by omega
        have HE2 : Hid (ans = (Gl.gotS s g false k, 0)) := Lib.hid (HRt.out HP.out)
        have HGl := Lib.hid (Gl.gotS_len s g false k)
        go_wp2_with fail
        go_ret2
        rw [HE2.out]
        refine ⟨p, cq, by rw [HGl.out]; rfl, ?_, HL1.out⟩
        rw [HGl.out]
        exact OwnK.row encE_len HO1.out

/-- The document's Get. -/
theorem grget_any (s g : List UInt8) (n : Int) (long : Bool) (w : World) (hs : s.length ≤ 9223372036854775807) (hg : g.length ≤ 9223372036854775807) :
    Calls Try.prog 8 #[.string ⟨s.toArray⟩, .string ⟨g.toArray⟩, .int .i64 n, .bool long] w (GotExt (Gl.get s g n long) w) := by
  by_cases h : n < 1 ∨ 65535 < n
  · rw [Gl.get_arg s g long h]; exact grget_arg s g n long w h
  · obtain ⟨n', rfl⟩ := Int.eq_ofNat_of_zero_le (show 0 ≤ n by omega)
    rcases Nat.lt_or_ge s.length (Gl.wid long * (n' + 1)) with hm | hm
    · rw [Gl.get_few s g n' long (by omega) (by omega) hm]; exact grget_few s g n' long w (by omega) (by omega) hm
    · exact grget_some s g n' long w (by omega) (by omega) hs hg hm
end Go.Proofs.Ytkfljalcnjdliaa
