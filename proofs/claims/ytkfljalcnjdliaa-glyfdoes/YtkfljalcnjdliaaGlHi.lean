/-
  The contract of glyf.High (of valid extents): it answers what the plain function says. No conditions beyond those stated.
-/
import Derived.Test.YtkfljalcnjdliaaGlBase
import Derived.Test.YtkfljalcnjdliaaHeIs
namespace Go.Proofs.Ytkfljalcnjdliaa
open Go.RowKit

/-- Two numbers and an error, told. -/
def nums3 (a : Int × Int × Int) : Ending := .returned (.tuple #[.int .i64 a.1, .int .i64 a.2.1, .int .i64 a.2.2])

set_option maxHeartbeats 800000 in
theorem ghigh_arg (h : He.Head) (v : Value) (g : Int) (w : World) (hh : He.isHead h = false) :
    Calls Try.prog 15 #[aggH h, v, .int .i64 g] w fun e w' => e = nums3 (0, 0, 1) ∧ Lo w w' := by
  have HI := Lib.hid (fun W => his_any h W)
  rw [hh] at HI
  unfold aggH at *
  clear hh
  go_enter Try.func15, Try.ntmps15
  go_wp2_with fail
  refine (HI.out _).mono ?_
  rintro e w1 ⟨rfl, lo⟩
  have HL := Lib.hid (((Lo.refl w).alloc _).trans lo)
  clear lo HI
  go_wp2_with fail
  go_ret3
  exact ⟨rfl, HL.out⟩

set_option maxRecDepth 100000 in
set_option maxHeartbeats 1600000 in
theorem ghigh_some (h : He.Head) (v : Value) (l : List Gl.Ext) (g : Int) (w : World) (hr : ERow w v l) (hh : He.isHead h = true) (hall : l.all Gl.isExt = true) :
    Calls Try.prog 15 #[aggH h, v, .int .i64 g] w fun e w' => e = nums3 (Gl.highP h l g) ∧ Lo w w' := by
  have HI := Lib.hid (fun W => his_any h W)
  have hb := (He.isHead_iff h).1 hh
  have hd1 := hb.2.2.2.2.1
  have hd2 := hb.2.2.2.2.2
  unfold Gl.highP
  rw [if_neg (by rw [hh]; simp)]
  rw [hh] at HI
  obtain ⟨p, c, rfl, hlen⟩ := RowK.form hr
  have HR := Lib.hid hr
  obtain ⟨a1, a2, a3, a4, a5, a6⟩ := h
  unfold aggH at *
  dsimp only at *
  clear hh hb hr
  by_cases c1 : g < 0
  · rw [if_pos (.inl c1)]
    go_enter Try.func15, Try.ntmps15
    go_wp2_with fail
    refine (HI.out _).mono ?_
    rintro e w1 ⟨rfl, lo⟩
    have HL := Lib.hid (((Lo.refl w).alloc _).trans lo)
    clear lo HI
    go_wp2_with fail
    go_ret3
    exact ⟨rfl, HL.out⟩
  · obtain ⟨k, rfl⟩ := Int.eq_ofNat_of_zero_le (show 0 ≤ g by omega)
    by_cases c2 : a2 ≤ (k : Int)
    · rw [if_pos (.inr (.inl c2))]
      go_enter Try.func15, Try.ntmps15
      go_wp2_with fail
      refine (HI.out _).mono ?_
      rintro e w1 ⟨rfl, lo⟩
      have HL := Lib.hid (((Lo.refl w).alloc _).trans lo)
      obtain ⟨⟨d0, d1, d2, d3, d4, d5⟩, _⟩ := six_at (lo_block lo (new_block w _))
      clear lo HI
      go_wp2_with fail
      go_ret3
      exact ⟨rfl, HL.out⟩
    · by_cases c3 : l.length = 0
      · rw [if_neg (by rintro (q | q | q) <;> omega), if_pos c3]
        rw [c3]
        clear HR hall hlen c3
        go_enter Try.func15, Try.ntmps15
        go_wp2_with fail
        refine (HI.out _).mono ?_
        rintro e w1 ⟨rfl, lo⟩
        have HL := Lib.hid (((Lo.refl w).alloc _).trans lo)
        obtain ⟨⟨d0, d1, d2, d3, d4, d5⟩, _⟩ := six_at (lo_block lo (new_block w _))
        clear lo HI
        go_wp2_with fail
        go_quiet (fail)
        have HL2 := Lib.hid (HL.out.drewN nq)
        go_wp2_with fail
        go_ret3
        refine ⟨?_, HL2.out⟩
        unfold nums3
        dsimp only
        rw [show (0 : Int) - a5 = -a5 by omega]; rfl
      · by_cases c4 : l.length ≤ k
        · rw [if_pos (.inr (.inr ⟨by omega, by omega⟩))]
          have c5 : (0 : Int) < (l.length : Int) := by omega
          have c6 : (l.length : Int) ≤ (k : Int) := by omega
          generalize l.length = n at *
          clear HR hall
          go_enter Try.func15, Try.ntmps15
          go_wp2_with fail
          refine (HI.out _).mono ?_
          rintro e w1 ⟨rfl, lo⟩
          have HL := Lib.hid (((Lo.refl w).alloc _).trans lo)
          obtain ⟨⟨d0, d1, d2, d3, d4, d5⟩, _⟩ := six_at (lo_block lo (new_block w _))
          clear lo HI
          go_wp2_with fail
          go_ret3
          exact ⟨rfl, HL.out⟩
        · rw [if_neg (by rintro (q | q | q) <;> omega), if_neg c3, Int.toNat_natCast]
          have hk : k < l.length := by omega
          have hx : Gl.isExt (l.getD k Gl.none) = true := List.all_eq_true.1 hall _ (by simp [List.getD, List.getElem?_eq_getElem hk])
          have HG := Lib.hid (Gl.getD_some hk)
          generalize l.getD k Gl.none = x at *
          generalize hn : l.length = n at *
          clear hall hn
          have c5 : (0 : Int) < (n : Int) := by omega
          have c6 : ¬ (n : Int) ≤ (k : Int) := by omega
          obtain ⟨xa, x0, y0, x1, y1⟩ := x
          cases xa with
          | false =>
            dsimp only
            rw [if_pos rfl]
            clear hx
            go_enter Try.func15, Try.ntmps15
            go_wp2_with fail
            refine (HI.out _).mono ?_
            rintro e w1 ⟨rfl, lo⟩
            have HL := Lib.hid (((Lo.refl w).alloc _).trans lo)
            obtain ⟨⟨d0, d1, d2, d3, d4, d5⟩, _⟩ := six_at (lo_block lo (new_block w _))
            obtain ⟨b, off, rfl, r0, r1, r2, r3, r4⟩ := ERow.at5 (RowK.lo HR.out HL.out) HG.out
            dsimp only at r0 r1 r2 r3 r4
            clear lo HI HR HG
            go_wp2_with fail
            go_ret3
            exact ⟨rfl, HL.out⟩
          | true =>
            have hy := Gl.isExt_any hx rfl
            have hy1 := hy.2.1.1
            have hy2 := hy.2.1.2
            dsimp only at hy1 hy2 ⊢
            rw [if_neg (by simp)]
            clear hx hy
            go_enter Try.func15, Try.ntmps15
            go_wp2_with fail
            refine (HI.out _).mono ?_
            rintro e w1 ⟨rfl, lo⟩
            have HL := Lib.hid (((Lo.refl w).alloc _).trans lo)
            obtain ⟨⟨d0, d1, d2, d3, d4, d5⟩, _⟩ := six_at (lo_block lo (new_block w _))
            obtain ⟨b, off, rfl, r0, r1, r2, r3, r4⟩ := ERow.at5 (RowK.lo HR.out HL.out) HG.out
            dsimp only at r0 r1 r2 r3 r4
            clear lo HI HR HG
            go_wp2_with fail
            go_quiet (fail)
            have HL2 := Lib.hid (HL.out.drewN nq)
            go_wp2_with fail
            go_ret3
            refine ⟨?_, HL2.out⟩
            unfold nums3
            dsimp only
            rw [show (0 : Int) - y0 = -y0 by omega]; rfl

/-- glyf.High, of valid extents. -/
theorem ghigh_any (h : He.Head) (v : Value) (l : List Gl.Ext) (g : Int) (w : World) (hr : ERow w v l) (hall : l.all Gl.isExt = true) :
    Calls Try.prog 15 #[aggH h, v, .int .i64 g] w fun e w' => e = nums3 (Gl.high h l g) ∧ Lo w w' := by
  rw [← Gl.highP_eq hall]
  cases hh : He.isHead h with
  | false =>
    have : Gl.highP h l g = (0, 0, 1) := by unfold Gl.highP; rw [if_pos hh]
    rw [this]; exact ghigh_arg h v g w hh
  | true => exact ghigh_some h v l g w hr hh hall
end Go.Proofs.Ytkfljalcnjdliaa
