/-
  The walk of the law ChartSpan. No conditions beyond those stated.
-/
import Derived.Test.YtjfobpbnofjjdaaChSame
namespace Ch
theorem isL_one (x : Span) : isL [x] = okSpan x := by
  unfold isL chain chain
  cases h : okSpan x with
  | false => rfl
  | true =>
    have := ((okSpan_iff x).1 h).1
    rw [decide_eq_true (by omega)]; rfl
theorem Look_one {x : Span} (h : okSpan x = true) (c : Int) : Look [x] c = if x.fr ≤ c ∧ c ≤ x.to then glyphOf x c else 0 := by
  unfold Look
  rw [isL_one, if_pos h, look, look]
theorem Look_no {l : List Span} (h : isL l = false) (c : Int) : Look l c = 0 := by unfold Look; rw [h]; rfl
theorem glyph_step {x : Span} (h : okSpan x = true) {c : Int} (h1 : x.fr < c) (h2 : c ≤ x.to) : Look [x] c = Look [x] (c - 1) + x.st ∧ 0 ≤ Look [x] (c - 1) ∧ Look [x] c ≤ 65535 ∧ Look [x] (c - 1) ≤ 65535 := by
  rw [Look_one h, Look_one h, if_pos (by omega), if_pos (by omega)]
  have b1 := glyphOf_bound h (show x.fr ≤ c by omega) h2
  have b2 := glyphOf_bound h (show x.fr ≤ c - 1 by omega) (by omega)
  refine ⟨?_, b2.1, b1.2, b2.2⟩
  unfold glyphOf
  obtain ⟨_, _, _, h4, h5, _⟩ := (okSpan_iff x).1 h
  rcases (show x.st = 0 ∨ x.st = 1 by omega) with e | e
  · rw [e]; omega
  · rw [e]; omega
end Ch
namespace Go.Proofs.Ytjfobpbnofjjdaa
open Go.RowKit

abbrev StepAt (B : Nat) (st : Int) (w0 W : World) : Prop := W.cell? ⟨B, 3, none⟩ = some (.int .i64 st) ∧ Hid (Lo w0 W)
theorem beq_self (a : Int) : (a == a) = true := by simp

set_option maxRecDepth 100000 in
set_option maxHeartbeats 1600000 in
theorem chartSpan_walk (x : Ch.Span) (c : Int) (w : World) (_wc : (Lit.int .i64 c).wf = true) : Calls Try.prog 6 #[aggS x, .int .i64 c] w fun e w' => e = .returned (.bool true) ∧ Lo w w' := by
  have HI := Lib.hid (fun (v : Value) (W : World) (h : SRow W v [x]) => cis_any v [x] W h)
  have HK := Lib.hid (fun (v : Value) (W : World) (h : SRow W v [x]) => clook_any v [x] c W h)
  have HK2 := Lib.hid (fun (v : Value) (W : World) (h : SRow W v [x]) => clook_any v [x] (c - 1) W h)
  have HD := Lib.hid (fun W => charted_any W)
  rw [Ch.isL_one] at HI
  cases hx : Ch.okSpan x with
  | false =>
    have hz := Ch.Look_no (show Ch.isL [x] = false by rw [Ch.isL_one, hx]) c
    rw [hz] at HK
    rw [hx] at HI
    unfold aggS
    have HR := Lib.hid (fun (W : World) (B : Nat) (hB : B = W.heap.size) => srow1 W B hB x 35)
    clear hx hz HK2
    generalize hxx : [x] = l at *
    obtain ⟨fr, tt, gl, st⟩ := x
    dsimp only at HR ⊢
    go_enter Try.func6, Try.ntmps6
    go_wp2_with fail
    have hr := HR.out (w.alloc (.cells #[.int .i64 fr, .int .i64 tt, .int .i64 gl, .int .i64 st] 35)) (w.heap.size + 1) (by simp)
    refine (HI.out _ _ hr).mono ?_
    rintro e w1 ⟨rfl, lo⟩
    have HL := Lib.hid ((((Lo.refl w).alloc _).alloc _).trans lo)
    have HR := Lib.hid (RowK.lo hr lo)
    clear lo HI hr
    go_wp2_with fail
    refine (HD.out _).mono ?_
    rintro e w2 ⟨rfl, lo⟩
    have HL := Lib.hid (HL.out.trans lo)
    have HR := Lib.hid (RowK.lo HR.out lo)
    clear lo HD
    go_wp2_with fail
    refine (HK.out _ _ HR.out).mono ?_
    rintro e w3 ⟨rfl, lo⟩
    have HL := Lib.hid (HL.out.trans lo)
    clear lo HK
    go_wp2_with fail
    go_ret
    exact ⟨rfl, HL.out⟩
  | true =>
    rw [hx] at HI
    have HLk := Lib.hid (Ch.Look_one hx c)
    have HSt := Lib.hid (fun h1 h2 => Ch.glyph_step hx (c := c) h1 h2)
    have HGl : Hid (c = x.fr → Ch.Look [x] c = x.gl) := Lib.hid (fun h => by
      have h2 := (Ch.okSpan_iff x).1 hx
      rw [HLk.out, if_pos (by omega), h]
      unfold Ch.glyphOf
      rw [Int.sub_self, Int.mul_zero, Int.add_zero])
    have HNo : Hid (¬ (x.fr ≤ c ∧ c ≤ x.to) → Ch.Look [x] c = 0) := Lib.hid (fun h => by rw [HLk.out, if_neg h])
    have hok := (Ch.okSpan_iff x).1 hx
    unfold aggS
    have HR := Lib.hid (fun (W : World) (B : Nat) (hB : B = W.heap.size) => srow1 W B hB x 35)
    clear hx HLk
    generalize Ch.Look [x] c = g at *
    generalize Ch.Look [x] (c - 1) = g1 at *
    obtain ⟨x1, x2, x3, x4, x5, x6, x7, _⟩ := hok
    generalize hxx : [x] = l at *
    clear hxx
    obtain ⟨fr, tt, gl, st⟩ := x
    dsimp only at HR HSt HGl HNo x1 x2 x3 x4 x5 x6 x7 ⊢
    by_cases c1 : fr ≤ c ∧ c ≤ tt
    · have c2 : ¬ c < fr := by omega
      have c3 : ¬ tt < c := by omega
      by_cases c4 : c = fr
      · have HE := Lib.hid (HGl.out c4)
        subst c4
        have hge := HE.out
        subst hge
        clear HSt HGl HNo HK2
        go_enter Try.func6, Try.ntmps6
        go_wp2_with fail
        have hr := HR.out (w.alloc (.cells #[.int .i64 c, .int .i64 tt, .int .i64 g, .int .i64 st] 35)) (w.heap.size + 1) (by simp)
        refine (HI.out _ _ hr).mono ?_
        rintro e w1 ⟨rfl, lo⟩
        have HL := Lib.hid ((((Lo.refl w).alloc _).alloc _).trans lo)
        have HR := Lib.hid (RowK.lo hr lo)
        have HB := Lib.hid (lo_block (((Lo.refl _).alloc _).trans lo) (new_block w _))
        clear lo HI hr
        go_wp2_with fail
        refine (HK.out _ _ HR.out).mono ?_
        rintro e w2 ⟨rfl, lo⟩
        have HL := Lib.hid (HL.out.trans lo)
        have HB := Lib.hid (lo_block lo HB.out)
        obtain ⟨⟨s0, s1, s2, s3⟩, _⟩ := four_at HB.out
        clear lo HK
        go_wp2_with fail
        refine (HD.out _).mono ?_
        rintro e w3 ⟨rfl, lo⟩
        have HL := Lib.hid (HL.out.trans lo)
        have HB := Lib.hid (lo_block lo HB.out)
        clear s0 s1 s2 s3
        obtain ⟨⟨s0, s1, s2, s3⟩, _⟩ := four_at HB.out
        clear lo HD
        go_wp2_with fail
        go_ret
        exact ⟨by simp, HL.out⟩
      · obtain ⟨g2, g3, g4, g5⟩ := HSt.out (by omega) c1.2
        have HG := Lib.hid g2
        have hcb : (c == fr) = false := by rw [beq_eq_false_iff_ne]; exact c4
        clear HSt HGl HNo g2
        go_enter Try.func6, Try.ntmps6
        go_wp2_with fail
        have hr := HR.out (w.alloc (.cells #[.int .i64 fr, .int .i64 tt, .int .i64 gl, .int .i64 st] 35)) (w.heap.size + 1) (by simp)
        refine (HI.out _ _ hr).mono ?_
        rintro e w1 ⟨rfl, lo⟩
        have HL := Lib.hid ((((Lo.refl w).alloc _).alloc _).trans lo)
        have HR := Lib.hid (RowK.lo hr lo)
        have HB := Lib.hid (lo_block (((Lo.refl _).alloc _).trans lo) (new_block w _))
        clear lo HI hr
        go_wp2_with fail
        refine (HK.out _ _ HR.out).mono ?_
        rintro e w2 ⟨rfl, lo⟩
        have HL := Lib.hid (HL.out.trans lo)
        have HB := Lib.hid (lo_block lo HB.out)
        have HR := Lib.hid (RowK.lo HR.out lo)
        obtain ⟨⟨s0, s1, s2, s3⟩, _⟩ := four_at HB.out
        clear lo HK
        have hb := World.block_lt_of_cell? w2 _ s3
        have HS : Hid (∀ W, Lo w2 W → StepAt w.heap.size st w2 W) := Lib.hid (fun W lo => ⟨(lo.cell hb).trans s3, Lib.hid lo⟩)
        have C1 : Hid (∀ W, StepAt w.heap.size st w2 W → Calls Try.prog 15 #[] W fun e w' => e = .returned (.bool true) ∧ StepAt w.heap.size st w2 w') := Lib.hid (fun W hW => (HD.out W).mono fun e w' hh => ⟨hh.1, HS.out w' (hW.2.out.trans hh.2)⟩)
        have C2 : Hid (∀ W, StepAt w.heap.size st w2 W → Calls Try.prog 19 #[.slice (some ⟨w.heap.size + 1, 0, none⟩) 1 1, .int .i64 (c - 1)] W fun e w' => e = .returned (.int .i64 g1) ∧ StepAt w.heap.size st w2 w') := Lib.hid (fun W hW => (HK2.out _ W (RowK.lo HR.out hW.2.out)).mono fun e w' hh => ⟨hh.1, HS.out w' (hW.2.out.trans hh.2)⟩)
        have j1 : IntKind.i64.wrap (c - 1) = c - 1 := IntWalk.i64_in _ (by omega)
        have j2 : IntKind.i64.wrap (g1 + st) = g := by rw [IntKind.wrap_i64]; have := HG.out; omega
        go_wp2_with fail
        clear s0 s1 s2 s3
        go_region_held3 (fun W => StepAt w.heap.size st w2 W) (first | assumption | exact HS.out _ (Lo.drew (Lo.refl _)))
          (first
            | (go_at_call 15; refine (C1.out _ (by assumption)).mono ?_; rintro e wA ⟨rfl, hSA⟩)
            | (go_at_call 19; refine (C2.out _ (by assumption)).mono ?_; rintro e wB ⟨rfl, hSB⟩))
        all_goals
          have HL3 : Hid (Lo w wB) := Lib.hid (HL.out.trans hSB.2.out)
          clear hSA hSB HS C1 C2
          go_wp2_with fail
          go_ret
          exact ⟨ret_bool (by first | (simp; done) | (simp; omega)), HL3.out⟩
    · have HE := Lib.hid (HNo.out c1)
      have hge := HE.out
      subst hge
      clear HSt HGl HNo HK2
      by_cases c2 : c < fr
      · go_enter Try.func6, Try.ntmps6
        go_wp2_with fail
        have hr := HR.out (w.alloc (.cells #[.int .i64 fr, .int .i64 tt, .int .i64 gl, .int .i64 st] 35)) (w.heap.size + 1) (by simp)
        refine (HI.out _ _ hr).mono ?_
        rintro e w1 ⟨rfl, lo⟩
        have HL := Lib.hid ((((Lo.refl w).alloc _).alloc _).trans lo)
        have HR := Lib.hid (RowK.lo hr lo)
        have HB := Lib.hid (lo_block (((Lo.refl _).alloc _).trans lo) (new_block w _))
        clear lo HI hr
        go_wp2_with fail
        refine (HK.out _ _ HR.out).mono ?_
        rintro e w2 ⟨rfl, lo⟩
        have HL := Lib.hid (HL.out.trans lo)
        have HB := Lib.hid (lo_block lo HB.out)
        obtain ⟨⟨s0, s1, s2, s3⟩, _⟩ := four_at HB.out
        clear lo HK
        go_wp2_with fail
        refine (HD.out _).mono ?_
        rintro e w3 ⟨rfl, lo⟩
        have HL := Lib.hid (HL.out.trans lo)
        clear lo HD
        go_wp2_with fail
        go_ret
        exact ⟨rfl, HL.out⟩
      · have c3 : tt < c := by omega
        go_enter Try.func6, Try.ntmps6
        go_wp2_with fail
        have hr := HR.out (w.alloc (.cells #[.int .i64 fr, .int .i64 tt, .int .i64 gl, .int .i64 st] 35)) (w.heap.size + 1) (by simp)
        refine (HI.out _ _ hr).mono ?_
        rintro e w1 ⟨rfl, lo⟩
        have HL := Lib.hid ((((Lo.refl w).alloc _).alloc _).trans lo)
        have HR := Lib.hid (RowK.lo hr lo)
        have HB := Lib.hid (lo_block (((Lo.refl _).alloc _).trans lo) (new_block w _))
        clear lo HI hr
        go_wp2_with fail
        refine (HK.out _ _ HR.out).mono ?_
        rintro e w2 ⟨rfl, lo⟩
        have HL := Lib.hid (HL.out.trans lo)
        have HB := Lib.hid (lo_block lo HB.out)
        obtain ⟨⟨s0, s1, s2, s3⟩, _⟩ := four_at HB.out
        clear lo HK
        go_wp2_with fail
        refine (HD.out _).mono ?_
        rintro e w3 ⟨rfl, lo⟩
        have HL := Lib.hid (HL.out.trans lo)
        clear lo HD
        go_wp2_with fail
        go_ret
        exact ⟨rfl, HL.out⟩
end Go.Proofs.Ytjfobpbnofjjdaa
