/-
  Contracts of the document's functions on spans (layer 8): one, Is, ends, Few, Short, Same of rows that are alike. No conditions beyond those stated.
-/
import Derived.Test.YtnlifmedkkboaaaChIs
import Derived.Deep.RegionHeld3
import Derived.Deep.RegionWith
import Derived.WalkMore
namespace Go.Proofs.Ytnlifmedkkboaaa
open Go.RowKit

set_option maxHeartbeats 3200000 in
theorem rspan_any (x : Ch.Span) (w : World) : Calls Try.prog 39 #[aggS x] w fun e w' => e = .returned (.bool (Ch.okSpan x)) ∧ Lo w w' := by
  by_cases h1 : x.fr < 0 ∨ x.to < x.fr ∨ 1114111 < x.to ∨ x.st < 0 ∨ 1 < x.st ∨ x.gl < 0 ∨ 65535 < x.gl
  · have HE : Hid (Ch.okSpan x = false) := Lib.hid (by
      rw [Bool.eq_false_iff, ne_eq, Ch.okSpan_iff]
      omega)
    obtain ⟨fr, tt, gl, st⟩ := x
    generalize Ch.okSpan _ = y at *
    unfold aggS
    dsimp only at *
    by_cases c0 : fr < 0
    · clear h1
      go_enter Try.func39, Try.ntmps39
      go_wp2_with fail
      go_ret
      exact ⟨ret_bool HE.out.symm, (Lo.refl w).alloc _⟩
    · skip
      by_cases c1 : tt < fr
      · clear h1
        go_enter Try.func39, Try.ntmps39
        go_wp2_with fail
        go_ret
        exact ⟨ret_bool HE.out.symm, (Lo.refl w).alloc _⟩
      · skip
        by_cases c2 : 1114111 < tt
        · clear h1
          go_enter Try.func39, Try.ntmps39
          go_wp2_with fail
          go_ret
          exact ⟨ret_bool HE.out.symm, (Lo.refl w).alloc _⟩
        · skip
          by_cases c3 : st < 0
          · clear h1
            go_enter Try.func39, Try.ntmps39
            go_wp2_with fail
            go_ret
            exact ⟨ret_bool HE.out.symm, (Lo.refl w).alloc _⟩
          · skip
            by_cases c4 : 1 < st
            · clear h1
              go_enter Try.func39, Try.ntmps39
              go_wp2_with fail
              go_ret
              exact ⟨ret_bool HE.out.symm, (Lo.refl w).alloc _⟩
            · skip
              by_cases c5 : gl < 0
              · clear h1
                go_enter Try.func39, Try.ntmps39
                go_wp2_with fail
                go_ret
                exact ⟨ret_bool HE.out.symm, (Lo.refl w).alloc _⟩
              · skip
                have c6 : 65535 < gl := by omega
                clear h1
                go_enter Try.func39, Try.ntmps39
                go_wp2_with fail
                go_ret
                exact ⟨ret_bool HE.out.symm, (Lo.refl w).alloc _⟩
  · have HE : Hid (Ch.okSpan x = decide (Ch.glyphOf x x.to ≤ 65535)) := Lib.hid (by
      rw [Bool.eq_iff_iff, Ch.okSpan_iff, decide_eq_true_eq]
      unfold Ch.glyphOf
      constructor
      · intro h; exact h.2.2.2.2.2.2.2
      · intro h; exact ⟨by omega, by omega, by omega, by omega, by omega, by omega, by omega, h⟩)
    obtain ⟨fr, tt, gl, st⟩ := x
    unfold Ch.glyphOf at HE
    generalize Ch.okSpan _ = y at *
    unfold aggS
    dsimp only at *
    have c0 : ¬ fr < 0 := by omega
    have c1 : ¬ tt < fr := by omega
    have c2 : ¬ 1114111 < tt := by omega
    have c5 : ¬ gl < 0 := by omega
    have c6 : ¬ 65535 < gl := by omega
    rcases (show st = 0 ∨ st = 1 by omega) with rfl | rfl
    · clear h1
      go_enter Try.func39, Try.ntmps39
      go_wp2_with fail
      go_ret
      refine ⟨ret_bool ?_, (Lo.refl w).alloc _⟩
      rw [HE.out]
      first | rfl | (simp; done) | (simp; omega) | (simp [IntKind.wrap_i64]; omega)
    · clear h1
      go_enter Try.func39, Try.ntmps39
      go_wp2_with fail
      go_ret
      refine ⟨ret_bool ?_, (Lo.refl w).alloc _⟩
      rw [HE.out]
      first | rfl | (simp; done) | (simp; omega) | (simp [IntKind.wrap_i64]; omega)

/-- A region that draws its order, whose operations leave a world of a class: one walk, in the order of the text. -/
theorem wp_region_class {P : Program} {C : World → Prop} {id : Nat} {Q : Exit → Act → World → Prop} {a : Act} {w : World} {l : List Oper} (hm : P.follows .mixedOrders = true) (hB : Region.lexB .any l.toArray = true) (hC : C w.drew)
    (h : wpQuiet P l.toArray C (fun a' => ∀ w', C w' → Q .normal a' w') l a) : (Code.region id l.toArray true).wp P Q a w :=
  wp_region_quiet (C := C) hm hB hC (by simpa using h)

/-- A span's four cells, and one cell more, in a world in which nothing of W1 has turned. -/
abbrev SpanAt (b o b2 o2 : Nat) (fr tt gl st pt : Int) (W1 W : World) : Prop :=
  W.cell? ⟨b, o, none⟩ = some (.int .i64 fr) ∧ W.cell? ⟨b, o + 1, none⟩ = some (.int .i64 tt) ∧ W.cell? ⟨b, o + 2, none⟩ = some (.int .i64 gl) ∧ W.cell? ⟨b, o + 3, none⟩ = some (.int .i64 st) ∧ W.cell? ⟨b2, o2, none⟩ = some (.int .i64 pt) ∧ Hid (Lo W1 W)

set_option maxRecDepth 100000 in
set_option maxHeartbeats 6400000 in
theorem ris_any (v : Value) (l : List Ch.Span) (w : World) (h : SRow w v l) : Calls Try.prog 22 #[v] w fun e w' => e = .returned (.bool (Ch.isL l)) ∧ Lo w w' := by
  obtain ⟨p, c, rfl, hlen⟩ := RowK.form h
  rcases Nat.lt_or_ge 65536 l.length with hm | hm
  · rw [Ch.isL_many hm]
    generalize l.length = n at *
    have hmz : ¬ (n : Int) ≤ (65536 : Int) := by omega
    have hmz2 : (0 : Int) < (n : Int) := by omega
    go_enter Try.func22, Try.ntmps22
    go_wp2_with fail
    go_loopw [3] (fun s3 W => s3 = .int .i64 0 ∧ W = w) (fun _ _ => 0)
    case atStart => exact ⟨rfl, rfl⟩
    case round =>
      obtain ⟨rfl, rfl⟩ := hrel
      go_wp2_with fail
      go_ret
      exact ⟨ret_bool (decide_eq_false (by omega)), Lo.refl _⟩
  · have HR := Lib.hid h
    have HV := Lib.hid (fun (x : Ch.Span) (W : World) => rspan_any x W)
    have HY := Lib.hid (fun hc => Ch.isL_yes hm hc)
    have HN := Lib.hid (fun (k : Nat) hc => Ch.isL_no (l := l) (k := k) hc)
    generalize hn : l.length = n at *
    have HE := Lib.hid hn
    clear hn h
    generalize Ch.isL l = y at *
    have hmz : (n : Int) ≤ (65536 : Int) := by omega
    unfold aggS at HV
    go_enter Try.func22, Try.ntmps22
    go_wp2_with fail
    go_loopw [3] (fun s3 W => ∃ k : Nat, k ≤ n ∧ s3 = .int .i64 k ∧ Hid (Ch.chain (-1) (l.take k) = true) ∧ Hid (Lo w W)) (fun s3 _ => n - (intOf s3).toNat)
    case atStart => exact ⟨0, Nat.zero_le _, rfl, Lib.hid rfl, Lib.hid (Lo.refl _)⟩
    case round =>
      obtain ⟨k, hk, rfl, HC, HL⟩ := hrel
      rename World => W1
      by_cases hlt : k < n
      · have hk' : k < l.length := by rw [HE.out]; exact hlt
        have HS := Lib.hid (Ch.chain_step hk')
        obtain ⟨b, off, rfl, r0, r1, r2, r3⟩ := SRow.at4 (RowK.lo HR.out HL.out) (Ch.getD_some hk')
        have hb := World.block_lt_of_cell? W1 _ r0
        have hrow := RowK.lo HR.out HL.out
        by_cases hk0 : k = 0
        · subst hk0
          rw [show ((0 : Nat) : Int) = 0 from rfl]
          simp only [List.take_zero, Nat.zero_mul, Nat.add_zero] at HS r0 r1 r2 r3
          clear hk' hrow
          generalize l.getD 0 Ch.zs = x at *
          have HV1 := Lib.hid (HV.out x)
          clear HV
          have HOk := Lib.hid (fun h => ((Ch.okSpan_iff x).1 h).1)
          generalize Ch.okSpan x = ok at *
          obtain ⟨fr, tt, gl, st⟩ := x
          dsimp only at r0 r1 r2 r3 HS HV1 HOk
          have HSt : Hid (∀ W, Lo W1 W → SpanAt b off b off fr tt gl st fr W1 W) := Lib.hid (fun W lo => ⟨(lo.cell hb).trans r0, (lo.cell hb).trans r1, (lo.cell hb).trans r2, (lo.cell hb).trans r3, (lo.cell hb).trans r0, Lib.hid lo⟩)
          have C1 : Hid (∀ W, SpanAt b off b off fr tt gl st fr W1 W → Calls Try.prog 39 #[.agg #[.int .i64 fr, .int .i64 tt, .int .i64 gl, .int .i64 st]] W fun e w' => e = .returned (.bool ok) ∧ SpanAt b off b off fr tt gl st fr W1 w') :=
            Lib.hid (fun W hW => (HV1.out W).mono fun e w' hh => ⟨hh.1, HSt.out w' (hW.2.2.2.2.2.out.trans hh.2)⟩)
          clear HV1 r0 r1 r2 r3 hb
          have j1 : (0 : Int) < (n : Int) := by omega
          cases ok with
          | false =>
            have HF : Hid (y = false) := Lib.hid (HN.out 1 (by rw [HS.out, Bool.false_and, Bool.and_false]))
            clear HS HC
            go_wp2_with fail
            refine wp_region_class (C := fun W => SpanAt b off b off fr tt gl st fr W1 W) (by kernel_rfl) (by kernel_rfl) (HSt.out _ ((Lo.refl _).drew)) ?_
            go_big_quiet_step (fail)
            go_big_quiet_step (fail)
            go_big_quiet_want
            refine ⟨.pointer (some ⟨b, off, none⟩), ?_, ?_⟩
            · rintro W ⟨t0, t1, t2, t3, t4, t5⟩
              simp [Oper.quietAt, Oper.quietUpon, execOp, go_sem, hlt]
            simp [Act.put]
            go_big_quiet_on
            go_big_quiet_want
            refine ⟨.agg #[.int .i64 fr, .int .i64 tt, .int .i64 gl, .int .i64 st], ?_, ?_⟩
            · rintro W ⟨t0, t1, t2, t3, t4, t5⟩
              simp [Oper.quietAt, Oper.quietUpon, execOp, go_sem, t0, t1, t2, t3]
            simp [Act.put]
            go_big_quiet_on
            go_big_quiet_want
            refine ⟨.bool false, ?_, ?_⟩
            · intro W hW
              have h := C1.out W hW
              simp [Oper.quietAt, Oper.quietUpon, go_sem]
              exact h
            simp [Act.put]
            go_big_quiet_on
            go_big_quiet_want
            refine ⟨.bool true, fun W _ => ?_, ?_⟩
            · simp [Oper.quietAt, Oper.quietUpon, execOp, go_sem]
            simp [Act.put]
            go_big_quiet_on
            repeat (go_big_quiet_step (fail))
            go_big_quiet_want
            refine ⟨.bool true, fun W _ => ?_, ?_⟩
            · simp [Oper.quietAt, Oper.quietUpon, execOp, go_sem]
            simp [Act.put]
            go_big_quiet_on
            repeat (go_big_quiet_step (fail))
            refine wpQuiet_nil ?_
            intro w4 H4
            have HL3 := Lib.hid (HL.out.trans H4.2.2.2.2.2.out)
            clear HSt C1 H4
            go_wp2_with fail
            go_ret
            exact ⟨ret_bool HF.out.symm, HL3.out⟩
          | true =>
            have HC2 : Hid (Ch.chain (-1) (l.take (0 + 1)) = true) := Lib.hid (by
              rw [HS.out]
              have h0 := HOk.out rfl
              have h1 : (-1 : Int) < fr := by omega
              simp [Ch.chain, Ch.lastTo, h1])
            clear HS HC
            go_wp2_with fail
            refine wp_region_class (C := fun W => SpanAt b off b off fr tt gl st fr W1 W) (by kernel_rfl) (by kernel_rfl) (HSt.out _ ((Lo.refl _).drew)) ?_
            go_big_quiet_step (fail)
            go_big_quiet_step (fail)
            go_big_quiet_want
            refine ⟨.pointer (some ⟨b, off, none⟩), ?_, ?_⟩
            · rintro W ⟨t0, t1, t2, t3, t4, t5⟩
              simp [Oper.quietAt, Oper.quietUpon, execOp, go_sem, hlt]
            simp [Act.put]
            go_big_quiet_on
            go_big_quiet_want
            refine ⟨.agg #[.int .i64 fr, .int .i64 tt, .int .i64 gl, .int .i64 st], ?_, ?_⟩
            · rintro W ⟨t0, t1, t2, t3, t4, t5⟩
              simp [Oper.quietAt, Oper.quietUpon, execOp, go_sem, t0, t1, t2, t3]
            simp [Act.put]
            go_big_quiet_on
            go_big_quiet_want
            refine ⟨.bool true, ?_, ?_⟩
            · intro W hW
              have h := C1.out W hW
              simp [Oper.quietAt, Oper.quietUpon, go_sem]
              exact h
            simp [Act.put]
            go_big_quiet_on
            go_big_quiet_want
            refine ⟨.bool false, fun W _ => ?_, ?_⟩
            · simp [Oper.quietAt, Oper.quietUpon, execOp, go_sem]
            simp [Act.put]
            go_big_quiet_on
            repeat (go_big_quiet_step (fail))
            go_big_quiet_want
            refine ⟨.bool false, fun W _ => ?_, ?_⟩
            · simp [Oper.quietAt, Oper.quietUpon, execOp, go_sem]
            simp [Act.put]
            go_big_quiet_on
            repeat (go_big_quiet_step (fail))
            go_big_quiet_want
            refine ⟨.bool false, fun W _ => ?_, ?_⟩
            · simp [Oper.quietAt, Oper.quietUpon, execOp, go_sem]
            simp [Act.put]
            go_big_quiet_on
            repeat (go_big_quiet_step (fail))
            go_big_quiet_want
            refine ⟨.bool false, fun W _ => ?_, ?_⟩
            · simp [Oper.quietAt, Oper.quietUpon, execOp, go_sem]
            simp [Act.put]
            go_big_quiet_on
            repeat (go_big_quiet_step (fail))
            refine wpQuiet_nil ?_
            intro w4 H4
            have HL3 := Lib.hid (HL.out.trans H4.2.2.2.2.2.out)
            clear HSt C1 H4
            go_wp2_with fail
            go_roundw
            case rel => exact ⟨0 + 1, by omega, by go_num, HC2, HL3⟩
            case measure => simp [intOf]; omega
        · obtain ⟨j, hj⟩ : ∃ j, k = j + 1 := ⟨k - 1, by omega⟩
          have hj' : j < l.length := by omega
          have HT : Hid (Ch.lastTo (-1) (l.take k) = (l.getD j Ch.zs).to) := Lib.hid (by rw [hj]; exact Ch.lastTo_step hj')
          rw [HT.out] at HS
          obtain ⟨b', off', e', _, q1, _, _⟩ := SRow.at4 hrow (Ch.getD_some hj')
          simp only [Option.some.injEq, Addr.mk.injEq, and_true] at e'
          obtain ⟨rfl, rfl⟩ := e'
          have hjn : j < n := by omega
          clear hk' hj' hrow HT
          generalize (l.getD j Ch.zs).to = pt at *
          generalize l.getD k Ch.zs = x at *
          have HV1 := Lib.hid (HV.out x)
          clear HV
          generalize Ch.okSpan x = ok at *
          obtain ⟨fr, tt, gl, st⟩ := x
          dsimp only at r0 r1 r2 r3 HS HV1
          have HSt : Hid (∀ W, Lo W1 W → SpanAt b (off + k * 4) b (off + j * 4 + 1) fr tt gl st pt W1 W) := Lib.hid (fun W lo => ⟨(lo.cell hb).trans r0, (lo.cell hb).trans r1, (lo.cell hb).trans r2, (lo.cell hb).trans r3, (lo.cell hb).trans q1, Lib.hid lo⟩)
          have C1 : Hid (∀ W, SpanAt b (off + k * 4) b (off + j * 4 + 1) fr tt gl st pt W1 W → Calls Try.prog 39 #[.agg #[.int .i64 fr, .int .i64 tt, .int .i64 gl, .int .i64 st]] W fun e w' => e = .returned (.bool ok) ∧ SpanAt b (off + k * 4) b (off + j * 4 + 1) fr tt gl st pt W1 w') :=
            Lib.hid (fun W hW => (HV1.out W).mono fun e w' hh => ⟨hh.1, HSt.out w' (hW.2.2.2.2.2.out.trans hh.2)⟩)
          clear HV1 r0 r1 r2 r3 q1 hb
          have j1 : (k : Int) < (n : Int) := by omega
          have j2 : (0 : Int) < (k : Int) := by omega
          have j5 : 0 < k := by omega
          have j3 : IntKind.i64.wrap ((k : Int) - 1) = (j : Int) := by rw [IntKind.wrap_i64]; omega
          have j4 : (j : Int) < (n : Int) := by omega
          clear hj
          cases ok with
          | false =>
            have HF : Hid (y = false) := Lib.hid (HN.out (k + 1) (by rw [HS.out, Bool.false_and, Bool.and_false]))
            clear HS HC
            go_wp2_with fail
            refine wp_region_class (C := fun W => SpanAt b (off + k * 4) b (off + j * 4 + 1) fr tt gl st pt W1 W) (by kernel_rfl) (by kernel_rfl) (HSt.out _ ((Lo.refl _).drew)) ?_
            go_big_quiet_step (fail)
            go_big_quiet_step (fail)
            go_big_quiet_want
            refine ⟨.pointer (some ⟨b, off + k * 4, none⟩), ?_, ?_⟩
            · rintro W ⟨t0, t1, t2, t3, t4, t5⟩
              simp [Oper.quietAt, Oper.quietUpon, execOp, go_sem, hlt]
            simp [Act.put]
            go_big_quiet_on
            go_big_quiet_want
            refine ⟨.agg #[.int .i64 fr, .int .i64 tt, .int .i64 gl, .int .i64 st], ?_, ?_⟩
            · rintro W ⟨t0, t1, t2, t3, t4, t5⟩
              simp [Oper.quietAt, Oper.quietUpon, execOp, go_sem, t0, t1, t2, t3]
            simp [Act.put]
            go_big_quiet_on
            go_big_quiet_want
            refine ⟨.bool false, ?_, ?_⟩
            · intro W hW
              have h := C1.out W hW
              simp [Oper.quietAt, Oper.quietUpon, go_sem]
              exact h
            simp [Act.put]
            go_big_quiet_on
            go_big_quiet_want
            refine ⟨.bool true, fun W _ => ?_, ?_⟩
            · simp [Oper.quietAt, Oper.quietUpon, execOp, go_sem]
            simp [Act.put]
            go_big_quiet_on
            repeat (go_big_quiet_step (fail))
            go_big_quiet_want
            refine ⟨.bool true, fun W _ => ?_, ?_⟩
            · simp [Oper.quietAt, Oper.quietUpon, execOp, go_sem]
            simp [Act.put]
            go_big_quiet_on
            repeat (go_big_quiet_step (fail))
            refine wpQuiet_nil ?_
            intro w4 H4
            have HL3 := Lib.hid (HL.out.trans H4.2.2.2.2.2.out)
            clear HSt C1 H4
            go_wp2_with fail
            go_ret
            exact ⟨ret_bool HF.out.symm, HL3.out⟩
          | true =>
            by_cases hle : fr ≤ pt
            · have HF : Hid (y = false) := Lib.hid (HN.out (k + 1) (by rw [HS.out, decide_eq_false (by omega), Bool.and_false, Bool.and_false]))
              clear HS HC
              go_wp2_with fail
              go_region_held3 (fun W => SpanAt b (off + k * 4) b (off + j * 4 + 1) fr tt gl st pt W1 W) (first | assumption | exact HSt.out _ (Lo.drew (Lo.refl _)))
                (first | (go_at_call 39; refine (C1.out _ (by assumption)).mono ?_; rintro e wA ⟨rfl, hSA⟩))
              all_goals
                have HL3 := Lib.hid (HL.out.trans hSA.2.2.2.2.2.out)
                clear hSA HSt C1
                go_wp2_with fail
                go_ret
                exact ⟨ret_bool HF.out.symm, HL3.out⟩
            · have HC2 : Hid (Ch.chain (-1) (l.take (k + 1)) = true) := Lib.hid (by rw [HS.out, HC.out, decide_eq_true (by omega)]; rfl)
              clear HS HC
              go_wp2_with fail
              go_region_held3 (fun W => SpanAt b (off + k * 4) b (off + j * 4 + 1) fr tt gl st pt W1 W) (first | assumption | exact HSt.out _ (Lo.drew (Lo.refl _)))
                (first | (go_at_call 39; refine (C1.out _ (by assumption)).mono ?_; rintro e wA ⟨rfl, hSA⟩))
              all_goals
                have HL3 := Lib.hid (HL.out.trans hSA.2.2.2.2.2.out)
                clear hSA HSt C1
                go_wp2_with fail
                go_roundw
                case rel => exact ⟨k + 1, by omega, by go_num, HC2, HL3⟩
                case measure => simp [intOf]; omega
      · obtain rfl : k = n := by omega
        have HF : Hid (y = true) := Lib.hid (HY.out HC.out)
        go_wp2_with fail
        go_ret
        exact ⟨ret_bool HF.out.symm, HL.out⟩
end Go.Proofs.Ytnlifmedkkboaaa
