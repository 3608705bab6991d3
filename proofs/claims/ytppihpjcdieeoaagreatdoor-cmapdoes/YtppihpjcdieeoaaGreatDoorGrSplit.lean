/-
  The contract of group.Split. No conditions beyond those stated.
-/
import Derived.Test.YtppihpjcdieeoaaGreatDoorPart10
import Derived.Test.YtppihpjcdieeoaaGreatDoorPart04
namespace Go.Proofs.YtppihpjcdieeoaaGreatDoor
open Go.RowKit Go.Shelf
attribute [local go_sem] Oper.semAt_some wide_fn wide_depth

/-- A span's box. -/
def Four (W : World) (B : Nat) (x : Ch.Span) : Prop := W.heap[B]? = some (.cells #[.int .i64 x.fr, .int .i64 x.to, .int .i64 x.gl, .int .i64 x.st] 63 (0, 0))
theorem four_own (B : Nat) (x : Ch.Span) {X Y : World} {row : Option Nat} (h : Four X B x) (hg : X.grownBy Y row) (hr : ∀ r, row = some r → ∃ o : Obj, X.heap[r]? = some o ∧ o.isCells = false) : Four Y B x := by
  refine (hg.block B (Array.getElem?_eq_some_iff.1 h).1 (fun e => ?_)).trans h
  obtain ⟨o, ho, hf⟩ := hr B e.symm
  rw [show X.heap[B]? = _ from h] at ho
  cases ho
  simp [Obj.isCells] at hf
/-- A slice of one span that is laid anew: its cells. -/
theorem four_new (w : World) (x : Ch.Span) (ty : Nat) : ∀ j u, (encS x)[j]? = some u → (w.alloc (.cells #[.int .i64 x.fr, .int .i64 x.to, .int .i64 x.gl, .int .i64 x.st] ty)).cell? ((⟨w.heap.size, 0, none⟩ : Addr).add j) = some u := by
  intro j u hj
  have h : (w.alloc (.cells #[.int .i64 x.fr, .int .i64 x.to, .int .i64 x.gl, .int .i64 x.st] ty)).cell? ⟨w.heap.size, j, none⟩ = some u := block_cell (i := j) (new_block w _) (by rw [List.getElem?_toArray]; exact hj)
  unfold Addr.add
  split
  · rename_i e; subst e; exact h
  · simpa using h

set_option maxHeartbeats 800000 in
theorem gsplit_arg (l : List Ch.Span) (v : Value) (step : Int) (w : World) (h : SRow w v l) (hc : Ch.isL l = false ∨ step < 0 ∨ 1 < step) :
    Calls Tryz.prog 134 #[v, .int .i64 step] w fun e w' => GotSp ([], 1) w e w' := by
  have HI := Lib.hid h
  obtain ⟨p, c, rfl, _⟩ := RowK.form h
  clear h
  have b4 := (Boxed.new w 22 (.slice none 0 0)).alloc (.cells #[.int .i64 0] 24)
  have b5 := Boxed.new (w.alloc (.cells #[.slice none 0 0] 22)) 24 (.int .i64 0)
  rw [World.size_alloc] at b5
  have lo0 : Lo w ((w.alloc (.cells #[.slice none 0 0] 22)).alloc (.cells #[.int .i64 0] 24)) := ((Lo.refl w).alloc _).alloc _
  have HIs := Lib.hid (cis_any (.slice p l.length c) l ((w.alloc (.cells #[.slice none 0 0] 22)).alloc (.cells #[.int .i64 0] 24)) (RowK.lo HI.out lo0))
  have HF : Hid (∀ w1, Lo ((w.alloc (.cells #[.slice none 0 0] 22)).alloc (.cells #[.int .i64 0] 24)) w1 → Boxed w1 w.heap.size 22 (.slice none 0 0) ∧ Boxed w1 (w.heap.size + 1) 24 (.int .i64 0) ∧ Lo w w1) := Lib.hid (fun w1 k => ⟨(k.block _ b4.lt).trans b4, (k.block _ b5.lt).trans b5, Lo.trans lo0 k⟩)
  have HEnd : Hid (∀ w1, Boxed w1 w.heap.size 22 (.slice none 0 0) → Boxed w1 (w.heap.size + 1) 24 (.int .i64 0) → Lo w w1 → ((w1.setCell ⟨w.heap.size, 0, none⟩ (.slice none 0 0)).setCell ⟨w.heap.size + 1, 0, none⟩ (.int .i64 1)).cell? ⟨w.heap.size, 0, none⟩ = some (.slice none 0 0) ∧ ((w1.setCell ⟨w.heap.size, 0, none⟩ (.slice none 0 0)).setCell ⟨w.heap.size + 1, 0, none⟩ (.int .i64 1)).cell? ⟨w.heap.size + 1, 0, none⟩ = some (.int .i64 1) ∧ Lo w ((w1.setCell ⟨w.heap.size, 0, none⟩ (.slice none 0 0)).setCell ⟨w.heap.size + 1, 0, none⟩ (.int .i64 1))) :=
    Lib.hid (fun w1 k4 k5 k => ⟨((k4.set (.slice none 0 0)).other (by omega) _).cell, ((k5.other (by omega) _).set _).cell, (k.setCell (p := ⟨w.heap.size, 0, none⟩) (Nat.le_refl _) _).setCell (p := ⟨w.heap.size + 1, 0, none⟩) (by simp) _⟩)
  clear b4 b5 lo0
  refine (callsIn_wide (n := 0)).1 ?_
  refine callsIn_of_wp Tryz.func134 rfl trivial ?_ rfl
  simp only [Tryz.ntmps134, List.size_toArray, List.length_cons, List.length_nil, Nat.reduceAdd, Nat.reduceSub, Array.replicate_succ, Array.replicate_zero, List.push_toArray, List.append_toArray, List.nil_append, List.cons_append]
  by_cases hl : Ch.isL l = true
  · obtain ⟨h0, h1⟩ : (step != 0) = true ∧ (step != 1) = true := by
      have : step ≠ 0 ∧ step ≠ 1 := by
        rcases hc with h | h | h
        · rw [hl] at h; cases h
        · omega
        · omega
      simpa using this
    rw [hl] at HIs
    clear hl hc
    gi_wp2_with (gi_at_call 20; refine (callsIn_wide.2 HIs.out).mono ?_; rintro e w1 ⟨rfl, lo1⟩; obtain ⟨k4, k5, k⟩ := HF.out _ lo1; have cc4 := k4.cell; have cc5 := k5.cell; have ff4 := k4.frozen; have ff5 := k5.frozen)
    obtain ⟨e4, e5, lo2⟩ := HEnd.out _ k4 k5 k
    refine bodyPost_ret (v := .tuple #[.slice none 0 0, .int .i64 1]) ?_ rfl (GotSp.nil rfl lo2)
    simp [results, Tryz.results134, go_sem, e4, e5]
  · have hl' : Ch.isL l = false := by simpa using hl
    rw [hl'] at HIs
    clear hl hl' hc
    gi_wp2_with (gi_at_call 20; refine (callsIn_wide.2 HIs.out).mono ?_; rintro e w1 ⟨rfl, lo1⟩; obtain ⟨k4, k5, k⟩ := HF.out _ lo1; have cc4 := k4.cell; have cc5 := k5.cell; have ff4 := k4.frozen; have ff5 := k5.frozen)
    obtain ⟨e4, e5, lo2⟩ := HEnd.out _ k4 k5 k
    refine bodyPost_ret (v := .tuple #[.slice none 0 0, .int .i64 1]) ?_ rfl (GotSp.nil rfl lo2)
    simp [results, Tryz.results134, go_sem, e4, e5]

/-! Each step. -/
set_option maxRecDepth 100000 in
set_option maxHeartbeats 3200000 in
theorem gsplit_ok0 (l : List Ch.Span) (v : Value) (w : World) (h : SRow w v l) (hl : Ch.isL l = true) :
    Calls Tryz.prog 134 #[v, .int .i64 0] w fun e w' => GotSp (Gp.split l 0) w e w' := by
  have HI := Lib.hid h
  have HOK := Lib.hid (fun (x : Ch.Span) (hx : x ∈ l) => Ch.isL_ok hl hx)
  have HSd : Hid ((Gp.parts 0 l).length ≤ 65536 → Gp.split l 0 = (Gp.parts 0 l, 0)) := Lib.hid (fun k => Gp.split_done hl (by omega) (by omega) (by omega))
  have HSl : Hid (65536 < (Gp.parts 0 l).length → Gp.split l 0 = ([], 7)) := Lib.hid (fun k => Gp.split_long hl (by omega) (by omega) k)
  obtain ⟨p, c, rfl, _⟩ := RowK.form h
  clear h
  have hll : l.length ≤ 65536 := by unfold Ch.isL at hl; simp only [Bool.and_eq_true, decide_eq_true_eq] at hl; exact hl.2
  have b4 := (Boxed.new w 22 (.slice none 0 0)).alloc (.cells #[.int .i64 0] 24)
  have b5 := Boxed.new (w.alloc (.cells #[.slice none 0 0] 22)) 24 (.int .i64 0)
  rw [World.size_alloc] at b5
  have lo0 : Lo w ((w.alloc (.cells #[.slice none 0 0] 22)).alloc (.cells #[.int .i64 0] 24)) := ((Lo.refl w).alloc _).alloc _
  have HIs := Lib.hid (cis_any (.slice p l.length c) l ((w.alloc (.cells #[.slice none 0 0] 22)).alloc (.cells #[.int .i64 0] 24)) (RowK.lo HI.out lo0))
  rw [hl] at HIs
  have HF : Hid (∀ w1, Lo ((w.alloc (.cells #[.slice none 0 0] 22)).alloc (.cells #[.int .i64 0] 24)) w1 → Boxed w1 w.heap.size 22 (.slice none 0 0) ∧ Boxed w1 (w.heap.size + 1) 24 (.int .i64 0) ∧ Lo w w1 ∧ w.heap.size + 2 ≤ w1.heap.size) := Lib.hid (fun w1 k => ⟨(k.block _ b4.lt).trans b4, (k.block _ b5.lt).trans b5, Lo.trans lo0 k, by have := k.size; simpa using this⟩)
  clear b4 b5 lo0 hl
  refine (callsIn_wide (n := 9)).1 ?_
  refine callsIn_of_wp_marks Tryz.func134 rfl trivial ?_ rfl
  simp only [Tryz.ntmps134, List.size_toArray, List.length_cons, List.length_nil, Nat.reduceAdd, Nat.reduceSub, Array.replicate_succ, Array.replicate_zero, List.push_toArray, List.append_toArray, List.nil_append, List.cons_append]
  gi_wp2_with (first | (gi_at_call 20; refine (callsIn_wide.2 HIs.out).mono ?_; rintro e w1 ⟨rfl, lo1⟩; obtain ⟨k4, k5, k, ksz⟩ := HF.out _ lo1) | (gi_at_call 145; refine (divided_make _ _ _ _ _ _).mono ?_; rintro e w' ⟨rfl, rfl⟩))
  clear HIs HF lo1
  have bA := ((Boxed.new w1 22 (.slice none 0 0)).alloc (.cells #[.slice p l.length c] 22)).alloc (.cells #[.int .i64 0] 3)
  have bL := (Boxed.new (w1.alloc (.cells #[.slice none 0 0] 22)) 22 (.slice p l.length c)).alloc (.cells #[.int .i64 0] 3)
  have bS := Boxed.new ((w1.alloc (.cells #[.slice none 0 0] 22)).alloc (.cells #[.slice p l.length c] 22)) 3 (.int .i64 0)
  have q4 := ((k4.alloc (.cells #[.slice none 0 0] 22)).alloc (.cells #[.slice p l.length c] 22)).alloc (.cells #[.int .i64 0] 3)
  have q5 := ((k5.alloc (.cells #[.slice none 0 0] 22)).alloc (.cells #[.slice p l.length c] 22)).alloc (.cells #[.int .i64 0] 3)
  simp only [World.size_alloc] at bL bS
  have hB0 : Lo w (((w1.alloc (.cells #[.slice none 0 0] 22)).alloc (.cells #[.slice p l.length c] 22)).alloc (.cells #[.int .i64 0] 3)) := ((k.alloc _).alloc _).alloc _
  have hsz : (((w1.alloc (.cells #[.slice none 0 0] 22)).alloc (.cells #[.slice p l.length c] 22)).alloc (.cells #[.int .i64 0] 3)).heap.size = w1.heap.size + 3 := by simp
  obtain ⟨W0, hW0⟩ : ∃ W0, ((w1.alloc (.cells #[.slice none 0 0] 22)).alloc (.cells #[.slice p l.length c] 22)).alloc (.cells #[.int .i64 0] 3) = W0 := ⟨_, rfl⟩
  rw [hW0] at bA bL bS q4 q5 hB0 hsz ⊢
  clear hW0 k4 k5 k
  have hst := divided_stops w.heap.size (w1.heap.size + 1) w1.heap.size l HOK.out 0 (by omega) (by omega) p c (w1.heap.size + 1) (w1.heap.size + 1 + 1) W0 (by omega) (by omega) bA (fun W' hW' => RowK.lo HI.out (Below.trans hB0 hW')) bL bS (by omega) 8
  have hIo : OwnFrom W0.heap.size (fun (pre : List Ch.Span) W => (((∃ v, Boxed W w1.heap.size 22 v ∧ W.ownsRow w.heap.size 63 4 v pre.length (pre.flatMap encS) ∧ True) ∧ Boxed W w.heap.size 22 (.slice none 0 0)) ∧ Boxed W (w.heap.size + 1) 24 (.int .i64 0)) ∧ (pre.length ≤ 65536 ∧ Below w.heap.size w W)) :=
    OwnFrom.and (OwnFrom.and (OwnFrom.and (Own.from (holdsRow_own w.heap.size w1.heap.size 22 63 4 (fun (pre : List Ch.Span) => pre.length) (fun pre => pre.flatMap encS) (fun _ _ => True)) _) (Own.from (boxed_own _ _ _) _)) (Own.from (boxed_own _ _ _) _)) (OwnFrom.and (ownFrom_pure _ _) (ownFrom_below (Nat.le_refl _) (by omega)))
  have hIx : ∀ c : Code, OwnFrom W0.heap.size (fun (pre : List Ch.Span) W => (c = .ret ∧ pre.length = 65537) ∧ (Boxed W w.heap.size 22 (.slice none 0 0) ∧ Boxed W (w.heap.size + 1) 24 (.int .i64 7)) ∧ Below w.heap.size w W) := fun c =>
    OwnFrom.and (ownFrom_pure _ _) (OwnFrom.and (OwnFrom.and (Own.from (boxed_own _ _ _) _) (Own.from (boxed_own _ _ _) _)) (ownFrom_below (Nat.le_refl _) (by omega)))
  refine wpIn_rangeFunc_ownH rfl (by omega) (gf := 151) (lb := #[.pointer (some ⟨w1.heap.size + 1, 0, none⟩), .pointer (some ⟨w1.heap.size + 1 + 1, 0, none⟩)]) rfl trivial (enters_of Tryz.func151 (by kernel_rfl) rfl)
    hst kpS_t (kpS_b (by omega) (by omega)) (Below.refl _ _) (fun _ => rfl) _ (fun c pre W => (c = .ret ∧ pre.length = 65537) ∧ (Boxed W w.heap.size 22 (.slice none 0 0) ∧ Boxed W (w.heap.size + 1) 24 (.int .i64 7)) ∧ Below w.heap.size w W) hIo hIx
    ⟨⟨⟨⟨_, bA, World.ownsRow_nil _ _ _ _, trivial⟩, q4⟩, q5⟩, Nat.zero_le _, hB0⟩
    (fun x a' W => ∃ Bx, Four W Bx x ∧ a' = { tmps := #[.slice p l.length c, .int .i64 0, undef, undef, .pointer (some ⟨w.heap.size, 0, none⟩), .pointer (some ⟨w.heap.size + 1, 0, none⟩), .pointer (some ⟨w1.heap.size, 0, none⟩), .pointer (some ⟨Bx, 0, none⟩),
        .slice p l.length c, .bool true, .bool false, .bool false, .int .i64 0, .bool false, .bool false, undef, undef, .bool false, .bool false, .slice p l.length c, .int .i64 0,
        .func (.func 151) #[] #[.pointer (some ⟨w1.heap.size + 1, 0, none⟩), .pointer (some ⟨w1.heap.size + 1 + 1, 0, none⟩)], aggS x, undef, undef, undef, undef, undef, undef, undef, undef], defers := [] })
    (fun x a' _ X Y row hs hg hr => by obtain ⟨Bx, h2, h3⟩ := hs; exact ⟨Bx, four_own Bx x h2 hg (fun r e => (hr r e).2), h3⟩)
    ?assign ?body ?done ?stop
  case assign =>
    rintro l' pre x W K hI hK
    have hws : w.heap.size ≤ W.heap.size := hI.2.2.size
    have hI' := hIo.alloc (.cells #[.int .i64 x.fr, .int .i64 x.to, .int .i64 x.gl, .int .i64 x.st] 63) hI
    have hK' := Lib.hid (fun a' => hK a' (W.alloc (.cells #[.int .i64 x.fr, .int .i64 x.to, .int .i64 x.gl, .int .i64 x.st] 63)) ((KeepsOthers.alloc _ _).from _) (KpS.alloc hws _) hI')
    clear hK
    unfold aggS
    gi_wp2
    exact hK'.out _ ⟨W.heap.size, new_block W _, rfl⟩
  case body =>
    rintro l' pre x a' W hl ⟨r, hr⟩ ⟨⟨⟨⟨v, hv, hrow, -⟩, b4⟩, b5⟩, hln, hBe⟩ ⟨Bx, bX, rfl⟩ hlt
    obtain ⟨pv, cv, rfl⟩ := OwnK.form (enc := encS) (l := pre) hrow
    obtain ⟨⟨x0, x1, x2, x3⟩, -⟩ := four_at (show W.heap[Bx]? = _ from bX)
    have cA := hv.cell
    have c4 := b4.cell
    have c5 := b5.cell
    have f4 := b4.frozen
    have f5 := b5.frozen
    have h1' : 1 ≤ 9 - 1 - 1 := by omega
    by_cases h6 : pre.length = 65536
    · have hq : ((pre.length : Int) == 65536) = true := by rw [h6]; rfl
      have HE1 := Lib.hid (((b4.set (.slice none 0 0)).other (B' := w.heap.size + 1) (by omega) (.int .i64 7)))
      have HE2 := Lib.hid ((b5.other (B' := w.heap.size) (by omega) (.slice none 0 0)).set (.int .i64 7))
      have HE3 : Hid (Below w.heap.size w ((W.setCell ⟨w.heap.size, 0, none⟩ (.slice none 0 0)).setCell ⟨w.heap.size + 1, 0, none⟩ (.int .i64 7))) := Lib.hid ((hBe.setCell (p := ⟨w.heap.size, 0, none⟩) (Nat.le_refl _) _).setCell (p := ⟨w.heap.size + 1, 0, none⟩) (by simp) _)
      clear hrow
      gi_wp2
      exact ⟨((KeepsOthers.setCell _ _ _).trans (KeepsOthers.setCell _ _ _)).from _, ⟨rfl, by rw [List.length_append, h6]; rfl⟩, ⟨HE1.out, HE2.out⟩, HE3.out⟩
    · have hq : ((pre.length : Int) == 65536) = false := by
        have : ¬ (pre.length : Int) = 65536 := by omega
        simpa using this
      obtain ⟨i0, hi0, hz0, hz1, hz2⟩ := info_parts api_info
      have HE4 : Hid (∀ (tmp : Obj) w2 u, (W.alloc tmp).grownBy w2 (Value.slice pv pre.length cv).ownBlock → Boxed (w2.setCell ⟨w1.heap.size, 0, none⟩ u) w.heap.size 22 (.slice none 0 0) ∧ Boxed (w2.setCell ⟨w1.heap.size, 0, none⟩ u) (w.heap.size + 1) 24 (.int .i64 0)) :=
        Lib.hid (fun tmp w2 u hg => ⟨((b4.alloc tmp).kept hg (b4.not_row (by decide) hrow)).other (by omega) u, ((b5.alloc tmp).kept hg (b5.not_row (by decide) hrow)).other (by omega) u⟩)
      clear b4 b5 c4 c5 f4 f5
      gi_wp2_with (gi_at_builtin; refine wpListIn_append_own_at _ rfl _ _ 22 rfl w.heap.size 63 i0 (.agg #[.int .i64 0, .int .i64 0, .int .i64 0, .int .i64 0]) 4 32 Tryz.underlying22 hi0 hz0 hz1 hz2 rfl (by decide) _ _ _ rfl (hrow.alloc _) ⟨W.heap.size, 0, none⟩ 1 1 (encS x) rfl rfl (four_new W x 63) (encS_one x) (by unfold maxLen; omega) (by omega) (by have := hBe.size; simp; omega) ?_; intro v' w2 hown' hgrow _ hat; obtain ⟨g', cap', rfl⟩ := ownsRow_succ hown'; obtain ⟨hv1, hv2, hr2, hk2, hb2⟩ := hv.appended (by decide) hrow hBe.size (by omega) hown' hgrow; have hKp := Lib.hid (KpS.grown (n₁ := w1.heap.size + 1) hv (by decide) hrow hBe.size (by omega) (by omega) hown' hgrow hat); have HE5 := Lib.hid (HE4.out _ w2 (.slice (some ⟨g', 0, none⟩) (pre.length + 1) cap') hgrow); have hc1 := hv1.cell; have hf1 := hv1.frozen)
      exact ⟨hk2.from _, hKp.out, ⟨⟨⟨_, hv2, by rw [List.length_append, List.flatMap_append, List.flatMap_singleton]; exact hr2, trivial⟩, HE5.out.1⟩, HE5.out.2⟩, by rw [List.length_append]; simp; omega, Below.trans hBe hb2⟩
  case done =>
    rintro D ys W hD rfl ⟨⟨⟨⟨v, hv, hrow, -⟩, b4⟩, b5⟩, hln, hBe⟩ hK
    obtain ⟨pv, cv, rfl⟩ := OwnK.form (enc := encS) hrow
    have cA := hv.cell
    have c4 := b4.cell
    have c5 := b5.cell
    have f4 := b4.frozen
    have f5 := b5.frozen
    have HSP := Lib.hid (HSd.out hln)
    have hsp1 : Hid (W.heap.size = W.heap.size) := Lib.hid rfl
    have HB4 := Lib.hid ((b4.set (.slice pv (Gp.parts 0 l).length cv)).other (B' := w.heap.size + 1) (by omega) (.int .i64 0))
    have HB5 := Lib.hid ((b5.other (B' := w.heap.size) (by omega) (.slice pv (Gp.parts 0 l).length cv)).set (.int .i64 0))
    have HR1 : Hid (((W.setCell ⟨w.heap.size, 0, none⟩ (.slice pv (Gp.parts 0 l).length cv)).setCell ⟨w.heap.size + 1, 0, none⟩ (.int .i64 0)).ownsRow w.heap.size 63 4 (.slice pv (Gp.parts 0 l).length cv) (Gp.parts 0 l).length ((Gp.parts 0 l).flatMap encS)) :=
      Lib.hid ((hrow.kept (grownBy_setCell' W w.heap.size _) (.inr (b4.not_row (by decide) hrow).symm)).kept (grownBy_setCell' _ (w.heap.size + 1) _) (.inr ((b5.other (B' := w.heap.size) (by omega) (.slice pv (Gp.parts 0 l).length cv)).not_row (by decide) (hrow.kept (grownBy_setCell' W w.heap.size _) (.inr (b4.not_row (by decide) hrow).symm))).symm))
    have HBe : Hid (Below w.heap.size w ((W.setCell ⟨w.heap.size, 0, none⟩ (.slice pv (Gp.parts 0 l).length cv)).setCell ⟨w.heap.size + 1, 0, none⟩ (.int .i64 0))) := Lib.hid ((hBe.setCell (p := ⟨w.heap.size, 0, none⟩) (Nat.le_refl _) _).setCell (p := ⟨w.heap.size + 1, 0, none⟩) (by simp) _)
    have hK' := (KeepsOthers.setCell (W.setCell ⟨w.heap.size, 0, none⟩ (.slice pv (Gp.parts 0 l).length cv)) ⟨w.heap.size + 1, 0, none⟩ (.int .i64 0)).same D _ ((KeepsOthers.setCell W ⟨w.heap.size, 0, none⟩ (.slice pv (Gp.parts 0 l).length cv)).same D _ hK rfl) rfl
    clear hrow b4 b5 hsp1
    gi_wp2
    refine ⟨by simp, .inl ⟨_, _, rfl, run_takeDeferred hK', ?_⟩⟩
    have e4 := cell_kept HB4.out.cell (grownBy_putObj' _ D (.deferred none)) (fun r e => by cases e; exact ⟨_, hK', rfl⟩)
    have e5 := cell_kept HB5.out.cell (grownBy_putObj' _ D (.deferred none)) (fun r e => by cases e; exact ⟨_, hK', rfl⟩)
    refine ⟨.tuple #[.slice pv (Gp.parts 0 l).length cv, .int .i64 0], ?_, ?_⟩
    · simp [results, Tryz.f134, go_sem, e4, e5]
    · rw [HSP.out]
      exact ⟨_, _, rfl, OwnK.row encS_len (ownsRow_putObj HR1.out (.deferred none) hK' rfl), HBe.out.trans (belowK_b (w := w) (Nat.le_refl _) _ D _ _ (by omega) hK' rfl rfl)⟩
  case stop =>
    rintro D c' pre W hD hpre ⟨⟨rfl, hln⟩, ⟨b4, b5⟩, hBe⟩ hK
    have HSP := Lib.hid (HSl.out (by have := hpre.length_le; omega))
    gi_wp2
    refine ⟨by simp, .inl ⟨_, _, rfl, run_takeDeferred hK, ?_⟩⟩
    have e4 := cell_kept b4.cell (grownBy_putObj' _ D (.deferred none)) (fun r e => by cases e; exact ⟨_, hK, rfl⟩)
    have e5 := cell_kept b5.cell (grownBy_putObj' _ D (.deferred none)) (fun r e => by cases e; exact ⟨_, hK, rfl⟩)
    refine ⟨.tuple #[.slice none 0 0, .int .i64 7], ?_, ?_⟩
    · simp [results, Tryz.f134, go_sem, e4, e5]
    · rw [HSP.out]
      exact GotSp.nil rfl (hBe.trans (belowK_b (w := w) (Nat.le_refl _) _ D _ _ (by omega) hK rfl rfl))

set_option maxRecDepth 100000 in
set_option maxHeartbeats 3200000 in
theorem gsplit_ok1 (l : List Ch.Span) (v : Value) (w : World) (h : SRow w v l) (hl : Ch.isL l = true) :
    Calls Tryz.prog 134 #[v, .int .i64 1] w fun e w' => GotSp (Gp.split l 1) w e w' := by
  have HI := Lib.hid h
  have HOK := Lib.hid (fun (x : Ch.Span) (hx : x ∈ l) => Ch.isL_ok hl hx)
  have HSd : Hid ((Gp.parts 1 l).length ≤ 65536 → Gp.split l 1 = (Gp.parts 1 l, 0)) := Lib.hid (fun k => Gp.split_done hl (by omega) (by omega) (by omega))
  have HSl : Hid (65536 < (Gp.parts 1 l).length → Gp.split l 1 = ([], 7)) := Lib.hid (fun k => Gp.split_long hl (by omega) (by omega) k)
  obtain ⟨p, c, rfl, _⟩ := RowK.form h
  clear h
  have hll : l.length ≤ 65536 := by unfold Ch.isL at hl; simp only [Bool.and_eq_true, decide_eq_true_eq] at hl; exact hl.2
  have b4 := (Boxed.new w 22 (.slice none 0 0)).alloc (.cells #[.int .i64 0] 24)
  have b5 := Boxed.new (w.alloc (.cells #[.slice none 0 0] 22)) 24 (.int .i64 0)
  rw [World.size_alloc] at b5
  have lo0 : Lo w ((w.alloc (.cells #[.slice none 0 0] 22)).alloc (.cells #[.int .i64 0] 24)) := ((Lo.refl w).alloc _).alloc _
  have HIs := Lib.hid (cis_any (.slice p l.length c) l ((w.alloc (.cells #[.slice none 0 0] 22)).alloc (.cells #[.int .i64 0] 24)) (RowK.lo HI.out lo0))
  rw [hl] at HIs
  have HF : Hid (∀ w1, Lo ((w.alloc (.cells #[.slice none 0 0] 22)).alloc (.cells #[.int .i64 0] 24)) w1 → Boxed w1 w.heap.size 22 (.slice none 0 0) ∧ Boxed w1 (w.heap.size + 1) 24 (.int .i64 0) ∧ Lo w w1 ∧ w.heap.size + 2 ≤ w1.heap.size) := Lib.hid (fun w1 k => ⟨(k.block _ b4.lt).trans b4, (k.block _ b5.lt).trans b5, Lo.trans lo0 k, by have := k.size; simpa using this⟩)
  clear b4 b5 lo0 hl
  refine (callsIn_wide (n := 9)).1 ?_
  refine callsIn_of_wp_marks Tryz.func134 rfl trivial ?_ rfl
  simp only [Tryz.ntmps134, List.size_toArray, List.length_cons, List.length_nil, Nat.reduceAdd, Nat.reduceSub, Array.replicate_succ, Array.replicate_zero, List.push_toArray, List.append_toArray, List.nil_append, List.cons_append]
  gi_wp2_with (first | (gi_at_call 20; refine (callsIn_wide.2 HIs.out).mono ?_; rintro e w1 ⟨rfl, lo1⟩; obtain ⟨k4, k5, k, ksz⟩ := HF.out _ lo1) | (gi_at_call 145; refine (divided_make _ _ _ _ _ _).mono ?_; rintro e w' ⟨rfl, rfl⟩))
  clear HIs HF lo1
  have bA := ((Boxed.new w1 22 (.slice none 0 0)).alloc (.cells #[.slice p l.length c] 22)).alloc (.cells #[.int .i64 1] 3)
  have bL := (Boxed.new (w1.alloc (.cells #[.slice none 0 0] 22)) 22 (.slice p l.length c)).alloc (.cells #[.int .i64 1] 3)
  have bS := Boxed.new ((w1.alloc (.cells #[.slice none 0 0] 22)).alloc (.cells #[.slice p l.length c] 22)) 3 (.int .i64 1)
  have q4 := ((k4.alloc (.cells #[.slice none 0 0] 22)).alloc (.cells #[.slice p l.length c] 22)).alloc (.cells #[.int .i64 1] 3)
  have q5 := ((k5.alloc (.cells #[.slice none 0 0] 22)).alloc (.cells #[.slice p l.length c] 22)).alloc (.cells #[.int .i64 1] 3)
  simp only [World.size_alloc] at bL bS
  have hB0 : Lo w (((w1.alloc (.cells #[.slice none 0 0] 22)).alloc (.cells #[.slice p l.length c] 22)).alloc (.cells #[.int .i64 1] 3)) := ((k.alloc _).alloc _).alloc _
  have hsz : (((w1.alloc (.cells #[.slice none 0 0] 22)).alloc (.cells #[.slice p l.length c] 22)).alloc (.cells #[.int .i64 1] 3)).heap.size = w1.heap.size + 3 := by simp
  obtain ⟨W0, hW0⟩ : ∃ W0, ((w1.alloc (.cells #[.slice none 0 0] 22)).alloc (.cells #[.slice p l.length c] 22)).alloc (.cells #[.int .i64 1] 3) = W0 := ⟨_, rfl⟩
  rw [hW0] at bA bL bS q4 q5 hB0 hsz ⊢
  clear hW0 k4 k5 k
  have hst := divided_stops w.heap.size (w1.heap.size + 1) w1.heap.size l HOK.out 1 (by omega) (by omega) p c (w1.heap.size + 1) (w1.heap.size + 1 + 1) W0 (by omega) (by omega) bA (fun W' hW' => RowK.lo HI.out (Below.trans hB0 hW')) bL bS (by omega) 8
  have hIo : OwnFrom W0.heap.size (fun (pre : List Ch.Span) W => (((∃ v, Boxed W w1.heap.size 22 v ∧ W.ownsRow w.heap.size 63 4 v pre.length (pre.flatMap encS) ∧ True) ∧ Boxed W w.heap.size 22 (.slice none 0 0)) ∧ Boxed W (w.heap.size + 1) 24 (.int .i64 0)) ∧ (pre.length ≤ 65536 ∧ Below w.heap.size w W)) :=
    OwnFrom.and (OwnFrom.and (OwnFrom.and (Own.from (holdsRow_own w.heap.size w1.heap.size 22 63 4 (fun (pre : List Ch.Span) => pre.length) (fun pre => pre.flatMap encS) (fun _ _ => True)) _) (Own.from (boxed_own _ _ _) _)) (Own.from (boxed_own _ _ _) _)) (OwnFrom.and (ownFrom_pure _ _) (ownFrom_below (Nat.le_refl _) (by omega)))
  have hIx : ∀ c : Code, OwnFrom W0.heap.size (fun (pre : List Ch.Span) W => (c = .ret ∧ pre.length = 65537) ∧ (Boxed W w.heap.size 22 (.slice none 0 0) ∧ Boxed W (w.heap.size + 1) 24 (.int .i64 7)) ∧ Below w.heap.size w W) := fun c =>
    OwnFrom.and (ownFrom_pure _ _) (OwnFrom.and (OwnFrom.and (Own.from (boxed_own _ _ _) _) (Own.from (boxed_own _ _ _) _)) (ownFrom_below (Nat.le_refl _) (by omega)))
  refine wpIn_rangeFunc_ownH rfl (by omega) (gf := 151) (lb := #[.pointer (some ⟨w1.heap.size + 1, 0, none⟩), .pointer (some ⟨w1.heap.size + 1 + 1, 0, none⟩)]) rfl trivial (enters_of Tryz.func151 (by kernel_rfl) rfl)
    hst kpS_t (kpS_b (by omega) (by omega)) (Below.refl _ _) (fun _ => rfl) _ (fun c pre W => (c = .ret ∧ pre.length = 65537) ∧ (Boxed W w.heap.size 22 (.slice none 0 0) ∧ Boxed W (w.heap.size + 1) 24 (.int .i64 7)) ∧ Below w.heap.size w W) hIo hIx
    ⟨⟨⟨⟨_, bA, World.ownsRow_nil _ _ _ _, trivial⟩, q4⟩, q5⟩, Nat.zero_le _, hB0⟩
    (fun x a' W => ∃ Bx, Four W Bx x ∧ a' = { tmps := #[.slice p l.length c, .int .i64 1, undef, undef, .pointer (some ⟨w.heap.size, 0, none⟩), .pointer (some ⟨w.heap.size + 1, 0, none⟩), .pointer (some ⟨w1.heap.size, 0, none⟩), .pointer (some ⟨Bx, 0, none⟩),
        .slice p l.length c, .bool true, .bool false, .bool false, .int .i64 1, .bool true, .bool true, .int .i64 1, .bool false, .bool false, .bool false, .slice p l.length c, .int .i64 1,
        .func (.func 151) #[] #[.pointer (some ⟨w1.heap.size + 1, 0, none⟩), .pointer (some ⟨w1.heap.size + 1 + 1, 0, none⟩)], aggS x, undef, undef, undef, undef, undef, undef, undef, undef], defers := [] })
    (fun x a' _ X Y row hs hg hr => by obtain ⟨Bx, h2, h3⟩ := hs; exact ⟨Bx, four_own Bx x h2 hg (fun r e => (hr r e).2), h3⟩)
    ?assign ?body ?done ?stop
  case assign =>
    rintro l' pre x W K hI hK
    have hws : w.heap.size ≤ W.heap.size := hI.2.2.size
    have hI' := hIo.alloc (.cells #[.int .i64 x.fr, .int .i64 x.to, .int .i64 x.gl, .int .i64 x.st] 63) hI
    have hK' := Lib.hid (fun a' => hK a' (W.alloc (.cells #[.int .i64 x.fr, .int .i64 x.to, .int .i64 x.gl, .int .i64 x.st] 63)) ((KeepsOthers.alloc _ _).from _) (KpS.alloc hws _) hI')
    clear hK
    unfold aggS
    gi_wp2
    exact hK'.out _ ⟨W.heap.size, new_block W _, rfl⟩
  case body =>
    rintro l' pre x a' W hl ⟨r, hr⟩ ⟨⟨⟨⟨v, hv, hrow, -⟩, b4⟩, b5⟩, hln, hBe⟩ ⟨Bx, bX, rfl⟩ hlt
    obtain ⟨pv, cv, rfl⟩ := OwnK.form (enc := encS) (l := pre) hrow
    obtain ⟨⟨x0, x1, x2, x3⟩, -⟩ := four_at (show W.heap[Bx]? = _ from bX)
    have cA := hv.cell
    have c4 := b4.cell
    have c5 := b5.cell
    have f4 := b4.frozen
    have f5 := b5.frozen
    have h1' : 1 ≤ 9 - 1 - 1 := by omega
    by_cases h6 : pre.length = 65536
    · have hq : ((pre.length : Int) == 65536) = true := by rw [h6]; rfl
      have HE1 := Lib.hid (((b4.set (.slice none 0 0)).other (B' := w.heap.size + 1) (by omega) (.int .i64 7)))
      have HE2 := Lib.hid ((b5.other (B' := w.heap.size) (by omega) (.slice none 0 0)).set (.int .i64 7))
      have HE3 : Hid (Below w.heap.size w ((W.setCell ⟨w.heap.size, 0, none⟩ (.slice none 0 0)).setCell ⟨w.heap.size + 1, 0, none⟩ (.int .i64 7))) := Lib.hid ((hBe.setCell (p := ⟨w.heap.size, 0, none⟩) (Nat.le_refl _) _).setCell (p := ⟨w.heap.size + 1, 0, none⟩) (by simp) _)
      clear hrow
      gi_wp2
      exact ⟨((KeepsOthers.setCell _ _ _).trans (KeepsOthers.setCell _ _ _)).from _, ⟨rfl, by rw [List.length_append, h6]; rfl⟩, ⟨HE1.out, HE2.out⟩, HE3.out⟩
    · have hq : ((pre.length : Int) == 65536) = false := by
        have : ¬ (pre.length : Int) = 65536 := by omega
        simpa using this
      obtain ⟨i0, hi0, hz0, hz1, hz2⟩ := info_parts api_info
      have HE4 : Hid (∀ (tmp : Obj) w2 u, (W.alloc tmp).grownBy w2 (Value.slice pv pre.length cv).ownBlock → Boxed (w2.setCell ⟨w1.heap.size, 0, none⟩ u) w.heap.size 22 (.slice none 0 0) ∧ Boxed (w2.setCell ⟨w1.heap.size, 0, none⟩ u) (w.heap.size + 1) 24 (.int .i64 0)) :=
        Lib.hid (fun tmp w2 u hg => ⟨((b4.alloc tmp).kept hg (b4.not_row (by decide) hrow)).other (by omega) u, ((b5.alloc tmp).kept hg (b5.not_row (by decide) hrow)).other (by omega) u⟩)
      clear b4 b5 c4 c5 f4 f5
      gi_wp2_with (gi_at_builtin; refine wpListIn_append_own_at _ rfl _ _ 22 rfl w.heap.size 63 i0 (.agg #[.int .i64 0, .int .i64 0, .int .i64 0, .int .i64 0]) 4 32 Tryz.underlying22 hi0 hz0 hz1 hz2 rfl (by decide) _ _ _ rfl (hrow.alloc _) ⟨W.heap.size, 0, none⟩ 1 1 (encS x) rfl rfl (four_new W x 63) (encS_one x) (by unfold maxLen; omega) (by omega) (by have := hBe.size; simp; omega) ?_; intro v' w2 hown' hgrow _ hat; obtain ⟨g', cap', rfl⟩ := ownsRow_succ hown'; obtain ⟨hv1, hv2, hr2, hk2, hb2⟩ := hv.appended (by decide) hrow hBe.size (by omega) hown' hgrow; have hKp := Lib.hid (KpS.grown (n₁ := w1.heap.size + 1) hv (by decide) hrow hBe.size (by omega) (by omega) hown' hgrow hat); have HE5 := Lib.hid (HE4.out _ w2 (.slice (some ⟨g', 0, none⟩) (pre.length + 1) cap') hgrow); have hc1 := hv1.cell; have hf1 := hv1.frozen)
      exact ⟨hk2.from _, hKp.out, ⟨⟨⟨_, hv2, by rw [List.length_append, List.flatMap_append, List.flatMap_singleton]; exact hr2, trivial⟩, HE5.out.1⟩, HE5.out.2⟩, by rw [List.length_append]; simp; omega, Below.trans hBe hb2⟩
  case done =>
    rintro D ys W hD rfl ⟨⟨⟨⟨v, hv, hrow, -⟩, b4⟩, b5⟩, hln, hBe⟩ hK
    obtain ⟨pv, cv, rfl⟩ := OwnK.form (enc := encS) hrow
    have cA := hv.cell
    have c4 := b4.cell
    have c5 := b5.cell
    have f4 := b4.frozen
    have f5 := b5.frozen
    have HSP := Lib.hid (HSd.out hln)
    have hsp1 : Hid (W.heap.size = W.heap.size) := Lib.hid rfl
    have HB4 := Lib.hid ((b4.set (.slice pv (Gp.parts 1 l).length cv)).other (B' := w.heap.size + 1) (by omega) (.int .i64 0))
    have HB5 := Lib.hid ((b5.other (B' := w.heap.size) (by omega) (.slice pv (Gp.parts 1 l).length cv)).set (.int .i64 0))
    have HR1 : Hid (((W.setCell ⟨w.heap.size, 0, none⟩ (.slice pv (Gp.parts 1 l).length cv)).setCell ⟨w.heap.size + 1, 0, none⟩ (.int .i64 0)).ownsRow w.heap.size 63 4 (.slice pv (Gp.parts 1 l).length cv) (Gp.parts 1 l).length ((Gp.parts 1 l).flatMap encS)) :=
      Lib.hid ((hrow.kept (grownBy_setCell' W w.heap.size _) (.inr (b4.not_row (by decide) hrow).symm)).kept (grownBy_setCell' _ (w.heap.size + 1) _) (.inr ((b5.other (B' := w.heap.size) (by omega) (.slice pv (Gp.parts 1 l).length cv)).not_row (by decide) (hrow.kept (grownBy_setCell' W w.heap.size _) (.inr (b4.not_row (by decide) hrow).symm))).symm))
    have HBe : Hid (Below w.heap.size w ((W.setCell ⟨w.heap.size, 0, none⟩ (.slice pv (Gp.parts 1 l).length cv)).setCell ⟨w.heap.size + 1, 0, none⟩ (.int .i64 0))) := Lib.hid ((hBe.setCell (p := ⟨w.heap.size, 0, none⟩) (Nat.le_refl _) _).setCell (p := ⟨w.heap.size + 1, 0, none⟩) (by simp) _)
    have hK' := (KeepsOthers.setCell (W.setCell ⟨w.heap.size, 0, none⟩ (.slice pv (Gp.parts 1 l).length cv)) ⟨w.heap.size + 1, 0, none⟩ (.int .i64 0)).same D _ ((KeepsOthers.setCell W ⟨w.heap.size, 0, none⟩ (.slice pv (Gp.parts 1 l).length cv)).same D _ hK rfl) rfl
    clear hrow b4 b5 hsp1
    gi_wp2
    refine ⟨by simp, .inl ⟨_, _, rfl, run_takeDeferred hK', ?_⟩⟩
    have e4 := cell_kept HB4.out.cell (grownBy_putObj' _ D (.deferred none)) (fun r e => by cases e; exact ⟨_, hK', rfl⟩)
    have e5 := cell_kept HB5.out.cell (grownBy_putObj' _ D (.deferred none)) (fun r e => by cases e; exact ⟨_, hK', rfl⟩)
    refine ⟨.tuple #[.slice pv (Gp.parts 1 l).length cv, .int .i64 0], ?_, ?_⟩
    · simp [results, Tryz.f134, go_sem, e4, e5]
    · rw [HSP.out]
      exact ⟨_, _, rfl, OwnK.row encS_len (ownsRow_putObj HR1.out (.deferred none) hK' rfl), HBe.out.trans (belowK_b (w := w) (Nat.le_refl _) _ D _ _ (by omega) hK' rfl rfl)⟩
  case stop =>
    rintro D c' pre W hD hpre ⟨⟨rfl, hln⟩, ⟨b4, b5⟩, hBe⟩ hK
    have HSP := Lib.hid (HSl.out (by have := hpre.length_le; omega))
    gi_wp2
    refine ⟨by simp, .inl ⟨_, _, rfl, run_takeDeferred hK, ?_⟩⟩
    have e4 := cell_kept b4.cell (grownBy_putObj' _ D (.deferred none)) (fun r e => by cases e; exact ⟨_, hK, rfl⟩)
    have e5 := cell_kept b5.cell (grownBy_putObj' _ D (.deferred none)) (fun r e => by cases e; exact ⟨_, hK, rfl⟩)
    refine ⟨.tuple #[.slice none 0 0, .int .i64 7], ?_, ?_⟩
    · simp [results, Tryz.f134, go_sem, e4, e5]
    · rw [HSP.out]
      exact GotSp.nil rfl (hBe.trans (belowK_b (w := w) (Nat.le_refl _) _ D _ _ (by omega) hK rfl rfl))

/-- group.Split. -/
theorem gsplit_any (l : List Ch.Span) (v : Value) (step : Int) (w : World) (h : SRow w v l) : Calls Tryz.prog 134 #[v, .int .i64 step] w fun e w' => GotSp (Gp.split l step) w e w' := by
  by_cases hc : Ch.isL l = false ∨ step < 0 ∨ 1 < step
  · rw [Gp.split_arg hc]; exact gsplit_arg l v step w h hc
  · have hl : Ch.isL l = true := by
      cases e : Ch.isL l with
      | true => rfl
      | false => exact absurd (.inl e) hc
    rcases (show step = 0 ∨ step = 1 by omega) with rfl | rfl
    · exact gsplit_ok0 l v w h hl
    · exact gsplit_ok1 l v w h hl
end Go.Proofs.YtppihpjcdieeoaaGreatDoor
