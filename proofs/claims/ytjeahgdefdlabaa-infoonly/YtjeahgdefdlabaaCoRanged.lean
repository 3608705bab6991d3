/-
  The contract of cover.ranged: the fields of a valid list's ranges. No conditions beyond those stated.
-/
import Derived.Test.YtjeahgdefdlabaaCoJoin
import Derived.Test.YtjeahgdefdlabaaCoList
namespace Go.Proofs.Ytjeahgdefdlabaa
open Go.RowKit Go.Shelf
attribute [local go_sem] Oper.semAt_some wide_fn wide_depth

/-- A range's box. -/
def PairAt (W : World) (B : Nat) (x : T3) : Prop := W.heap[B]? = some (.cells #[.int .i64 x.1, .int .i64 x.2.1] 82 (0, 0))
theorem pair_own (B : Nat) (x : T3) {X Y : World} {row : Option Nat} (h : PairAt X B x) (hg : X.grownBy Y row) (hr : ∀ r, row = some r → ∃ o : Obj, X.heap[r]? = some o ∧ o.isCells = false) : PairAt Y B x := by
  refine (hg.block B (Array.getElem?_eq_some_iff.1 h).1 (fun e => ?_)).trans h
  obtain ⟨o, ho, hf⟩ := hr B e.symm
  rw [show X.heap[B]? = _ from h] at ho
  cases ho
  simp [Obj.isCells] at hf
theorem three_ints (a b c : Int) : ∀ u ∈ [Value.int .i64 a, Value.int .i64 b, Value.int .i64 c], u.oneCell' = true := by
  intro u hu
  simp only [List.mem_cons, List.not_mem_nil, or_false] at hu
  rcases hu with rfl | rfl | rfl <;> rfl
theorem ints_three (l : List Int) (a b c : Int) : ints l ++ [Value.int .i64 a, Value.int .i64 b, Value.int .i64 c] = ints (l ++ [a, b, c]) := (ints_append l [a, b, c]).symm

set_option maxRecDepth 100000 in
set_option maxHeartbeats 3200000 in
/-- cover.ranged. -/
theorem ranged_any (xs : List Int) (hc : Co.isCov xs = true) (v : Value) (w : World) (h : Row w v xs) :
    Calls Try.prog 49 #[v] w fun e w' => ∃ p c, e = .returned (.slice p (Co.nums (Co.tr xs)).length c) ∧ Row w' (.slice p (Co.nums (Co.tr xs)).length c) (Co.nums (Co.tr xs)) ∧ Lo w w' := by
  have HI := Lib.hid h
  obtain ⟨p, c, rfl, _⟩ := h.form
  have HC := Lib.hid hc
  have HTl : Hid ((Co.tr xs).length ≤ 65535) := Lib.hid (by have h1 := Co.tr_len xs; have h2 := Co.runs_len xs; have h3 := Co.cov_len hc; omega)
  obtain ⟨n, hnn⟩ : ∃ n, xs.length = n := ⟨_, rfl⟩
  rw [hnn] at HI ⊢
  have HN := Lib.hid hnn
  clear h hc hnn
  refine (callsIn_wide (n := 9)).1 ?_
  refine callsIn_of_wp_marks Try.func49 rfl trivial ?_ rfl
  simp only [Try.ntmps49, List.size_toArray, List.length_cons, List.length_nil, Nat.reduceAdd, Nat.reduceSub, Array.replicate_succ, Array.replicate_zero, List.push_toArray, List.append_toArray, List.nil_append, List.cons_append]
  gi_wp2_with (gi_at_call 58; refine (joined_make _ _ _ _ _).mono ?_; rintro e w' ⟨rfl, rfl⟩)
  have bA := (Boxed.new w 37 (.slice none 0 0)).alloc (.cells #[.slice p n c] 37)
  have bL := Boxed.new (w.alloc (.cells #[.slice none 0 0] 37)) 37 (.slice p n c)
  simp only [World.size_alloc] at bL
  have hB0 : Lo w ((w.alloc (.cells #[.slice none 0 0] 37)).alloc (.cells #[.slice p n c] 37)) := ((Lo.refl w).alloc _).alloc _
  have hsz : ((w.alloc (.cells #[.slice none 0 0] 37)).alloc (.cells #[.slice p n c] 37)).heap.size = w.heap.size + 2 := by simp
  obtain ⟨W0, hW0⟩ : ∃ W0, (w.alloc (.cells #[.slice none 0 0] 37)).alloc (.cells #[.slice p n c] 37) = W0 := ⟨_, rfl⟩
  rw [hW0] at bA bL hB0 hsz ⊢
  clear hW0
  have hst := joined_stops w.heap.size (w.heap.size + 1) w.heap.size xs HC.out n HN.out p c (w.heap.size + 1) W0 (by omega) bA (fun W' hW' => Row.lo HI.out (Below.trans hB0 hW')) bL (by omega) 8
  have HTT : Hid (∀ ys, ys = Co.tr xs → Co.nums ys = Co.nums (Co.tr xs)) := Lib.hid (fun ys h => by rw [h])
  generalize hT : Co.tr xs = T at *
  have HTe := Lib.hid hT
  clear hT
  have hIo : OwnFrom W0.heap.size (fun (pre : List T3) W => (∃ v, Boxed W w.heap.size 37 v ∧ W.ownsRow w.heap.size 3 1 v (Co.nums pre).length (ints (Co.nums pre)) ∧ True) ∧ Below w.heap.size w W) :=
    OwnFrom.and (Go.Own.from (holdsRow_own w.heap.size w.heap.size 37 3 1 (fun (pre : List T3) => (Co.nums pre).length) (fun pre => ints (Co.nums pre)) (fun _ _ => True)) _) (ownFrom_below (Nat.le_refl _) (by omega))
  refine wpIn_rangeFunc_ownH rfl (by omega) (gf := 62) (lb := #[.pointer (some ⟨w.heap.size + 1, 0, none⟩)]) rfl trivial (enters_of Try.func62 (by kernel_rfl) rfl)
    hst kpS_t (kpS_b (by omega) (by omega)) (Below.refl _ _) (fun _ => rfl) _ (fun _ _ _ => False) hIo (fun _ _ _ _ _ h _ _ => h)
    ⟨⟨_, bA, World.ownsRow_nil _ _ _ _, trivial⟩, hB0⟩
    (fun x a' W => ∃ Bx, PairAt W Bx x ∧ a' = { tmps := #[.slice p n c, undef, .slice none 0 0, .pointer (some ⟨w.heap.size, 0, none⟩), .int .i64 x.2.2, .pointer (some ⟨Bx, 0, none⟩),
        .slice p n c, .func (.func 62) #[] #[.pointer (some ⟨w.heap.size + 1, 0, none⟩)], .int .i64 x.2.2, .agg #[.int .i64 x.1, .int .i64 x.2.1],
        undef, undef, undef, undef, undef, undef, undef, undef, undef], defers := [] })
    (fun x a' _ X Y row hs hg hr => by obtain ⟨Bx, h2, h3⟩ := hs; exact ⟨Bx, pair_own Bx x h2 hg (fun r e => (hr r e).2), h3⟩)
    ?assign ?body ?done ?stop
  case assign =>
    rintro l' pre x W K hI hK
    have hws : w.heap.size ≤ W.heap.size := hI.2.size
    have hI' := hIo.alloc (.cells #[.int .i64 x.1, .int .i64 x.2.1] 82) hI
    have hK' := Lib.hid (fun a' => hK a' (W.alloc (.cells #[.int .i64 x.1, .int .i64 x.2.1] 82)) ((KeepsOthers.alloc _ _).from _) (KpS.alloc hws _) hI')
    clear hK
    unfold encJ
    gi_wp2
    exact hK'.out _ ⟨W.heap.size, new_block W _, rfl⟩
  case body =>
    rintro l' pre x a' W hl ⟨r, hr⟩ ⟨⟨v, hv, hrow, -⟩, hBe⟩ ⟨Bx, bX, rfl⟩ hlt
    obtain ⟨pv, cv, rfl⟩ := own_ints hrow
    obtain ⟨x0, x1, x2⟩ := x
    unfold PairAt at bX
    dsimp only at bX ⊢
    have cX0 : W.cell? ⟨Bx, 0, none⟩ = some (.int .i64 x0) := block_cell bX rfl
    have cX1 : W.cell? ⟨Bx, 1, none⟩ = some (.int .i64 x1) := block_cell bX rfl
    have cA := hv.cell
    have h1' : 1 ≤ 9 - 1 - 1 := by omega
    have HNu : Hid (Co.nums (pre ++ [(x0, x1, x2)]) = Co.nums pre ++ [x0, x1, x2]) := Lib.hid (by rw [Co.nums_append]; rfl)
    have hL : (Co.nums pre).length ≤ 200000 := by rw [Co.nums_len]; have := HTl.out; omega
    have HLe : Hid ((Co.nums (pre ++ [(x0, x1, x2)])).length = (Co.nums pre).length + 3) := Lib.hid (by rw [HNu.out, List.length_append]; rfl)
    obtain ⟨i0, hi0, hq0, hq1, hq2⟩ := info_parts int_info
    generalize Co.nums pre = o at *
    gi_wp2_with (gi_at_builtin; refine wpListIn_append_own_at _ rfl _ _ 37 rfl w.heap.size 3 i0 (.int .i64 0) 1 8 Try.underlying37 hi0 hq0 hq1 hq2 rfl (by decide) _ _ _ rfl (hrow.alloc _) ⟨W.heap.size, 0, none⟩ 3 3 [.int .i64 x0, .int .i64 x1, .int .i64 x2] rfl rfl (cells_new W [.int .i64 x0, .int .i64 x1, .int .i64 x2] 3) (three_ints x0 x1 x2) (by unfold maxLen; omega) (by omega) (by have := hBe.size; simp; omega) ?_; intro v' w2 hown' hgrow _ hat; obtain ⟨g', cap', rfl⟩ := ownsRow_succ hown'; obtain ⟨hv1, hv2, hr2, hk2, hb2⟩ := hv.appended (by decide) hrow hBe.size (by omega) hown' hgrow; have hKp := Lib.hid (KpS.grown (n₁ := w.heap.size + 1) hv (by decide) hrow hBe.size (by omega) (by omega) hown' hgrow hat); have hc1 := hv1.cell; have hf1 := hv1.frozen)
    rw [ints_three] at hr2
    exact ⟨hk2.from _, hKp.out, ⟨_, hv2, by rw [HLe.out, HNu.out]; exact ⟨hr2, trivial⟩⟩, Below.trans hBe hb2⟩
  case done =>
    rintro D ys W hD hys ⟨⟨v, hv, hrow, -⟩, hBe⟩ hK
    rw [HTT.out ys hys] at hrow
    obtain ⟨pv, cv, rfl⟩ := own_ints hrow
    have cA := hv.cell
    have HRw := Lib.hid hrow
    clear hrow
    gi_wp2
    refine ⟨by simp, .inl ⟨_, _, rfl, run_takeDeferred hK, ?_⟩⟩
    refine ⟨.slice pv (Co.nums T).length cv, ?_, ?_⟩
    · simp [results, Try.f49, go_sem]
    · rw [HTe.out]
      exact ⟨_, _, rfl, Own.row (base := w.heap.size) (ownsRow_putObj HRw.out (.deferred none) hK rfl), hBe.trans (belowK_b (w := w) (Nat.le_refl _) _ D _ _ (by omega) hK rfl rfl)⟩
  case stop =>
    rintro D c' pre W hD _ hF
    exact hF.elim
end Go.Proofs.Ytjeahgdefdlabaa
