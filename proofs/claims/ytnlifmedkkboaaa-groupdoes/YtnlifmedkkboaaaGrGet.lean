/-
  The contract of group.Get. No conditions beyond those stated.
-/
import Derived.Test.YtnlifmedkkboaaaGrGroups
import Derived.Test.YtnlifmedkkboaaaGrSplit
namespace Gp
open Bn He Ch Sg
theorem rows_len (s : List UInt8) : (rows s).length = (long s 12).toNat := by unfold rows; simp
end Gp
namespace Go.Proofs.Ytnlifmedkkboaaa
open Go.RowKit Go.Shelf
attribute [local go_sem] Oper.semAt_some wide_fn wide_depth
theorem come_rows (s : List UInt8) : come s (Gp.long s 12).toNat = Gp.rows s := rfl

/-- A row lies as it lay where a block that is no cells is turned. -/
theorem row_put {w : World} {v : Value} {l : List Ch.Span} (h : SRow w v l) {D : Nat} {o : Obj} (o' : Obj) (hk : w.heap[D]? = some o) (hc : o.isCells = false) : SRow (w.putObj D o') v l := by
  rcases h with h | ⟨b, off, cap, rfl, h2, h2b, h3, h4⟩
  · exact .inl h
  · refine .inr ⟨b, off, cap, rfl, h2, h2b, by simpa using h3, fun i x hi j hj => ?_⟩
    obtain ⟨u, hu⟩ : ∃ u, (encS x)[j]? = some u := ⟨_, List.getElem?_eq_getElem (by rw [encS_len]; exact hj)⟩
    rw [hu]
    exact cell_kept ((h4 i x hi j hj).trans hu) (grownBy_putObj' w D o') (fun r e => by cases e; exact ⟨o, hk, hc⟩)

set_option maxHeartbeats 800000 in
theorem gget_no (s : List UInt8) (w : World) (hl : s.length ≤ 9223372036854775807) (h : Gp.rerr s ≠ 0) : Calls Try.prog 8 #[.string ⟨s.toArray⟩] w fun e w' => GotSp ([], Gp.rerr s) w e w' := by
  have HR := Lib.hid (gread_any s w hl)
  unfold readEnd noGroups at HR
  rw [if_neg h] at HR
  generalize Gp.rerr s = z at *
  have hz : (z != 0) = true := by simpa using h
  go_enter Try.func8, Try.ntmps8
  go_wp2_with fail
  refine HR.out.mono ?_
  rintro e w1 ⟨rfl, lo⟩
  have HL := Lib.hid lo
  clear lo HR
  go_wp2_with fail
  go_ret2
  exact GotSp.nil rfl HL.out

set_option maxRecDepth 100000 in
set_option maxHeartbeats 800000 in
theorem gget_ok (s : List UInt8) (w : World) (hl : s.length ≤ 9223372036854775807) (h : Gp.rerr s = 0) : Calls Try.prog 8 #[.string ⟨s.toArray⟩] w fun e w' => GotSp (Gp.get s) w e w' := by
  have HR := Lib.hid (gread_any s w hl)
  unfold readEnd noGroups at HR
  rw [if_pos h] at HR
  obtain ⟨hg, h16, h12, h65, hlen⟩ := Gp.get_rok h
  have hb12 := Gp.long_bound s 12
  rw [Gp.rows_len] at hlen
  obtain ⟨N, hN⟩ : ∃ N, (Gp.long s 12).toNat = N := ⟨_, rfl⟩
  have hNi : Gp.long s 12 = (N : Int) := by omega
  have hrows : come s N = Gp.rows s := by rw [← hN]; exact come_rows s
  rw [hNi] at HR
  rw [hN] at hlen
  rw [← hrows] at hg
  have HGt := Lib.hid hg
  have hN6 : N ≤ 65536 := by omega
  have hcl : (come s N).length = N := by simp [come]
  refine (callsIn_wide (n := 9)).1 ?_
  refine callsIn_of_wp_marks Try.func8 rfl trivial ?_ rfl
  simp only [Try.ntmps8, List.size_toArray, List.length_cons, List.length_nil, Nat.reduceAdd, Nat.reduceSub, Array.replicate_succ, Array.replicate_zero, List.push_toArray, List.append_toArray, List.nil_append, List.cons_append]
  clear hg hrows hN hNi h h16 h12 h65 hb12
  gi_wp2_with (first | (gi_at_call 18; refine (callsIn_wide.2 HR.out).mono ?_; rintro e w1 ⟨rfl, lo1⟩) | (gi_at_call 19; refine (groups_make _ _ _ _ _).mono ?_; rintro e w' ⟨rfl, rfl⟩))
  have bA := (((Boxed.new w1 22 (.slice none 0 0)).alloc (.cells #[.string ⟨s.toArray⟩] 9)).alloc (.cells #[.int .i64 (13 - He.fld s 0 2)] 3)).alloc (.cells #[.int .i64 (N : Int)] 3)
  have bS := ((Boxed.new (w1.alloc (.cells #[.slice none 0 0] 22)) 9 (.string ⟨s.toArray⟩)).alloc (.cells #[.int .i64 (13 - He.fld s 0 2)] 3)).alloc (.cells #[.int .i64 (N : Int)] 3)
  have bT := (Boxed.new ((w1.alloc (.cells #[.slice none 0 0] 22)).alloc (.cells #[.string ⟨s.toArray⟩] 9)) 3 (.int .i64 (13 - He.fld s 0 2))).alloc (.cells #[.int .i64 (N : Int)] 3)
  have bN := Boxed.new (((w1.alloc (.cells #[.slice none 0 0] 22)).alloc (.cells #[.string ⟨s.toArray⟩] 9)).alloc (.cells #[.int .i64 (13 - He.fld s 0 2)] 3)) 3 (.int .i64 (N : Int))
  simp only [World.size_alloc] at bS bT bN
  have hB0 : Lo w ((((w1.alloc (.cells #[.slice none 0 0] 22)).alloc (.cells #[.string ⟨s.toArray⟩] 9)).alloc (.cells #[.int .i64 (13 - He.fld s 0 2)] 3)).alloc (.cells #[.int .i64 (N : Int)] 3)) := (((lo1.alloc _).alloc _).alloc _).alloc _
  have hsz : ((((w1.alloc (.cells #[.slice none 0 0] 22)).alloc (.cells #[.string ⟨s.toArray⟩] 9)).alloc (.cells #[.int .i64 (13 - He.fld s 0 2)] 3)).alloc (.cells #[.int .i64 (N : Int)] 3)).heap.size = w1.heap.size + 4 := by simp
  obtain ⟨W0, hW0⟩ : ∃ W0, (((w1.alloc (.cells #[.slice none 0 0] 22)).alloc (.cells #[.string ⟨s.toArray⟩] 9)).alloc (.cells #[.int .i64 (13 - He.fld s 0 2)] 3)).alloc (.cells #[.int .i64 (N : Int)] 3) = W0 := ⟨_, rfl⟩
  have hw1 := lo1.size
  rw [hW0] at bA bS bT bN hB0 hsz ⊢
  clear hW0 lo1
  have hst := groups_stops w.heap.size (w1.heap.size + 1) w1.heap.size s N hN6 hlen hl (w1.heap.size + 1 + 2) (w1.heap.size + 1) (w1.heap.size + 1 + 1) W0 (by omega) bA bN bS bT (by omega) (by omega) 8
  have hIo : OwnFrom W0.heap.size (fun (pre : List Ch.Span) W => (∃ v, Boxed W w1.heap.size 22 v ∧ W.ownsRow w.heap.size 36 4 v pre.length (pre.flatMap encS) ∧ True) ∧ Below w.heap.size w W) :=
    OwnFrom.and (Own.from (holdsRow_own w.heap.size w1.heap.size 22 36 4 (fun (pre : List Ch.Span) => pre.length) (fun pre => pre.flatMap encS) (fun _ _ => True)) _) (ownFrom_below (Nat.le_refl _) (by omega))
  refine wpIn_rangeFunc_ownH rfl (by omega) (gf := 37) (lb := #[.pointer (some ⟨w1.heap.size + 1 + 2, 0, none⟩), .pointer (some ⟨w1.heap.size + 1, 0, none⟩), .pointer (some ⟨w1.heap.size + 1 + 1, 0, none⟩)]) rfl trivial (enters_of Try.func37 (by kernel_rfl) rfl)
    hst kpS_t (kpS_b (by omega) (by omega)) (Below.refl _ _) (fun _ => rfl) _ (fun _ _ _ => False) hIo (fun _ _ _ _ _ hs _ _ => hs)
    ⟨⟨_, bA, World.ownsRow_nil _ _ _ _, trivial⟩, hB0⟩
    (fun x a' W => ∃ Bx, Four W Bx x ∧ a' = { tmps := #[.string ⟨s.toArray⟩, undef, .slice none 0 0, .int .i64 0, .int .i64 (13 - He.fld s 0 2), .int .i64 (N : Int), .int .i64 0, .pointer (some ⟨w1.heap.size, 0, none⟩), .pointer (some ⟨Bx, 0, none⟩),
        .tuple #[.int .i64 (13 - He.fld s 0 2), .int .i64 (N : Int), .int .i64 0], .string ⟨s.toArray⟩, .tuple #[.int .i64 (13 - He.fld s 0 2), .int .i64 (N : Int), .int .i64 0], .int .i64 (13 - He.fld s 0 2), .int .i64 (N : Int), .int .i64 0, .int .i64 0, .bool false, undef, .string ⟨s.toArray⟩, .int .i64 (13 - He.fld s 0 2), .int .i64 (N : Int),
        .func (.func 37) #[] #[.pointer (some ⟨w1.heap.size + 1 + 2, 0, none⟩), .pointer (some ⟨w1.heap.size + 1, 0, none⟩), .pointer (some ⟨w1.heap.size + 1 + 1, 0, none⟩)], aggS x, undef, undef, undef, undef, undef, undef, undef, undef], defers := [] })
    (fun x a' _ X Y row hs hg hr => by obtain ⟨Bx, h2, h3⟩ := hs; exact ⟨Bx, four_own Bx x h2 hg (fun r e => (hr r e).2), h3⟩)
    ?assign ?body ?done ?stop
  case assign =>
    rintro l' pre x W K hI hK
    have hws : w.heap.size ≤ W.heap.size := hI.2.size
    have hI' := hIo.alloc (.cells #[.int .i64 x.fr, .int .i64 x.to, .int .i64 x.gl, .int .i64 x.st] 36) hI
    have hK' := Lib.hid (fun a' => hK a' (W.alloc (.cells #[.int .i64 x.fr, .int .i64 x.to, .int .i64 x.gl, .int .i64 x.st] 36)) ((KeepsOthers.alloc _ _).from _) (KpS.alloc hws _) hI')
    clear hK
    unfold aggS
    gi_wp2
    exact hK'.out _ ⟨W.heap.size, new_block W _, rfl⟩
  case body =>
    rintro l' pre x a' W hl' ⟨r, hr⟩ ⟨⟨v, hv, hrow, -⟩, hBe⟩ ⟨Bx, bX, rfl⟩ hlt
    obtain ⟨pv, cv, rfl⟩ := OwnK.form (enc := encS) (l := pre) hrow
    obtain ⟨⟨x0, x1, x2, x3⟩, -⟩ := four_at (show W.heap[Bx]? = _ from bX)
    have cA := hv.cell
    have h1' : 1 ≤ 9 - 1 - 1 := by omega
    obtain ⟨i0, hi0, hz0, hz1, hz2⟩ := info_parts api_info
    gi_wp2_with (gi_at_builtin; refine wpListIn_append_own_at _ rfl _ _ 22 rfl w.heap.size 36 i0 (.agg #[.int .i64 0, .int .i64 0, .int .i64 0, .int .i64 0]) 4 32 Try.underlying22 hi0 hz0 hz1 hz2 rfl (by decide) _ _ _ rfl (hrow.alloc _) ⟨W.heap.size, 0, none⟩ 1 1 (encS x) rfl rfl (four_new W x 36) (encS_one x) (by unfold maxLen; omega) (by omega) (by have := hBe.size; simp; omega) ?_; intro v' w2 hown' hgrow _ hat; obtain ⟨g', cap', rfl⟩ := ownsRow_succ hown'; obtain ⟨hv1, hv2, hr2, hk2, hb2⟩ := hv.appended (by decide) hrow hBe.size (by omega) hown' hgrow; have hKp := Lib.hid (KpS.grown (n₁ := w1.heap.size + 1) hv (by decide) hrow hBe.size (by omega) (by omega) hown' hgrow hat); have hc1 := hv1.cell; have hf1 := hv1.frozen)
    exact ⟨hk2.from _, hKp.out, ⟨_, hv2, by rw [List.length_append, List.flatMap_append, List.flatMap_singleton]; exact hr2, trivial⟩, Below.trans hBe hb2⟩
  case done =>
    rintro D ys W hD hys ⟨⟨v, hv, hrow, -⟩, hBe⟩ hK
    rw [← hys] at HGt
    clear hys hcl hst hIo
    obtain ⟨pv, cv, rfl⟩ := OwnK.form (enc := encS) hrow
    have hS : SRow W (.slice pv ys.length cv) ys := OwnK.row encS_len hrow
    have HIs := Lib.hid (cis_any _ _ _ hS)
    have HS := Lib.hid hS
    have cA := hv.cell
    have hDl := (Array.getElem?_eq_some_iff.1 hK).1
    have HK := Lib.hid (fun W' (h : Lo W W') => (h.block D hDl).trans hK)
    have HC := Lib.hid (fun W' (h : Lo W W') => (Below.cell h (p := ⟨w1.heap.size, 0, none⟩) hv.lt).trans cA)
    have HBe := Lib.hid (fun W' (h : Lo W W') => Below.trans hBe (h.mono hBe.size))
    clear hS hrow hv hK hDl hBe
    by_cases hi : Ch.isL ys = true
    · rw [hi] at HIs HGt
      rw [if_pos rfl] at HGt
      clear hi
      gi_wp2_with (gi_at_call 17; refine (callsIn_wide.2 HIs.out).mono ?_; rintro e w2 ⟨rfl, lo2⟩; have cA3 := HC.out _ lo2)
      have hK' := HK.out _ lo2
      refine ⟨by simp, .inl ⟨_, _, rfl, run_takeDeferred hK', ?_⟩⟩
      refine ⟨.tuple #[.slice pv ys.length cv, .int .i64 0], ?_, ?_⟩
      · simp [results, Try.f8, go_sem]
      · rw [HGt.out]
        exact ⟨_, _, rfl, row_put (RowK.lo HS.out lo2) (.deferred none) hK' rfl, (HBe.out _ lo2).trans (belowK_b (w := w) (Nat.le_refl _) _ D _ _ (by omega) hK' rfl rfl)⟩
    · have hi' : Ch.isL ys = false := by simpa using hi
      rw [hi'] at HIs HGt
      rw [if_neg (by simp)] at HGt
      clear hi hi'
      gi_wp2_with (gi_at_call 17; refine (callsIn_wide.2 HIs.out).mono ?_; rintro e w2 ⟨rfl, lo2⟩; have cA3 := HC.out _ lo2)
      have hK' := HK.out _ lo2
      refine ⟨by simp, .inl ⟨_, _, rfl, run_takeDeferred hK', ?_⟩⟩
      refine ⟨.tuple #[.slice none 0 0, .int .i64 5], ?_, ?_⟩
      · simp [results, Try.f8, go_sem]
      · rw [HGt.out]
        exact GotSp.nil rfl ((HBe.out _ lo2).trans (belowK_b (w := w) (Nat.le_refl _) _ D _ _ (by omega) hK' rfl rfl))
  case stop =>
    rintro D c' pre W hD hpre h hK
    exact h.elim

/-- group.Get. -/
theorem gget_any (s : List UInt8) (w : World) (hl : s.length ≤ 9223372036854775807) : Calls Try.prog 8 #[.string ⟨s.toArray⟩] w fun e w' => GotSp (Gp.get s) w e w' := by
  by_cases h : Gp.rerr s = 0
  · exact gget_ok s w hl h
  · rw [Gp.get_rerr h]; exact gget_no s w hl h
end Go.Proofs.Ytnlifmedkkboaaa
