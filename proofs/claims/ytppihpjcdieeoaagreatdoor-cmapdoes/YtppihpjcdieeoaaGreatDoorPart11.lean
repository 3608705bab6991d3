/-
  Facts that the walks rest on: GrGet, CmBest. No conditions beyond those stated.
-/
import Derived.Test.YtppihpjcdieeoaaGreatDoorPart09
import Derived.Test.YtppihpjcdieeoaaGreatDoorGrSplit
import Derived.Test.YtppihpjcdieeoaaGreatDoorGround
import Derived.Test.YtppihpjcdieeoaaGreatDoorPart01
import Derived.Lib.LaidTab
import Derived.Laws.EntriesVeiled
/-
  The contract of group.Get. No conditions beyond those stated.
-/
namespace Gp
open Bn He Ch Sg
theorem rows_len (s : List UInt8) : (rows s).length = (long s 12).toNat := by unfold rows; simp
end Gp
namespace Go.Proofs.YtppihpjcdieeoaaGreatDoor
open Go.RowKit Go.Shelf
attribute [local go_sem] Oper.semAt_some wide_fn wide_depth
theorem come_rows (s : List UInt8) : come s (Gp.long s 12).toNat = Gp.rows s := rfl

/-- A row lies as it lay where a block that is no cells is turned. -/
theorem row_put {w : World} {v : Value} {l : List Ch.Span} (h : SRow w v l) {D : Nat} {o : Obj} (o' : Obj) (hk : w.heap[D]? = some o) (hc : o.isCells = false) : SRow (w.putObj D o') v l := by
  rcases h with h | ⟨b, off, cap, rfl, h2, h2b, h3, h4⟩
  · exact .inl h
  · refine .inr ⟨b, off, cap, rfl, h2, h2b, by simpa using h3, fun i x hi j hj => ?_⟩
    obtain ⟨u, hu⟩ : ∃ u, (encS x)[j]? = some u := ⟨_, List.getElem?_eq_getElem (by rw [encS_len]; exact hj)⟩
    rw [hu]
    exact cell_kept ((h4 i x hi j hj).trans hu) (grownBy_putObj' w D o') (fun r e => by cases e; exact ⟨o, hk, hc⟩)

set_option maxHeartbeats 800000 in
theorem gget_no (s : List UInt8) (w : World) (hl : s.length ≤ 9223372036854775807) (h : Gp.rerr s ≠ 0) : Calls Tryz.prog 52 #[.string ⟨s.toArray⟩] w fun e w' => GotSp ([], Gp.rerr s) w e w' := by
  have HR := Lib.hid (gread_any s w hl)
  unfold readEnd noGroups at HR
  rw [if_neg h] at HR
  generalize Gp.rerr s = z at *
  have hz : (z != 0) = true := by simpa using h
  go_enter Tryz.func52, Tryz.ntmps52
  go_wp2_with fail
  refine HR.out.mono ?_
  rintro e w1 ⟨rfl, lo⟩
  have HL := Lib.hid lo
  clear lo HR
  go_wp2_with fail
  go_ret2
  exact GotSp.nil rfl HL.out

set_option maxRecDepth 100000 in
set_option maxHeartbeats 800000 in
theorem gget_ok (s : List UInt8) (w : World) (hl : s.length ≤ 9223372036854775807) (h : Gp.rerr s = 0) : Calls Tryz.prog 52 #[.string ⟨s.toArray⟩] w fun e w' => GotSp (Gp.get s) w e w' := by
  have HR := Lib.hid (gread_any s w hl)
  unfold readEnd noGroups at HR
  rw [if_pos h] at HR
  obtain ⟨hg, h16, h12, h65, hlen⟩ := Gp.get_rok h
  have hb12 := Gp.long_bound s 12
  rw [Gp.rows_len] at hlen
  obtain ⟨N, hN⟩ : ∃ N, (Gp.long s 12).toNat = N := ⟨_, rfl⟩
  have hNi : Gp.long s 12 = (N : Int) := by omega
  have hrows : come s N = Gp.rows s := by rw [← hN]; exact come_rows s
  rw [hNi] at HR
  rw [hN] at hlen
  rw [← hrows] at hg
  have HGt := Lib.hid hg
  have hN6 : N ≤ 65536 := by omega
  have hcl : (come s N).length = N := by simp [come]
  refine (callsIn_wide (n := 9)).1 ?_
  refine callsIn_of_wp_marks Tryz.func52 rfl trivial ?_ rfl
  simp only [Tryz.ntmps52, List.size_toArray, List.length_cons, List.length_nil, Nat.reduceAdd, Nat.reduceSub, Array.replicate_succ, Array.replicate_zero, List.push_toArray, List.append_toArray, List.nil_append, List.cons_append]
  clear hg hrows hN hNi h h16 h12 h65 hb12
  gi_wp2_with (first | (gi_at_call 98; refine (callsIn_wide.2 HR.out).mono ?_; rintro e w1 ⟨rfl, lo1⟩) | (gi_at_call 99; refine (groups_make _ _ _ _ _).mono ?_; rintro e w' ⟨rfl, rfl⟩))
  have bA := (((Boxed.new w1 22 (.slice none 0 0)).alloc (.cells #[.string ⟨s.toArray⟩] 9)).alloc (.cells #[.int .i64 (13 - He.fld s 0 2)] 3)).alloc (.cells #[.int .i64 (N : Int)] 3)
  have bS := ((Boxed.new (w1.alloc (.cells #[.slice none 0 0] 22)) 9 (.string ⟨s.toArray⟩)).alloc (.cells #[.int .i64 (13 - He.fld s 0 2)] 3)).alloc (.cells #[.int .i64 (N : Int)] 3)
  have bT := (Boxed.new ((w1.alloc (.cells #[.slice none 0 0] 22)).alloc (.cells #[.string ⟨s.toArray⟩] 9)) 3 (.int .i64 (13 - He.fld s 0 2))).alloc (.cells #[.int .i64 (N : Int)] 3)
  have bN := Boxed.new (((w1.alloc (.cells #[.slice none 0 0] 22)).alloc (.cells #[.string ⟨s.toArray⟩] 9)).alloc (.cells #[.int .i64 (13 - He.fld s 0 2)] 3)) 3 (.int .i64 (N : Int))
  simp only [World.size_alloc] at bS bT bN
  have hB0 : Lo w ((((w1.alloc (.cells #[.slice none 0 0] 22)).alloc (.cells #[.string ⟨s.toArray⟩] 9)).alloc (.cells #[.int .i64 (13 - He.fld s 0 2)] 3)).alloc (.cells #[.int .i64 (N : Int)] 3)) := (((lo1.alloc _).alloc _).alloc _).alloc _
  have hsz : ((((w1.alloc (.cells #[.slice none 0 0] 22)).alloc (.cells #[.string ⟨s.toArray⟩] 9)).alloc (.cells #[.int .i64 (13 - He.fld s 0 2)] 3)).alloc (.cells #[.int .i64 (N : Int)] 3)).heap.size = w1.heap.size + 4 := by simp
  obtain ⟨W0, hW0⟩ : ∃ W0, (((w1.alloc (.cells #[.slice none 0 0] 22)).alloc (.cells #[.string ⟨s.toArray⟩] 9)).alloc (.cells #[.int .i64 (13 - He.fld s 0 2)] 3)).alloc (.cells #[.int .i64 (N : Int)] 3) = W0 := ⟨_, rfl⟩
  have hw1 := lo1.size
  rw [hW0] at bA bS bT bN hB0 hsz ⊢
  clear hW0 lo1
  have hst := groups_stops w.heap.size (w1.heap.size + 1) w1.heap.size s N hN6 hlen hl (w1.heap.size + 1 + 2) (w1.heap.size + 1) (w1.heap.size + 1 + 1) W0 (by omega) bA bN bS bT (by omega) (by omega) 8
  have hIo : OwnFrom W0.heap.size (fun (pre : List Ch.Span) W => (∃ v, Boxed W w1.heap.size 22 v ∧ W.ownsRow w.heap.size 63 4 v pre.length (pre.flatMap encS) ∧ True) ∧ Below w.heap.size w W) :=
    OwnFrom.and (Own.from (holdsRow_own w.heap.size w1.heap.size 22 63 4 (fun (pre : List Ch.Span) => pre.length) (fun pre => pre.flatMap encS) (fun _ _ => True)) _) (ownFrom_below (Nat.le_refl _) (by omega))
  refine wpIn_rangeFunc_ownH rfl (by omega) (gf := 133) (lb := #[.pointer (some ⟨w1.heap.size + 1 + 2, 0, none⟩), .pointer (some ⟨w1.heap.size + 1, 0, none⟩), .pointer (some ⟨w1.heap.size + 1 + 1, 0, none⟩)]) rfl trivial (enters_of Tryz.func133 (by kernel_rfl) rfl)
    hst kpS_t (kpS_b (by omega) (by omega)) (Below.refl _ _) (fun _ => rfl) _ (fun _ _ _ => False) hIo (fun _ _ _ _ _ hs _ _ => hs)
    ⟨⟨_, bA, World.ownsRow_nil _ _ _ _, trivial⟩, hB0⟩
    (fun x a' W => ∃ Bx, Four W Bx x ∧ a' = { tmps := #[.string ⟨s.toArray⟩, undef, .slice none 0 0, .int .i64 0, .int .i64 (13 - He.fld s 0 2), .int .i64 (N : Int), .int .i64 0, .pointer (some ⟨w1.heap.size, 0, none⟩), .pointer (some ⟨Bx, 0, none⟩),
        .tuple #[.int .i64 (13 - He.fld s 0 2), .int .i64 (N : Int), .int .i64 0], .string ⟨s.toArray⟩, .tuple #[.int .i64 (13 - He.fld s 0 2), .int .i64 (N : Int), .int .i64 0], .int .i64 (13 - He.fld s 0 2), .int .i64 (N : Int), .int .i64 0, .int .i64 0, .bool false, undef, .string ⟨s.toArray⟩, .int .i64 (13 - He.fld s 0 2), .int .i64 (N : Int),
        .func (.func 133) #[] #[.pointer (some ⟨w1.heap.size + 1 + 2, 0, none⟩), .pointer (some ⟨w1.heap.size + 1, 0, none⟩), .pointer (some ⟨w1.heap.size + 1 + 1, 0, none⟩)], aggS x, undef, undef, undef, undef, undef, undef, undef, undef], defers := [] })
    (fun x a' _ X Y row hs hg hr => by obtain ⟨Bx, h2, h3⟩ := hs; exact ⟨Bx, four_own Bx x h2 hg (fun r e => (hr r e).2), h3⟩)
    ?assign ?body ?done ?stop
  case assign =>
    rintro l' pre x W K hI hK
    have hws : w.heap.size ≤ W.heap.size := hI.2.size
    have hI' := hIo.alloc (.cells #[.int .i64 x.fr, .int .i64 x.to, .int .i64 x.gl, .int .i64 x.st] 63) hI
    have hK' := Lib.hid (fun a' => hK a' (W.alloc (.cells #[.int .i64 x.fr, .int .i64 x.to, .int .i64 x.gl, .int .i64 x.st] 63)) ((KeepsOthers.alloc _ _).from _) (KpS.alloc hws _) hI')
    clear hK
    unfold aggS
    gi_wp2
    exact hK'.out _ ⟨W.heap.size, new_block W _, rfl⟩
  case body =>
    rintro l' pre x a' W hl' ⟨r, hr⟩ ⟨⟨v, hv, hrow, -⟩, hBe⟩ ⟨Bx, bX, rfl⟩ hlt
    obtain ⟨pv, cv, rfl⟩ := OwnK.form (enc := encS) (l := pre) hrow
    obtain ⟨⟨x0, x1, x2, x3⟩, -⟩ := four_at (show W.heap[Bx]? = _ from bX)
    have cA := hv.cell
    have h1' : 1 ≤ 9 - 1 - 1 := by omega
    obtain ⟨i0, hi0, hz0, hz1, hz2⟩ := info_parts api_info
    gi_wp2_with (gi_at_builtin; refine wpListIn_append_own_at _ rfl _ _ 22 rfl w.heap.size 63 i0 (.agg #[.int .i64 0, .int .i64 0, .int .i64 0, .int .i64 0]) 4 32 Tryz.underlying22 hi0 hz0 hz1 hz2 rfl (by decide) _ _ _ rfl (hrow.alloc _) ⟨W.heap.size, 0, none⟩ 1 1 (encS x) rfl rfl (four_new W x 63) (encS_one x) (by unfold maxLen; omega) (by omega) (by have := hBe.size; simp; omega) ?_; intro v' w2 hown' hgrow _ hat; obtain ⟨g', cap', rfl⟩ := ownsRow_succ hown'; obtain ⟨hv1, hv2, hr2, hk2, hb2⟩ := hv.appended (by decide) hrow hBe.size (by omega) hown' hgrow; have hKp := Lib.hid (KpS.grown (n₁ := w1.heap.size + 1) hv (by decide) hrow hBe.size (by omega) (by omega) hown' hgrow hat); have hc1 := hv1.cell; have hf1 := hv1.frozen)
    exact ⟨hk2.from _, hKp.out, ⟨_, hv2, by rw [List.length_append, List.flatMap_append, List.flatMap_singleton]; exact hr2, trivial⟩, Below.trans hBe hb2⟩
  case done =>
    rintro D ys W hD hys ⟨⟨v, hv, hrow, -⟩, hBe⟩ hK
    rw [← hys] at HGt
    clear hys hcl hst hIo
    obtain ⟨pv, cv, rfl⟩ := OwnK.form (enc := encS) hrow
    have hS : SRow W (.slice pv ys.length cv) ys := OwnK.row encS_len hrow
    have HIs := Lib.hid (cis_any _ _ _ hS)
    have HS := Lib.hid hS
    have cA := hv.cell
    have hDl := (Array.getElem?_eq_some_iff.1 hK).1
    have HK := Lib.hid (fun W' (h : Lo W W') => (h.block D hDl).trans hK)
    have HC := Lib.hid (fun W' (h : Lo W W') => (Below.cell h (p := ⟨w1.heap.size, 0, none⟩) hv.lt).trans cA)
    have HBe := Lib.hid (fun W' (h : Lo W W') => Below.trans hBe (h.mono hBe.size))
    clear hS hrow hv hK hDl hBe
    by_cases hi : Ch.isL ys = true
    · rw [hi] at HIs HGt
      rw [if_pos rfl] at HGt
      clear hi
      gi_wp2_with (gi_at_call 20; refine (callsIn_wide.2 HIs.out).mono ?_; rintro e w2 ⟨rfl, lo2⟩; have cA3 := HC.out _ lo2)
      have hK' := HK.out _ lo2
      refine ⟨by simp, .inl ⟨_, _, rfl, run_takeDeferred hK', ?_⟩⟩
      refine ⟨.tuple #[.slice pv ys.length cv, .int .i64 0], ?_, ?_⟩
      · simp [results, Tryz.f52, go_sem]
      · rw [HGt.out]
        exact ⟨_, _, rfl, row_put (RowK.lo HS.out lo2) (.deferred none) hK' rfl, (HBe.out _ lo2).trans (belowK_b (w := w) (Nat.le_refl _) _ D _ _ (by omega) hK' rfl rfl)⟩
    · have hi' : Ch.isL ys = false := by simpa using hi
      rw [hi'] at HIs HGt
      rw [if_neg (by simp)] at HGt
      clear hi hi'
      gi_wp2_with (gi_at_call 20; refine (callsIn_wide.2 HIs.out).mono ?_; rintro e w2 ⟨rfl, lo2⟩; have cA3 := HC.out _ lo2)
      have hK' := HK.out _ lo2
      refine ⟨by simp, .inl ⟨_, _, rfl, run_takeDeferred hK', ?_⟩⟩
      refine ⟨.tuple #[.slice none 0 0, .int .i64 5], ?_, ?_⟩
      · simp [results, Tryz.f52, go_sem]
      · rw [HGt.out]
        exact GotSp.nil rfl ((HBe.out _ lo2).trans (belowK_b (w := w) (Nat.le_refl _) _ D _ _ (by omega) hK' rfl rfl))
  case stop =>
    rintro D c' pre W hD hpre h hK
    exact h.elim

/-- group.Get. -/
theorem gget_any (s : List UInt8) (w : World) (hl : s.length ≤ 9223372036854775807) : Calls Tryz.prog 52 #[.string ⟨s.toArray⟩] w fun e w' => GotSp (Gp.get s) w e w' := by
  by_cases h : Gp.rerr s = 0
  · exact gget_ok s w hl h
  · rw [Gp.get_rerr h]; exact gget_no s w hl h
end Go.Proofs.YtppihpjcdieeoaaGreatDoor
/-
  The contract of cmap.Best, over the row of ranked ids that the program lays. Condition: that row lies as it was laid.
-/
namespace Go.Proofs.YtppihpjcdieeoaaGreatDoor
open Go.RowKit

/-- The ids that have a rank, one number behind another. -/
def ranks : List Int := [1, 0, 0, 0, 0, 1, 0, 2, 0, 3, 3, 1, 0, 4, 0, 6, 3, 10]
def aggRanks : Value := .agg #[.int .i64 1, .int .i64 0, .int .i64 0, .int .i64 0, .int .i64 0, .int .i64 1, .int .i64 0, .int .i64 2, .int .i64 0, .int .i64 3, .int .i64 3, .int .i64 1, .int .i64 0, .int .i64 4, .int .i64 0, .int .i64 6, .int .i64 3, .int .i64 10]
/-- They lie where the program laid them, whatever is made later. -/
def RTab (w : World) : Prop := Lib.TabIs Tryz.prog w "vinculum/cmap.ranked" .i64 ranks
theorem RTab.lo {w w' : World} (h : RTab w) (l : Lo w w') : RTab w' := by
  unfold RTab Lib.TabIs World.var? at *
  cases hg : Tryz.prog.globalNamed "vinculum/cmap.ranked" with
  | none => rw [hg] at h; simp at h
  | some g =>
    rw [hg] at h
    simp only [Option.bind_some] at h ⊢
    have hlt : g < w.heap.size := by
      by_cases hg : g < w.heap.size
      · exact hg
      · rw [Array.getElem?_eq_none (by omega)] at h; simp at h
    rw [l.block g hlt]
    exact h
theorem RTab.at_ {w : World} (h : RTab w) (i : Nat) (hi : i < 18) : w.cell? ⟨0, i, none⟩ = some (.int .i64 (ranks.getD i 0)) :=
  Lib.TabIs.cell h (by kernel_rfl) i hi

theorem ranks_at (i : Nat) (hi : i < 9) (W : World) : ∃ a b, Cm.bests[i]? = some (a, b) ∧ (Instr.index 64 aggRanks (.int .i64 i)).run Tryz.prog W = .ok (.agg #[.int .i64 a, .int .i64 b]) W := by
  obtain rfl | rfl | rfl | rfl | rfl | rfl | rfl | rfl | rfl : i = 0 ∨ i = 1 ∨ i = 2 ∨ i = 3 ∨ i = 4 ∨ i = 5 ∨ i = 6 ∨ i = 7 ∨ i = 8 := by omega
  all_goals
    refine ⟨_, _, rfl, ?_⟩
    unfold aggRanks
    simp [Instr.index, run_underlying Tryz.underlying64, asIntOf, go_sem]

set_option maxRecDepth 100000 in
set_option maxHeartbeats 1600000 in
theorem best_any (p q : Int) (w : World) (ht : RTab w) : Calls Tryz.prog 18 #[.int .i64 p, .int .i64 q] w fun e w' => e = .returned (.int .i64 (Cm.best p q : Int)) ∧ Lo w w' := by
  have HR := Lib.hid (fun (i : Nat) (hi : i < 9) => ranks_at i hi)
  have c0 := ht.at_ 0 (by omega)
  have c1 := ht.at_ 1 (by omega)
  have c2 := ht.at_ 2 (by omega)
  have c3 := ht.at_ 3 (by omega)
  have c4 := ht.at_ 4 (by omega)
  have c5 := ht.at_ 5 (by omega)
  have c6 := ht.at_ 6 (by omega)
  have c7 := ht.at_ 7 (by omega)
  have c8 := ht.at_ 8 (by omega)
  have c9 := ht.at_ 9 (by omega)
  have c10 := ht.at_ 10 (by omega)
  have c11 := ht.at_ 11 (by omega)
  have c12 := ht.at_ 12 (by omega)
  have c13 := ht.at_ 13 (by omega)
  have c14 := ht.at_ 14 (by omega)
  have c15 := ht.at_ 15 (by omega)
  have c16 := ht.at_ 16 (by omega)
  have c17 := ht.at_ 17 (by omega)
  simp only [ranks, List.getD_cons_zero, List.getD_cons_succ] at c0 c1 c2 c3 c4 c5 c6 c7 c8 c9 c10 c11 c12 c13 c14 c15 c16 c17
  have HB := Lib.hid (fun (i : Nat) (x : Int × Int) (h : Cm.bests[i]? = some x) (h1 : x.1 = p) (h2 : x.2 = q) (h3 : ∀ k y, k < i → Cm.bests[k]? = some y → ¬ (y.1 = p ∧ y.2 = q)) => Cm.best_hit h h1 h2 h3)
  have HN : Hid ((∀ k y, k < 9 → Cm.bests[k]? = some y → ¬ (y.1 = p ∧ y.2 = q)) → Cm.best p q = 0) := Lib.hid (fun h => Cm.best_none fun y hy => by
    obtain ⟨k, hk⟩ := List.getElem?_of_mem hy
    exact h k y (by have := (List.getElem?_eq_some_iff.1 hk).1; simpa [Cm.bests] using this) hk)
  generalize Cm.best p q = z at *
  clear ht
  unfold aggRanks at HR
  go_enter Tryz.func18, Tryz.ntmps18
  go_wp2_with fail
  clear c0 c1 c2 c3 c4 c5 c6 c7 c8 c9 c10 c11 c12 c13 c14 c15 c16 c17
  go_loopw [8] (fun s8 W => ∃ i : Nat, s8 = .int .i64 i ∧ i ≤ 9 ∧ Hid (∀ k y, k < i → Cm.bests[k]? = some y → ¬ (y.1 = p ∧ y.2 = q)) ∧ Hid (Lo w W)) (fun s8 _ => 9 - (intOf s8).toNat)
  case atStart => exact ⟨0, rfl, by omega, Lib.hid (fun k y hk => by omega), Lib.hid (Lo.refl _)⟩
  case round =>
    obtain ⟨i, rfl, hi, HI, HL⟩ := hrel
    by_cases hlt : i < 9
    · obtain ⟨a, b, hab, hx⟩ := HR.out i hlt wr
      have HAB := Lib.hid hab
      clear hab HR
      by_cases h1 : a = p
      · by_cases h2 : b = q
        · have HE := Lib.hid (HB.out i _ HAB.out h1 h2 HI.out)
          subst h1 h2
          clear HB HN HI
          go_wp2_with fail
          go_ret
          exact ⟨ret_int (by rw [HE.out]; simp), HL.out.alloc _⟩
        · have HI2 : Hid (∀ k y, k < i + 1 → Cm.bests[k]? = some y → ¬ (y.1 = p ∧ y.2 = q)) := Lib.hid (fun k y hk hy => by
            by_cases c : k < i
            · exact HI.out k y c hy
            · obtain rfl : k = i := by omega
              rw [HAB.out] at hy; cases hy; exact fun h => h2 h.2)
          clear HB HN HI
          go_wp2_with fail
          go_roundw
          case rel => exact ⟨i + 1, by go_num, by omega, HI2, Lib.hid (HL.out.alloc _)⟩
          case measure => simp [intOf]; omega
      · have HI2 : Hid (∀ k y, k < i + 1 → Cm.bests[k]? = some y → ¬ (y.1 = p ∧ y.2 = q)) := Lib.hid (fun k y hk hy => by
          by_cases c : k < i
          · exact HI.out k y c hy
          · obtain rfl : k = i := by omega
            rw [HAB.out] at hy; cases hy; exact fun h => h1 h.1)
        clear HB HN HI
        go_wp2_with fail
        go_roundw
        case rel => exact ⟨i + 1, by go_num, by omega, HI2, Lib.hid (HL.out.alloc _)⟩
        case measure => simp [intOf]; omega
    · obtain rfl : i = 9 := by omega
      have HE := Lib.hid (HN.out HI.out)
      clear HB HN HI HR
      go_wp2_with fail
      go_ret
      exact ⟨ret_int (by rw [HE.out]; rfl), HL.out⟩
end Go.Proofs.YtppihpjcdieeoaaGreatDoor
