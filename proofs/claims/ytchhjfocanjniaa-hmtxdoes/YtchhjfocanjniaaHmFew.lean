/-
  The contracts of hmtx.fromLast (metrics are visited from the last one) and hmtx.fewest (the least number of metrics that will do). No conditions beyond those stated.
-/
import Derived.Test.YtchhjfocanjniaaHmBase
import Derived.RangeFuncNested
import Derived.RangeFuncBound
import Derived.RangeFuncCalls
import Derived.RangeFuncLeaves
import Derived.Shelf.Abstract
import Derived.Shelf.RegionOpen
import Derived.OwnWalkIn
import Derived.TacticsInMore
import Derived.LoopNIn
import Derived.LoopIn
namespace Go.Proofs.Ytchhjfocanjniaa
open Go.RowKit Go.Shelf
attribute [local go_sem] Oper.semAt_some

/-- What comes first, second, ..: from the last one. -/
def fromEnd (ms : List Hm.Metric) (j : Nat) : Nat × Hm.Metric := (ms.length - 1 - j, Hm.at0 ms (ms.length - 1 - j))
def come (ms : List Hm.Metric) (k : Nat) : List (Nat × Hm.Metric) := (List.range k).map (fromEnd ms)
theorem come_succ (ms : List Hm.Metric) (k : Nat) : come ms (k + 1) = come ms k ++ [fromEnd ms k] := by simp [come, List.range_succ]
theorem come_len (ms : List Hm.Metric) (k : Nat) : (come ms k).length = k := by simp [come]
def encP (x : Nat × Hm.Metric) : Array Value := #[.int .i64 (x.1 : Int), .agg #[.int .i64 x.2.1, .int .i64 x.2.2]]
theorem at0_some {ms : List Hm.Metric} {i : Nat} (h : i < ms.length) : ms[i]? = some (Hm.at0 ms i) := by simp [Hm.at0, List.getD, List.getElem?_eq_getElem h]

set_option maxRecDepth 100000 in
set_option maxHeartbeats 2000000 in
theorem fromLast1_in (F : Fence) (n : Nat) (h7 : F.fn 42) (hro : F.round = none) (hn : 1 ≤ n) (l Bs n₀ : Nat) (p : Option Addr) (cap : Nat) (ms : List Hm.Metric) (hlen : ms.length ≤ 65535) (J Jx : List (Nat × Hm.Metric) → World → Prop)
    (hY : ∀ pre x W, J pre W → pre.length < ms.length → YieldAt F (n - 1) Try.prog l (encP x) W fun e W' =>
      (e = .returned (.bool true) ∧ J (pre ++ [x]) W' ∧ Below n₀ W W') ∨ (e = .returned (.bool false) ∧ Jx (pre ++ [x]) W'))
    (W : World) (hBn : Bs < n₀) (hBs : W.cell? ⟨Bs, 0, none⟩ = some (.slice p ms.length cap)) (hc : ∀ W', Below n₀ W W' → MRow W' (.slice p ms.length cap) ms) (h0 : J [] W) :
    CallsIn F n Try.prog 42 #[.func (.yield l) #[] #[], .pointer (some ⟨Bs, 0, none⟩)] W fun e W' => (∃ v, e = .returned v) ∧
      ((∃ ys, ys = come ms ms.length ∧ J ys W') ∨ (∃ pre, (∃ k, k ≤ ms.length ∧ pre = come ms k) ∧ Jx pre W')) := by
  have HC := Lib.hid hc
  have HBS := Lib.hid hBs
  generalize hN : ms.length = N at *
  have HN := Lib.hid hN
  clear hc hN
  refine callsIn_of_wp Try.func42 rfl h7 ?_ hro
  simp only [Try.ntmps42, List.size_toArray, List.length_cons, List.length_nil, Nat.reduceAdd, Nat.reduceSub, Array.replicate_succ, Array.replicate_zero, List.push_toArray, List.append_toArray, List.nil_append, List.cons_append]
  gi_wp2
  clear hBs
  gi_loopw [3] (fun i wr => ∃ (k : Nat) (z : Int), k ≤ N ∧ i = .int .i64 z ∧ Hid (z = (N : Int) - 1 - k) ∧ Hid (J (come ms k) wr) ∧ Hid (Below n₀ W wr))
    (fun i _ => (intOf i + 1).toNat)
  case atStart => exact ⟨0, _, Nat.zero_le _, rfl, Lib.hid (by omega), Lib.hid h0, Lib.hid (Below.refl _ _)⟩
  case round =>
    obtain ⟨k, z, hk, rfl, HZ, HJ, HX⟩ := hrel
    by_cases hlt : k < N
    · obtain ⟨q, rfl⟩ := Int.eq_ofNat_of_zero_le (show 0 ≤ z by have := HZ.out; omega)
      have hq : q < N := by have := HZ.out; omega
      have hx : ms[q]? = some (Hm.at0 ms q) := at0_some (by rw [HN.out]; exact hq)
      obtain ⟨b, off, rfl, hc1, hc2⟩ := MRow.at2 (HC.out _ HX.out) hx
      have HU : Hid (come ms (k + 1) = come ms k ++ [(q, Hm.at0 ms q)]) := Lib.hid (by
        rw [come_succ]
        unfold fromEnd
        rw [HN.out, show N - 1 - k = q by have := HZ.out; omega])
      clear hx
      generalize Hm.at0 ms q = x at *
      obtain ⟨x1, x2⟩ := x
      obtain ⟨fn, tmps, assign, body, hy, hR⟩ := hY _ (q, (x1, x2)) wr HJ.out (by rw [come_len]; exact hlt)
      unfold encP at hy
      dsimp only at hy hc1 hc2
      have hbx : wr.cell? ⟨Bs, 0, none⟩ = some (.slice (some ⟨b, off, none⟩) N cap) := (HX.out.cell (p := ⟨Bs, 0, none⟩) hBn).trans HBS.out
      gi_wp2
      refine hR.mono ?_
      rintro e W3 (⟨rfl, hJ3, hk3⟩ | ⟨rfl, hJx3⟩)
      · have HJ3 := Lib.hid hJ3
        have HK3 := Lib.hid hk3
        clear hJ3 hk3 hbx hc1 hc2 hy hR
        gi_wp2
        go_roundw
        case rel => exact ⟨k + 1, (q : Int) - 1, by omega, rfl, Lib.hid (by have := HZ.out; omega), Lib.hid (by rw [HU.out]; exact HJ3.out), Lib.hid (HX.out.trans HK3.out)⟩
        case measure => simp [intOf]
      · have HJ3 := Lib.hid hJx3
        clear hJx3 hbx hc1 hc2 hy hR
        gi_wp2
        refine bodyPost_ret (results_none rfl _ _ _) rfl ?_
        exact ⟨⟨_, rfl⟩, .inr ⟨_, ⟨k + 1, by omega, HU.out.symm⟩, HJ3.out⟩⟩
    · obtain rfl : k = N := by omega
      have hz : z < 0 := by have := HZ.out; omega
      gi_wp2
      go_end0
      exact ⟨⟨_, rfl⟩, .inl ⟨_, rfl, HJ.out⟩⟩

set_option maxHeartbeats 1000000 in
theorem fromLast_in (F : Fence) (n : Nat) (h5 : F.fn 36) (hro : F.round = none) (a : Option Addr) (len cap : Nat) (w : World) :
    CallsIn F n Try.prog 36 #[.slice a len cap] w fun e w' => e = .returned (.func (.func 42) #[] #[.pointer (some ⟨w.heap.size, 0, none⟩)]) ∧ w' = w.alloc (.cells #[.slice a len cap] 22) := by
  refine callsIn_of_wp Try.func36 rfl h5 ?_ hro
  simp only [Try.ntmps36, List.size_toArray, List.length_cons, List.length_nil, Nat.reduceAdd, Nat.reduceSub, Array.replicate_succ, Array.replicate_zero, List.push_toArray, List.append_toArray, List.nil_append, List.cons_append]
  gi_wp2
  go_ret
  exact ⟨rfl, rfl⟩

theorem fromLast_stops (F : Fence) (n : Nat) (h8 : F.fn 42) (hro : F.round = none) (hn : 1 ≤ n) (Bs : Nat) (p : Option Addr) (cap : Nat) (ms : List Hm.Metric) (hlen : ms.length ≤ 65535) (w : World) (hBs : Bs < w.heap.size)
    (hc : w.cell? ⟨Bs, 0, none⟩ = some (.slice p ms.length cap)) (hI : MRow w (.slice p ms.length cap) ms) :
    SeqStopsK F n Try.prog 42 #[.pointer (some ⟨Bs, 0, none⟩)] encP (Below w.heap.size) (fun ys => ys = come ms ms.length)
      (fun pre => ∃ k, k ≤ ms.length ∧ pre = come ms k) ms.length w := fun l J Jx W hW _ _ hY h0 =>
  fromLast1_in F n h8 hro hn l Bs w.heap.size p cap ms hlen J Jx hY W hBs ((hW.cell (p := ⟨Bs, 0, none⟩) hBs).trans hc) (fun _ hW' => RowK.lo hI (hW.trans hW')) h0

/-- A metric lies in a block of its own. -/
def Two (W : World) (B : Nat) (x : Hm.Metric) : Prop := W.heap[B]? = some (.cells #[.int .i64 x.1, .int .i64 x.2] 34 (0, 0))
theorem two_own (B : Nat) (x : Hm.Metric) {X Y : World} {row : Option Nat} (h : Two X B x) (hg : X.grownBy Y row) (hr : ∀ r, row = some r → ∃ o : Obj, X.heap[r]? = some o ∧ o.isCells = false) : Two Y B x := by
  refine (hg.block B (Array.getElem?_eq_some_iff.1 h).1 (fun e => ?_)).trans h
  obtain ⟨o, ho, hf⟩ := hr B e.symm
  rw [show X.heap[B]? = _ from h] at ho
  cases ho
  simp [Obj.isCells] at hf

set_option maxRecDepth 100000 in
set_option maxHeartbeats 2000000 in
theorem fewest_in (F : Fence) (n : Nat) (h4 : F.fn 20) (h6 : F.fn 36) (h8 : F.fn 42) (hro : F.round = none) (hn : 3 ≤ n) (b off cap N : Nat) (ms : List Hm.Metric) (adv : Int) (w : World)
    (hN1 : 1 ≤ N) (hN2 : N ≤ 65535) (hN : Hid (ms.length = N)) (hI : Hid (MRow w (.slice (some ⟨b, off, none⟩) N cap) ms)) (hA : Hid ((Hm.at0 ms (N - 1)).1 = adv)) (hcell : w.cell? ⟨b, off + (N - 1) * 2, none⟩ = some (.int .i64 adv)) (hb : b < w.heap.size) :
    CallsIn F n Try.prog 20 #[.slice (some ⟨b, off, none⟩) N cap] w fun e W' => e = .returned (.int .i64 (Hm.least ms)) ∧ Below w.heap.size w W' := by
  have h1 : 1 ≤ n := by omega
  have hlast : ((N : Int) - 1).toNat = N - 1 := by omega
  refine callsIn_of_wp_marks Try.func20 rfl h4 ?_ hro
  simp only [Try.ntmps20, List.size_toArray, List.length_cons, List.length_nil, Nat.reduceAdd, Nat.reduceSub, Array.replicate_succ, Array.replicate_zero, List.push_toArray, List.append_toArray, List.nil_append, List.cons_append]
  gi_wp2_with (gi_at_call 36; refine (fromLast_in F (n - 1) h6 hro _ _ _ _).mono ?_; rintro e w' ⟨rfl, rfl⟩)
  clear hlast hcell
  have bR := ((Boxed.new w 3 (.int .i64 0)).alloc (.cells #[.int .i64 adv] 3)).alloc (.cells #[.slice (some ⟨b, off, none⟩) N cap] 22)
  have bA := (Boxed.new (w.alloc (.cells #[.int .i64 0] 3)) 3 (.int .i64 adv)).alloc (.cells #[.slice (some ⟨b, off, none⟩) N cap] 22)
  have bL := Boxed.new ((w.alloc (.cells #[.int .i64 0] 3)).alloc (.cells #[.int .i64 adv] 3)) 22 (.slice (some ⟨b, off, none⟩) N cap)
  simp only [World.size_alloc] at bA bL
  have hB0 : Below w.heap.size w (((w.alloc (.cells #[.int .i64 0] 3)).alloc (.cells #[.int .i64 adv] 3)).alloc (.cells #[.slice (some ⟨b, off, none⟩) N cap] 22)) := (((Below.refl _ w).alloc (Nat.le_refl _) _).alloc (by simp) _).alloc (by simp; omega) _
  have hsz : (((w.alloc (.cells #[.int .i64 0] 3)).alloc (.cells #[.int .i64 adv] 3)).alloc (.cells #[.slice (some ⟨b, off, none⟩) N cap] 22)).heap.size = w.heap.size + 3 := by simp
  obtain ⟨W0, hW0⟩ : ∃ W0, ((w.alloc (.cells #[.int .i64 0] 3)).alloc (.cells #[.int .i64 adv] 3)).alloc (.cells #[.slice (some ⟨b, off, none⟩) N cap] 22) = W0 := ⟨_, rfl⟩
  rw [hW0] at bR bA bL hB0 hsz ⊢
  clear hW0
  have hst := fromLast_stops F (n - 1) h8 hro (by omega) (w.heap.size + 1 + 1) (some ⟨b, off, none⟩) cap ms (by rw [hN.out]; exact hN2) W0 (by omega) (by rw [hN.out]; exact bL.cell) (by rw [hN.out]; exact RowK.lo hI.out hB0)
  rw [hN.out] at hst
  refine wpIn_rangeFunc_ownH hro h1 (gf := 42) (lb := #[.pointer (some ⟨w.heap.size + 1 + 1, 0, none⟩)]) rfl h8 (enters_of Try.func42 (by kernel_rfl) rfl)
    hst belowK_t (belowK_b (by omega)) (Below.refl _ _) (fun _ => rfl)
    (fun pre W => (((∀ p ∈ pre, p.2.1 = adv) ∧ Boxed W w.heap.size 3 (.int .i64 0)) ∧ Boxed W (w.heap.size + 1) 3 (.int .i64 adv)) ∧ Below W0.heap.size W0 W)
    (fun c pre W => ((c = .ret ∧ ∃ ini last, pre = ini ++ [last] ∧ (∀ p ∈ ini, p.2.1 = adv) ∧ last.2.1 ≠ adv ∧ Boxed W w.heap.size 3 (.int .i64 (wrap64 ((last.1 : Int) + 2))))) ∧ Below w.heap.size w W)
    (OwnFrom.and (OwnFrom.and (OwnFrom.and (ownFrom_pure _ _) (Go.Own.from (boxed_own _ _ _) _)) (Go.Own.from (boxed_own _ _ _) _)) (ownFrom_below (Nat.le_refl _) (Nat.le_refl _)))
    (fun c => OwnFrom.and (fun s X Y row hs hg hr => by
      obtain ⟨hc, ini, last, e1, e2, e3, e4⟩ := hs
      exact ⟨hc, ini, last, e1, e2, e3, boxed_own w.heap.size 3 (fun (_ : Unit) => Value.int .i64 (wrap64 ((last.1 : Int) + 2))) () X Y row e4 hg (fun r e => (hr r e).2)⟩) (ownFrom_below (Nat.le_refl _) (by omega)))
    ⟨⟨⟨by simp, bR⟩, bA⟩, Below.refl _ _⟩
    (fun x a' W => ∃ Bx, Two W Bx x.2 ∧ a' = { tmps := #[.slice (some ⟨b, off, none⟩) N cap, undef, .pointer (some ⟨w.heap.size, 0, none⟩), .pointer (some ⟨w.heap.size + 1, 0, none⟩), .int .i64 (x.1 : Int), .pointer (some ⟨Bx, 0, none⟩),
        .slice (some ⟨b, off, none⟩) N cap, .slice (some ⟨b, off, none⟩) N cap, .int .i64 (N : Int), .int .i64 ((N : Int) - 1), .pointer (some ⟨b, off + (N - 1) * 2, none⟩), .pointer (some ⟨b, off + (N - 1) * 2, none⟩), .int .i64 adv, .slice (some ⟨b, off, none⟩) N cap,
        .func (.func 42) #[] #[.pointer (some ⟨w.heap.size + 1 + 1, 0, none⟩)], .int .i64 (x.1 : Int), .agg #[.int .i64 x.2.1, .int .i64 x.2.2], undef, undef, undef, undef, undef, undef], defers := [] })
    (fun x a' _ X Y row hs hg hr => by obtain ⟨Bx, h2, h3⟩ := hs; exact ⟨Bx, two_own Bx x.2 h2 hg (fun r e => (hr r e).2), h3⟩)
    ?assign ?body ?done ?stop
  case assign =>
    rintro l pre x W K ⟨⟨⟨hp, bR1⟩, bA1⟩, hB1⟩ hK
    unfold encP
    gi_wp2
    exact hK _ _ ((KeepsOthers.alloc _ _).from _) ((Below.refl _ W).alloc hB1.size _) ⟨⟨⟨hp, bR1.alloc _⟩, bA1.alloc _⟩, hB1.alloc hB1.size _⟩ ⟨W.heap.size, new_block W _, rfl⟩
  case body =>
    rintro l pre x a' W hl ⟨r, hr⟩ ⟨⟨⟨hp, bR1⟩, bA1⟩, hB1⟩ ⟨Bx, bX, rfl⟩ hlt
    have cA := bA1.cell
    have cX : W.cell? ⟨Bx, 0, none⟩ = some (.int .i64 x.2.1) := block_cell bX rfl
    have cR := bR1.cell
    have fR := bR1.frozen
    have h1' : 1 ≤ n - 1 - 1 := by omega
    by_cases hne : x.2.1 = adv
    · have hb1 : (x.2.1 != adv) = false := by simpa using hne
      have HNE := Lib.hid hne
      clear hne
      gi_wp2
      exact ⟨KeepsFrom.refl _ _, Below.refl _ _, ⟨⟨fun p hp' => (List.mem_append.1 hp').elim (hp p) (fun e => by simp at e; subst e; exact HNE.out), bR1⟩, bA1⟩, hB1⟩
    · have hb1 : (x.2.1 != adv) = true := by simpa using hne
      gi_wp2
      exact ⟨(KeepsOthers.setCell _ _ _).from _, ⟨rfl, pre, x, rfl, hp, hne, bR1.set _⟩, (hB0.trans (hB1.mono (by omega))).setCell (p := ⟨w.heap.size, 0, none⟩) (Nat.le_refl _) _⟩
  case done =>
    rintro D ys W hD rfl ⟨⟨⟨hp, bR1⟩, bA1⟩, hB1⟩ hK
    have cR := bR1.cell
    have fR := bR1.frozen
    have HL : Hid (Hm.least ms = 1) := Lib.hid (by
      refine Hm.least_all (by rw [hN.out]; exact hN1) fun i hi => ?_
      rw [hN.out] at hi ⊢
      have := hp (fromEnd ms (N - 1 - i)) (List.mem_map.2 ⟨N - 1 - i, List.mem_range.2 (by omega), rfl⟩)
      unfold fromEnd at this
      rw [hN.out, show N - 1 - (N - 1 - i) = i by omega] at this
      rw [hA.out]; exact this)
    gi_wp2
    have hK' := (KeepsOthers.setCell W ⟨w.heap.size, 0, none⟩ (.int .i64 1)).same D _ hK rfl
    refine ⟨by simp, .inl ⟨_, _, rfl, run_takeDeferred hK', ?_⟩⟩
    have hc5 := cell_kept (bR1.set (.int .i64 1)).cell (grownBy_putObj' _ D (.deferred none)) (fun r e => by cases e; exact ⟨_, hK', rfl⟩)
    refine ⟨.int .i64 1, ?_, by rw [HL.out]; rfl, ((hB0.trans (hB1.mono (by omega))).setCell (p := ⟨w.heap.size, 0, none⟩) (Nat.le_refl _) _).trans (belowK_b (w := w) (Nat.le_refl _) _ D _ _ (by omega) hK' rfl rfl)⟩
    simp [results, Try.f20, go_sem, hc5]
  case stop =>
    rintro D c pre W hD ⟨k, hk, rfl⟩ ⟨⟨rfl, ini, last, e1, e2, e3, bR1⟩, hB1⟩ hK
    gi_wp2
    refine ⟨by simp, .inl ⟨_, _, rfl, run_takeDeferred hK, ?_⟩⟩
    have hc5 := cell_kept bR1.cell (grownBy_putObj' _ D (.deferred none)) (fun r e => by cases e; exact ⟨_, hK, rfl⟩)
    obtain ⟨k', rfl⟩ : ∃ k', k = k' + 1 := by
      cases k with
      | zero => simp [come] at e1
      | succ k' => exact ⟨k', rfl⟩
    rw [come_succ] at e1
    obtain ⟨rfl, e5⟩ := List.append_inj' e1 rfl
    obtain rfl : fromEnd ms k' = last := by simpa using e5
    have hq : (fromEnd ms k').1 = N - 1 - k' := by unfold fromEnd; rw [hN.out]
    have hqv : (fromEnd ms k').2 = Hm.at0 ms (N - 1 - k') := by unfold fromEnd; rw [hN.out]
    have hk1 : 1 ≤ k' := by
      rcases Nat.eq_zero_or_pos k' with h0 | h0
      · exfalso
        subst h0
        rw [hqv, Nat.sub_zero] at e3
        exact e3 hA.out
      · exact h0
    have HL : Hm.least ms = (N - 1 - k') + 2 := by
      refine Hm.least_stop (k := N - 1 - k') (by rw [hN.out]; omega) (fun i hi1 hi2 => ?_) ?_
      · rw [hN.out] at hi2 ⊢
        have := e2 (fromEnd ms (N - 1 - i)) (List.mem_map.2 ⟨N - 1 - i, List.mem_range.2 (by omega), rfl⟩)
        unfold fromEnd at this
        rw [hN.out, show N - 1 - (N - 1 - i) = i by omega] at this
        rw [hA.out]; exact this
      · rw [hN.out, hA.out]; rw [hqv] at e3; exact e3
    rw [hq, wrap_id (by omega) (by omega)] at hc5
    refine ⟨.int .i64 ((N - 1 - k' : Nat) + 2 : Int), ?_, by rw [HL]; rfl, hB1.trans (belowK_b (w := w) (Nat.le_refl _) W D _ _ (by omega) hK rfl rfl)⟩
    simp [results, Try.f20, go_sem, hc5]

/-- hmtx.fewest. -/
theorem fewest_any (v : Value) (ms : List Hm.Metric) (w : World) (h : MRow w v ms) (h1 : 1 ≤ ms.length) (h2 : ms.length ≤ 65535) :
    Calls Try.prog 20 #[v] w fun e w' => e = .returned (.int .i64 (Hm.least ms)) ∧ Lo w w' := by
  obtain ⟨p, c, rfl, _⟩ := RowK.form h
  have hx : ms[ms.length - 1]? = some (Hm.at0 ms (ms.length - 1)) := at0_some (by omega)
  obtain ⟨b, off, rfl, hc1, hc2⟩ := MRow.at2 h hx
  exact callsIn_wide.1 (fewest_in Fence.wide 3 trivial trivial trivial rfl (Nat.le_refl _) b off c ms.length ms _ w h1 h2 (Lib.hid rfl) (Lib.hid h) (Lib.hid rfl) hc1 (World.block_lt_of_cell? w _ hc1))
end Go.Proofs.Ytchhjfocanjniaa
