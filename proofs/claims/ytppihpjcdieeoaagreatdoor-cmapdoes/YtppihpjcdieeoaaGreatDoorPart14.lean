/-
  Facts that the walks rest on: CmSeq, SyStable, CmIns, CmRotate. No conditions beyond those stated.
-/
import Derived.Test.YtppihpjcdieeoaaGreatDoorPart08
import Derived.Test.YtppihpjcdieeoaaGreatDoorPart13
import Derived.Test.YtppihpjcdieeoaaGreatDoorPart12
import Derived.Sort.WalkA
/-
  Contracts of slices.Values, its iterator, slices.AppendSeq and slices.Collect at records: all elements, collected into a slice of one's own. No conditions beyond those stated.
-/
namespace Go.Proofs.YtppihpjcdieeoaaGreatDoor
open Go.RowKit Go.Shelf
attribute [local go_sem] Oper.semAt_some wide_fn wide_depth

set_option maxHeartbeats 1000000 in
theorem values_make (m : Nat) (a : Option Addr) (len cap : Nat) (w : World) :
    CallsIn Fence.wide m Tryz.prog 55 #[.slice a len cap] w fun e w' => e = .returned (.func (.func 104) #[] #[.pointer (some ⟨w.heap.size, 0, none⟩)]) ∧ w' = w.alloc (.cells #[.slice a len cap] 40) := by
  refine callsIn_of_wp Tryz.func55 rfl trivial ?_ rfl
  simp only [Tryz.ntmps55, List.size_toArray, List.length_cons, List.length_nil, Nat.reduceAdd, Nat.reduceSub, Array.replicate_succ, Array.replicate_zero, List.push_toArray, List.append_toArray, List.nil_append, List.cons_append]
  gi_wp2
  go_ret
  exact ⟨rfl, rfl⟩

/-- A record, as a value. -/
def aggM (x : Sy.Rec) : Value := .agg #[.int .i64 x.1, .int .i64 x.2.1]
def zr : Sy.Rec := (0, 0, 0)
theorem RRow.at2 {w : World} {p : Option Addr} {n c : Nat} {l : List Sy.Rec} (h : RRow w (.slice p n c) l) {i : Nat} {x : Sy.Rec} (hx : l[i]? = some x) :
    ∃ b off, p = some ⟨b, off, none⟩ ∧ w.cell? ⟨b, off + i * 2, none⟩ = some (.int .i64 x.1) ∧ w.cell? ⟨b, off + i * 2 + 1, none⟩ = some (.int .i64 x.2.1) := by
  obtain ⟨b, off, rfl, h2⟩ := RowK.at_ h hx
  exact ⟨b, off, rfl, h2 0 (by omega), h2 1 (by omega)⟩

set_option maxRecDepth 100000 in
set_option maxHeartbeats 3200000 in
theorem values1_in (m l n₀ N : Nat) (J Jx : List Sy.Rec → World → Prop)
    (hY : ∀ (m' : Nat) pre x W, J pre W → pre.length < N → YieldAt Fence.wide m' Tryz.prog l #[aggM x] W fun e W' => (e = .returned (.bool true) ∧ J (pre ++ [x]) W' ∧ Below n₀ W W') ∨ (e = .returned (.bool false) ∧ Jx (pre ++ [x]) W'))
    (hA : ∀ pre W o, J pre W → J pre (W.alloc o)) (xs : List Sy.Rec) (hN : xs.length ≤ N) (hxl : xs.length ≤ 1000000) (p : Option Addr) (cap : Nat) (B1 : Nat) (W : World) (hn : n₀ ≤ W.heap.size)
    (hx : ∀ W', Below n₀ W W' → RRow W' (.slice p xs.length cap) xs) (h1 : W.cell? ⟨B1, 0, none⟩ = some (.slice p xs.length cap)) (h0 : J [] W) :
    CallsIn Fence.wide m Tryz.prog 104 #[.func (.yield l) #[] #[], .pointer (some ⟨B1, 0, none⟩)] W fun e W' => (∃ v, e = .returned v) ∧
      ((∃ ys, ys = xs ∧ J ys W') ∨ (∃ pre, pre <+: xs ∧ Jx pre W')) := by
  have HP0 : Hid (xs.take 0 = []) := Lib.hid rfl
  have HPn : Hid (xs.take xs.length = xs) := Lib.hid (List.take_length)
  have HPs : Hid (∀ k, k < xs.length → xs.take (k + 1) = xs.take k ++ [xs.getD k zr] ∧ (xs.take k).length < N ∧ xs.take k ++ [xs.getD k zr] <+: xs) := Lib.hid (fun k h => by
    have e : xs.take (k + 1) = xs.take k ++ [xs.getD k zr] := by
      rw [List.take_add_one, List.getElem?_eq_getElem h]
      simp [List.getD, List.getElem?_eq_getElem h]
    refine ⟨e, by rw [List.length_take]; omega, ?_⟩
    rw [← e]; exact List.take_prefix _ _)
  have HX := Lib.hid hx
  have HA := Lib.hid hA
  have HY := Lib.hid hY
  obtain ⟨n, hn'⟩ : ∃ n, xs.length = n := ⟨_, rfl⟩
  have HN := Lib.hid hn'
  rw [hn'] at hxl h1 HX HPn HPs
  clear hx hA hN hn' hY
  refine callsIn_of_wp Tryz.func104 rfl trivial ?_ rfl
  simp only [Tryz.ntmps104, List.size_toArray, List.length_cons, List.length_nil, Nat.reduceAdd, Nat.reduceSub, Array.replicate_succ, Array.replicate_zero, List.push_toArray, List.append_toArray, List.nil_append, List.cons_append]
  gi_wp2
  gi_loopw [7] (fun i wr => ∃ k : Nat, k ≤ n ∧ i = .int .i64 (k : Int) ∧ Hid (J (xs.take k) wr) ∧ Hid (Below n₀ W wr))
    (fun i _ => (n - (intOf i).toNat))
  case atStart => exact ⟨0, Nat.zero_le _, rfl, Lib.hid (by rw [HP0.out]; exact h0), Lib.hid (Below.refl _ _)⟩
  case round =>
    obtain ⟨k, hk, rfl, HJ, HK⟩ := hrel
    by_cases hlt : k < n
    · obtain ⟨h1', h2', h3'⟩ := HPs.out k hlt
      have hxk : xs[k]? = some (xs.getD k zr) := by simp [List.getD, List.getElem?_eq_getElem (show k < xs.length by rw [HN.out]; exact hlt)]
      obtain ⟨b, off, rfl, d0, d1⟩ := RRow.at2 (HX.out _ HK.out) hxk
      have hsz := HK.out.size
      have HP1 := Lib.hid h1'
      have HP3 := Lib.hid h3'
      have HP2 := Lib.hid h2'
      clear hxk h1' h2' h3'
      generalize xs.getD k zr = x at *
      obtain ⟨x1, x2, x3⟩ := x
      dsimp only at d0 d1
      obtain ⟨fn, tmps, assign, body, hy, hR⟩ := HY.out 0 _ (x1, x2, x3) (wr.alloc (.cells #[.int .i64 x1, .int .i64 x2] 47)) (HA.out _ _ _ HJ.out) HP2.out
      unfold aggM at hy
      dsimp only at hy
      have HKA : Hid (Below n₀ W (wr.alloc (.cells #[.int .i64 x1, .int .i64 x2] 47))) := Lib.hid (HK.out.alloc (by omega) _)
      clear hsz
      gi_wp2
      refine (RoundIn.anyDepth wide_depth hR).mono ?_
      rintro e W3 (⟨rfl, hJ3, hk3⟩ | ⟨rfl, hJx3⟩)
      · have HJ3 := Lib.hid hJ3
        have HK3 := Lib.hid hk3
        clear hJ3 hk3 hy hR
        gi_wp2
        go_roundw
        case rel => exact ⟨k + 1, by omega, by simp, Lib.hid (by rw [HP1.out]; exact HJ3.out), Lib.hid (HKA.out.trans HK3.out)⟩
        case measure => simp [intOf]; omega
      · have HJ3 := Lib.hid hJx3
        clear hJx3 hy hR
        gi_wp2
        refine bodyPost_ret (results_none rfl _ _ _) rfl ?_
        exact ⟨⟨_, rfl⟩, .inr ⟨_, HP3.out, HJ3.out⟩⟩
    · obtain rfl : k = n := by omega
      gi_wp2
      go_end0
      refine ⟨⟨_, rfl⟩, .inl ⟨xs, rfl, ?_⟩⟩
      have := HJ.out
      rwa [HPn.out] at this

/-- The iterator's contract, as a loop takes it. -/
theorem values_stops (n₀ : Nat) (xs : List Sy.Rec) (hxl : xs.length ≤ 1000000) (p : Option Addr) (cap : Nat) (B1 : Nat) (w : World) (hn : n₀ ≤ w.heap.size) (hxn : ∀ W', Below n₀ w W' → RRow W' (.slice p xs.length cap) xs)
    (h1 : w.cell? ⟨B1, 0, none⟩ = some (.slice p xs.length cap)) (m : Nat) :
    SeqStopsK Fence.wide m Tryz.prog 104 #[.pointer (some ⟨B1, 0, none⟩)] (fun x => #[aggM x]) (Below n₀) (fun ys => ys = xs) (fun pre => pre <+: xs) xs.length w := by
  intro l J Jx W hW hJ hJx hY h0
  exact values1_in m l n₀ xs.length J Jx (fun m' pre y W1 h hl => YieldAt.anyDepth wide_depth m' (hY pre y W1 h hl)) (fun pre W' o h => hJ pre W' _ none h (World.grownBy_alloc W' o none) (fun r e => by cases e)) xs (Nat.le_refl _) hxl p cap B1 W
    (Nat.le_trans hn hW.size) (fun W' hk => hxn W' ((hW.mono hn).trans hk)) ((hW.cell (p := ⟨B1, 0, none⟩) (World.block_lt_of_cell? w _ h1)).trans h1) h0

theorem rec_info : (Tryz.prog.info? 47).map (fun i => (i.zero, i.size, i.bytes)) = some (some (.agg #[.int .i64 0, .int .i64 0]), 2, 16) := by kernel_rfl
theorem two_at {T ty : Nat} {a b : Value} {w : World} (h : w.heap[T]? = some (.cells #[a, b] ty (0, 0))) : (w.cell? ⟨T, 0, none⟩ = some a ∧ w.cell? ⟨T, 1, none⟩ = some b) ∧ w.frozen? ⟨T, 0, none⟩ = false ∧ w.frozen? ⟨T, 1, none⟩ = false :=
  ⟨⟨block_cell h rfl, block_cell h rfl⟩, block_frozen h, block_frozen h⟩
/-- A record's box. -/
def TwoB (W : World) (B : Nat) (x : Sy.Rec) : Prop := W.heap[B]? = some (.cells #[.int .i64 x.1, .int .i64 x.2.1] 47 (0, 0))
theorem twoB_own (B : Nat) (x : Sy.Rec) {X Y : World} {row : Option Nat} (h : TwoB X B x) (hg : X.grownBy Y row) (hr : ∀ r, row = some r → ∃ o : Obj, X.heap[r]? = some o ∧ o.isCells = false) : TwoB Y B x := by
  refine (hg.block B (Array.getElem?_eq_some_iff.1 h).1 (fun e => ?_)).trans h
  obtain ⟨o, ho, hf⟩ := hr B e.symm
  rw [show X.heap[B]? = _ from h] at ho
  cases ho
  simp [Obj.isCells] at hf
theorem cm_new (w : World) (x : Sy.Rec) (ty : Nat) : ∀ j u, (encCm x)[j]? = some u → (w.alloc (.cells #[.int .i64 x.1, .int .i64 x.2.1] ty)).cell? ((⟨w.heap.size, 0, none⟩ : Addr).add j) = some u := by
  intro j u hj
  have h : (w.alloc (.cells #[.int .i64 x.1, .int .i64 x.2.1] ty)).cell? ⟨w.heap.size, j, none⟩ = some u := block_cell (i := j) (new_block w _) (by rw [List.getElem?_toArray]; exact hj)
  unfold Addr.add
  split
  · rename_i e; subst e; exact h
  · simpa using h

set_option maxRecDepth 100000 in
set_option maxHeartbeats 3200000 in
theorem appendSeq_any (xs : List Sy.Rec) (hxl : xs.length ≤ 1000000) (p : Option Addr) (cap B1 : Nat) (w : World) (hr : RRow w (.slice p xs.length cap) xs) (h1 : w.cell? ⟨B1, 0, none⟩ = some (.slice p xs.length cap)) :
    Calls Tryz.prog 135 #[.slice none 0 0, .func (.func 104) #[] #[.pointer (some ⟨B1, 0, none⟩)]] w fun e w' =>
      ∃ q c, e = .returned (.slice q xs.length c) ∧ OwnK encCm 47 2 w' w.heap.size (.slice q xs.length c) xs ∧ Lo w w' := by
  have HR := Lib.hid hr
  have H1 := Lib.hid h1
  have bA := Boxed.new w 40 (.slice none 0 0)
  have hB0 : Lo w (w.alloc (.cells #[.slice none 0 0] 40)) := (Lo.refl w).alloc _
  have hsz : (w.alloc (.cells #[.slice none 0 0] 40)).heap.size = w.heap.size + 1 := by simp
  clear hr h1
  refine (callsIn_wide (n := 9)).1 ?_
  refine callsIn_of_wp_marks Tryz.func135 rfl trivial ?_ rfl
  simp only [Tryz.ntmps135, List.size_toArray, List.length_cons, List.length_nil, Nat.reduceAdd, Nat.reduceSub, Array.replicate_succ, Array.replicate_zero, List.push_toArray, List.append_toArray, List.nil_append, List.cons_append]
  gi_wp2
  obtain ⟨W0, hW0⟩ : ∃ W0, w.alloc (.cells #[.slice none 0 0] 40) = W0 := ⟨_, rfl⟩
  rw [hW0] at bA hB0 hsz ⊢
  clear hW0
  have hst := values_stops w.heap.size xs hxl p cap B1 W0 (by omega) (fun W' hW' => RowK.lo HR.out (Below.trans hB0 hW')) ((hB0.cell (World.block_lt_of_cell? w _ H1.out)).trans H1.out) 8
  have hIo : OwnFrom W0.heap.size (fun (pre : List Sy.Rec) W => (∃ v, Boxed W w.heap.size 40 v ∧ W.ownsRow w.heap.size 47 2 v pre.length (pre.flatMap encCm) ∧ True) ∧ (pre.length ≤ xs.length ∧ Below w.heap.size w W)) :=
    OwnFrom.and (Own.from (holdsRow_own w.heap.size w.heap.size 40 47 2 (fun (pre : List Sy.Rec) => pre.length) (fun pre => pre.flatMap encCm) (fun _ _ => True)) _) (OwnFrom.and (ownFrom_pure _ _) (ownFrom_below (Nat.le_refl _) (by omega)))
  have hIx : ∀ c : Code, OwnFrom W0.heap.size (fun (pre : List Sy.Rec) (W : World) => False) := fun c => ownFrom_pure _ _
  refine wpIn_rangeFunc_ownH rfl (by omega) (gf := 104) (lb := #[.pointer (some ⟨B1, 0, none⟩)]) rfl trivial (enters_of Tryz.func104 (by kernel_rfl) rfl)
    hst belowK_t (belowK_b (by omega)) (Below.refl _ _) (fun _ => rfl) _ (fun _ _ _ => False) hIo hIx
    ⟨⟨_, bA, World.ownsRow_nil _ _ _ _, trivial⟩, Nat.zero_le _, hB0⟩
    (fun x a' W => ∃ Bx, TwoB W Bx x ∧ a' = { tmps := #[.slice none 0 0, .func (.func 104) #[] #[.pointer (some ⟨B1, 0, none⟩)], .pointer (some ⟨w.heap.size, 0, none⟩), undef, .slice none 0 0, .pointer (some ⟨Bx, 0, none⟩),
        .func (.func 104) #[] #[.pointer (some ⟨B1, 0, none⟩)], aggM x, undef, undef, undef, undef, undef], defers := [] })
    (fun x a' _ X Y row hs hg hr => by obtain ⟨Bx, h2, h3⟩ := hs; exact ⟨Bx, twoB_own Bx x h2 hg (fun r e => (hr r e).2), h3⟩)
    ?assign ?body ?done ?stop
  case assign =>
    rintro l' pre x W K hI hK
    have hws : w.heap.size ≤ W.heap.size := hI.2.2.size
    have hI' := hIo.alloc (.cells #[.int .i64 x.1, .int .i64 x.2.1] 47) hI
    have hK' := Lib.hid (fun a' => hK a' (W.alloc (.cells #[.int .i64 x.1, .int .i64 x.2.1] 47)) ((KeepsOthers.alloc _ _).from _) ((Below.refl _ W).alloc hws _) hI')
    clear hK
    unfold aggM
    gi_wp2
    exact hK'.out _ ⟨W.heap.size, new_block W _, rfl⟩
  case body =>
    rintro l' pre x a' W hl ⟨r, hr⟩ ⟨⟨v, hv, hrow, -⟩, hln, hBe⟩ ⟨Bx, bX, rfl⟩ hlt
    obtain ⟨pv, cv, rfl⟩ := OwnK.form (enc := encCm) (l := pre) hrow
    obtain ⟨⟨x0, x1⟩, -⟩ := two_at (show W.heap[Bx]? = _ from bX)
    have cA := hv.cell
    have h1' : 1 ≤ 9 - 1 - 1 := by omega
    obtain ⟨i0, hi0, hz0, hz1, hz2⟩ := info_parts rec_info
    gi_wp2_with (gi_at_builtin; refine wpListIn_append_own_at _ rfl _ _ 40 rfl w.heap.size 47 i0 (.agg #[.int .i64 0, .int .i64 0]) 2 16 Tryz.underlying40 hi0 hz0 hz1 hz2 rfl (by decide) _ _ _ rfl (hrow.alloc _) ⟨W.heap.size, 0, none⟩ 1 1 (encCm x) rfl rfl (cm_new W x 47) (encCm_one x) (by unfold maxLen; omega) (by omega) (by have := hBe.size; simp; omega) ?_; intro v' w2 hown' hgrow _ hat; obtain ⟨g', cap', rfl⟩ := ownsRow_succ hown'; obtain ⟨hv1, hv2, hr2, hk2, hb2⟩ := hv.appended (by decide) hrow hBe.size (by omega) hown' hgrow; have hc1 := hv1.cell; have hf1 := hv1.frozen)
    exact ⟨hk2.from _, hb2, ⟨⟨_, hv2, by rw [List.length_append, List.flatMap_append, List.flatMap_singleton]; exact hr2, trivial⟩, by rw [List.length_append]; simp; omega, Below.trans hBe hb2⟩⟩
  case done =>
    rintro D ys W hD rfl ⟨⟨v, hv, hrow, -⟩, hln, hBe⟩ hK
    obtain ⟨pv, cv, rfl⟩ := OwnK.form (enc := encCm) hrow
    have cA := hv.cell
    gi_wp2
    refine ⟨by simp, .inl ⟨_, _, rfl, run_takeDeferred hK, ?_⟩⟩
    refine ⟨.slice pv ys.length cv, ?_, pv, cv, rfl, ownsRow_putObj hrow (.deferred none) hK rfl, hBe.trans (belowK_b (w := w) (Nat.le_refl _) _ D _ _ (by omega) hK rfl rfl)⟩
    simp [results, Tryz.f135, go_sem]
  case stop =>
    rintro D c' pre W hD hpre hf hK
    exact hf.elim

set_option maxHeartbeats 400000 in
theorem collect_any (xs : List Sy.Rec) (hxl : xs.length ≤ 1000000) (p : Option Addr) (cap B1 : Nat) (w : World) (hr : RRow w (.slice p xs.length cap) xs) (h1 : w.cell? ⟨B1, 0, none⟩ = some (.slice p xs.length cap)) :
    Calls Tryz.prog 102 #[.func (.func 104) #[] #[.pointer (some ⟨B1, 0, none⟩)]] w fun e w' =>
      ∃ q c, e = .returned (.slice q xs.length c) ∧ OwnK encCm 47 2 w' w.heap.size (.slice q xs.length c) xs ∧ Lo w w' := by
  have HC := Lib.hid (appendSeq_any xs hxl p cap B1 w hr h1)
  clear hr h1
  go_enter Tryz.func102, Tryz.ntmps102
  go_wp2_with fail
  refine (HC.out).mono ?_
  rintro e w1 ⟨q, c, rfl, ho, lo⟩
  have H := Lib.hid ho
  have HL := Lib.hid lo
  clear ho lo HC
  go_wp2_with fail
  go_ret
  exact ⟨q, c, rfl, H.out, HL.out⟩
end Go.Proofs.YtppihpjcdieeoaaGreatDoor
/-
  Blocks sorted, then merged two by two: how far the stable sort has come, with nothing of the program. No conditions beyond those stated.
-/
namespace Sy
open Go.Sort
/-- Blocks of 20, the first q of which are sorted. -/
def I1 (N q : Nat) (d0 d : Array Rec) : Prop := (∀ t, t < N → d[t]!.2.2 / 20 = t / 20) ∧ (∀ i j, i < j → j < N → j < 20 * q → i / 20 = j / 20 → tl d[j]! d[i]! = false) ∧ ∀ t, 20 * q ≤ t → d[t]! = d0[t]!
theorem I1_start {N : Nat} {d0 : Array Rec} (h : ∀ t, t < N → d0[t]!.2.2 = t) : I1 N 0 d0 d0 := ⟨fun t ht => by rw [h t ht], fun i j _ _ h => by omega, fun _ _ => rfl⟩
theorem I1_rise {N q : Nat} {d0 d : Array Rec} (h : ∀ t, t < N → d0[t]!.2.2 = t) (H : I1 N q d0 d) {z : Nat} (hz : z ≤ N) : ∀ p r, 20 * q ≤ p → p < r → r < z → d[p]!.2.2 < d[r]!.2.2 := fun p r h1 h2 h3 => by
  rw [H.2.2 p h1, H.2.2 r (by omega), h p (by omega), h r (by omega)]; exact h2
theorem I1_step {N q z : Nat} {d0 d d' : Array Rec} (H : I1 N q d0 d) (hs : d.size = N) (hz : z ≤ N) (h1 : 20 * q ≤ z) (h2 : z ≤ 20 * q + 20) (h3 : z = 20 * q + 20 ∨ z = N) (hP : PermIn (20 * q) z d d') (hS : SortedIn tl (20 * q) z d') : I1 N (q + 1) d0 d' := by
  have inn : ∀ t, 20 * q ≤ t → t < z → d'[t]!.2.2 / 20 = q := permIn_all d d' (20 * q) z (fun x => x.2.2 / 20 = q) (by omega) hP fun t i j => by rw [H.1 t (by omega)]; omega
  refine ⟨fun t ht => ?_, fun i j k l m n => ?_, fun t ht => ?_⟩
  · by_cases c : 20 * q ≤ t ∧ t < z
    · rw [inn t c.1 c.2]; omega
    · rw [hP.2.1 t (by omega)]; exact H.1 t ht
  · by_cases c : 20 * q ≤ j
    · exact hS i j (by omega) k (by omega)
    · rw [hP.2.1 i (by omega), hP.2.1 j (by omega)]; exact H.2.1 i j k l (by omega) n
  · by_cases c : t < N
    · rw [hP.2.1 t (by omega)]; exact H.2.2 t (by omega)
    · rw [hP.2.1 t (by omega)]; exact H.2.2 t (by omega)

/-- Blocks of 20, merged to blocks of 40: the first q of these. -/
def J20 (N q : Nat) (d : Array Rec) : Prop := (∀ t, t < N → d[t]!.2.2 / 40 = t / 40) ∧ (∀ t, 40 * q ≤ t → t < N → d[t]!.2.2 / 20 = t / 20) ∧ (∀ i j, i < j → j < N → j < 40 * q → i / 40 = j / 40 → tl d[j]! d[i]! = false) ∧ (∀ i j, i < j → j < N → 40 * q ≤ i → i / 20 = j / 20 → tl d[j]! d[i]! = false)
theorem J20_start {N : Nat} {d : Array Rec} (h1 : ∀ t, t < N → d[t]!.2.2 / 20 = t / 20) (h2 : ∀ i j, i < j → j < N → i / 20 = j / 20 → tl d[j]! d[i]! = false) : J20 N 0 d :=
  ⟨fun t ht => by have := h1 t ht; omega, fun t _ ht => h1 t ht, fun i j _ _ h => by omega, fun i j h k _ l => h2 i j h k l⟩
theorem J20_parts {N q z : Nat} {d : Array Rec} (H : J20 N q d) (hz : z ≤ N) (h1 : 40 * q + 20 < z) (h2 : z ≤ 40 * q + 40) :
    SortedIn tl (40 * q) (40 * q + 20) d ∧ SortedIn tl (40 * q + 20) z d ∧ Ahead (40 * q) (40 * q + 20) z d :=
  ⟨fun i j a b c => H.2.2.2 i j b (by omega) a (by omega), fun i j a b c => H.2.2.2 i j b (by omega) (by omega) (by omega), fun p r a b c e => by
    have := H.2.1 p a (by omega); have := H.2.1 r (by omega) (by omega); omega⟩
theorem J20_step {N q z : Nat} {d d' : Array Rec} (H : J20 N q d) (hs : d.size = N) (hz : z ≤ N) (h1 : 40 * q + 20 < z) (h2 : z ≤ 40 * q + 40) (h3 : z = 40 * q + 40 ∨ z = N) (hP : PermIn (40 * q) z d d') (hS : SortedIn tl (40 * q) z d') : J20 N (q + 1) d' := by
  have inn : ∀ t, 40 * q ≤ t → t < z → d'[t]!.2.2 / 40 = q := permIn_all d d' (40 * q) z (fun x => x.2.2 / 40 = q) (by omega) hP fun t i j => by rw [H.1 t (by omega)]; omega
  refine ⟨fun t ht => ?_, fun t i j => ?_, fun i j k l m n => ?_, fun i j k l m n => ?_⟩
  · by_cases c : 40 * q ≤ t ∧ t < z
    · rw [inn t c.1 c.2]; omega
    · rw [hP.2.1 t (by omega)]; exact H.1 t ht
  · rw [hP.2.1 t (by omega)]; exact H.2.1 t (by omega) j
  · by_cases c : 40 * q ≤ j
    · exact hS i j (by omega) k (by omega)
    · rw [hP.2.1 i (by omega), hP.2.1 j (by omega)]; exact H.2.2.1 i j k l (by omega) n
  · rw [hP.2.1 i (by omega), hP.2.1 j (by omega)]; exact H.2.2.2 i j k l (by omega) n
theorem J20_idle {N q : Nat} {d : Array Rec} (H : J20 N q d) (h : N ≤ 40 * q + 20) : J20 N (q + 1) d :=
  ⟨H.1, fun t i j => by omega, fun i j a b c e => by
    by_cases x : 40 * q ≤ i
    · exact H.2.2.2 i j a b x (by omega)
    · exact H.2.2.1 i j a b (by omega) e, fun i j a b c e => by omega⟩
theorem J20_end {N q : Nat} {d : Array Rec} (H : J20 N q d) (h : N ≤ 40 * q) : (∀ t, t < N → d[t]!.2.2 / 40 = t / 40) ∧ (∀ i j, i < j → j < N → i / 40 = j / 40 → tl d[j]! d[i]! = false) :=
  ⟨H.1, fun i j a b c => H.2.2.1 i j a b (by omega) c⟩

/-- Blocks of 40, merged to blocks of 80: the first q of these. -/
def J40 (N q : Nat) (d : Array Rec) : Prop := (∀ t, t < N → d[t]!.2.2 / 80 = t / 80) ∧ (∀ t, 80 * q ≤ t → t < N → d[t]!.2.2 / 40 = t / 40) ∧ (∀ i j, i < j → j < N → j < 80 * q → i / 80 = j / 80 → tl d[j]! d[i]! = false) ∧ (∀ i j, i < j → j < N → 80 * q ≤ i → i / 40 = j / 40 → tl d[j]! d[i]! = false)
theorem J40_start {N : Nat} {d : Array Rec} (h1 : ∀ t, t < N → d[t]!.2.2 / 40 = t / 40) (h2 : ∀ i j, i < j → j < N → i / 40 = j / 40 → tl d[j]! d[i]! = false) : J40 N 0 d :=
  ⟨fun t ht => by have := h1 t ht; omega, fun t _ ht => h1 t ht, fun i j _ _ h => by omega, fun i j h k _ l => h2 i j h k l⟩
theorem J40_parts {N q z : Nat} {d : Array Rec} (H : J40 N q d) (hz : z ≤ N) (h1 : 80 * q + 40 < z) (h2 : z ≤ 80 * q + 80) :
    SortedIn tl (80 * q) (80 * q + 40) d ∧ SortedIn tl (80 * q + 40) z d ∧ Ahead (80 * q) (80 * q + 40) z d :=
  ⟨fun i j a b c => H.2.2.2 i j b (by omega) a (by omega), fun i j a b c => H.2.2.2 i j b (by omega) (by omega) (by omega), fun p r a b c e => by
    have := H.2.1 p a (by omega); have := H.2.1 r (by omega) (by omega); omega⟩
theorem J40_step {N q z : Nat} {d d' : Array Rec} (H : J40 N q d) (hs : d.size = N) (hz : z ≤ N) (h1 : 80 * q + 40 < z) (h2 : z ≤ 80 * q + 80) (h3 : z = 80 * q + 80 ∨ z = N) (hP : PermIn (80 * q) z d d') (hS : SortedIn tl (80 * q) z d') : J40 N (q + 1) d' := by
  have inn : ∀ t, 80 * q ≤ t → t < z → d'[t]!.2.2 / 80 = q := permIn_all d d' (80 * q) z (fun x => x.2.2 / 80 = q) (by omega) hP fun t i j => by rw [H.1 t (by omega)]; omega
  refine ⟨fun t ht => ?_, fun t i j => ?_, fun i j k l m n => ?_, fun i j k l m n => ?_⟩
  · by_cases c : 80 * q ≤ t ∧ t < z
    · rw [inn t c.1 c.2]; omega
    · rw [hP.2.1 t (by omega)]; exact H.1 t ht
  · rw [hP.2.1 t (by omega)]; exact H.2.1 t (by omega) j
  · by_cases c : 80 * q ≤ j
    · exact hS i j (by omega) k (by omega)
    · rw [hP.2.1 i (by omega), hP.2.1 j (by omega)]; exact H.2.2.1 i j k l (by omega) n
  · rw [hP.2.1 i (by omega), hP.2.1 j (by omega)]; exact H.2.2.2 i j k l (by omega) n
theorem J40_idle {N q : Nat} {d : Array Rec} (H : J40 N q d) (h : N ≤ 80 * q + 40) : J40 N (q + 1) d :=
  ⟨H.1, fun t i j => by omega, fun i j a b c e => by
    by_cases x : 80 * q ≤ i
    · exact H.2.2.2 i j a b x (by omega)
    · exact H.2.2.1 i j a b (by omega) e, fun i j a b c e => by omega⟩
theorem J40_end {N q : Nat} {d : Array Rec} (H : J40 N q d) (h : N ≤ 80 * q) : (∀ t, t < N → d[t]!.2.2 / 80 = t / 80) ∧ (∀ i j, i < j → j < N → i / 80 = j / 80 → tl d[j]! d[i]! = false) :=
  ⟨H.1, fun i j a b c => H.2.2.1 i j a b (by omega) c⟩
end Sy
/-
  The contract of the library's insertion sort of a run of records (slices.insertionSortCmpFunc at cmap.record). No conditions beyond those stated.
-/
namespace Go.Proofs.YtppihpjcdieeoaaGreatDoor
open Go.RowKit Go.Shelf Go.Lib Go.Sort

set_option maxHeartbeats 1600000 in
set_option maxRecDepth 100000 in
theorem ins_any (g : Nat) (cb : Array Value) (blk off cap N : Nat) (d0 : Array Sy.Rec) (w0 : World) (eg : ∀ args w, (callFunc g args).run Tryz.prog w = .ok (.enter g args) w)
    (hcmp : CmpLays Tryz.prog g cb encCm 2 Sy.cf blk off N w0) (R : _root_.Go.Proofs.RowK encCm 2 w0 blk off d0) (hs : d0.size = N) (hsz : N < 4611686018427387904)
    (a b : Nat) (d : Array Sy.Rec) (w : World) (hN : d.size = N) (S : SWK encCm 2 w0 blk off d w) (hab : a ≤ b) (h3 : b ≤ N) :
    Calls Tryz.prog 146 #[.slice (some ⟨blk, off, none⟩) N cap, .int .i64 a, .int .i64 b, .func (.func g) #[] cb] w fun e w' => e = .returned (.tuple #[]) ∧ SWK encCm 2 w0 blk off (insertionSort Sy.lt d a b) w' := by
  have mixed : Tryz.prog.follows .mixedOrders = true := by kernel_rfl
  have S0 : Aside (SWK encCm 2 w0 blk off d w) := S
  have HC : Aside _ := hcmp
  clear S hcmp
  go_enter Tryz.func146, Tryz.ntmps146
  go_wp2_with fail
  go_loopg [8] (b - a) (fun kx s8 wr => ∃ (i : Nat) (dk : Array Sy.Rec), s8 = .int .i64 i ∧ a < i ∧ i ≤ b + 1 ∧ b + 1 - i ≤ kx + 1 ∧ dk.size = N ∧ Aside (SWK encCm 2 w0 blk off dk wr) ∧ Aside (insOuter Sy.lt a b i dk = insOuter Sy.lt a b (a + 1) d))
  case atStart => exact ⟨a + 1, d, by go_num, by omega, by omega, by omega, hN, S0, rfl⟩
  case round =>
    clear S0
    obtain ⟨i, dk, rfl, hai, hib, hg1, hsk, S1, HO⟩ := hrel
    by_cases hlt : i < b
    · go_wp2_with fail
      go_loopg [9] i (fun kx s9 wr2 => ∃ (j : Nat) (dj : Array Sy.Rec), s9 = .int .i64 j ∧ a ≤ j ∧ j ≤ i ∧ j ≤ kx ∧ dj.size = N ∧ Aside (SWK encCm 2 w0 blk off dj wr2) ∧ Aside (insInner Sy.lt a j dj = insInner Sy.lt a i dk))
      case atStart => exact ⟨i, dk, rfl, by omega, Nat.le_refl _, Nat.le_refl _, hsk, S1, rfl⟩
      case round =>
        clear S1
        obtain ⟨j, dj, rfl, haj, hji, hg2, hsj, S1, HI⟩ := hrel
        have out : (j ≤ a ∨ Sy.lt dj[j]! dj[j - 1]! = false) → Aside (insOuter Sy.lt a b (i + 1) dj = insOuter Sy.lt a b (a + 1) d) := fun hs => by
          show _ = _
          rw [← HO.out, insOuter_go _ _ _ _ _ hlt, ← HI.out, insInner_stop _ _ _ _ hs]
        have OUT : Aside _ := out
        clear out
        by_cases hja : a < j
        · obtain ⟨jp, rfl⟩ : ∃ jp, j = jp + 1 := ⟨j - 1, by omega⟩
          have hgo := insInner_go Sy.lt a (jp + 1) dj hja
          simp only [Nat.add_sub_cancel] at hgo OUT
          have HGO : Aside _ := hgo
          clear hgo
          have hwp : IntKind.i64.wrap (jp : Int) = (jp : Int) := by rw [IntKind.wrap_i64]; omega
          have jz : (jp : Int) + 1 < (N : Int) := by omega
          have jz1 : (jp : Int) < (N : Int) := by omega
          have hjaz' : (a : Int) < (jp : Int) + 1 := by omega
          have p0 : (0 : Int) ≤ (jp : Int) + 1 := by omega
          have e0 : ((jp : Int) + 1).toNat = jp + 1 := by omega
          have la := fun (n : Nat) (os : Array Obj) => (swk_at (S1.out.grown n os) R (by omega) (i := jp + 1) (by omega)).1.1
          have lb := fun (n : Nat) (os : Array Obj) => (swk_at (S1.out.grown n os) R (by omega) (i := jp + 1) (by omega)).1.2
          have lc := fun (n : Nat) (os : Array Obj) => (swk_at (S1.out.grown n os) R (by omega) (i := jp) (by omega)).1.1
          have ld := fun (n : Nat) (os : Array Obj) => (swk_at (S1.out.grown n os) R (by omega) (i := jp) (by omega)).1.2
          have hcg := fun (n : Nat) (os : Array Obj) => S1.out.cmp HC.out hsj dj[jp + 1]! dj[jp]! n os
          unfold encCm at hcg
          have hcf : Sy.cf dj[jp + 1]! dj[jp]! < 0 ↔ Sy.lt dj[jp + 1]! dj[jp]! = true := by unfold Sy.lt; rw [decide_eq_true_eq]
          have HL : Aside _ := hcf
          clear hcf
          generalize Sy.cf dj[jp + 1]! dj[jp]! = c at hcg HL
          generalize hex : dj[jp + 1]! = ex at la lb hcg
          generalize hey : dj[jp]! = ey at lc ld hcg
          clear hex hey
          obtain ⟨x1, x2, x3⟩ := ex
          obtain ⟨y1, y2, y3⟩ := ey
          dsimp only at la lb lc ld hcg
          by_cases hc : c < 0
          · have hcb : decide (c < 0) = true := decide_eq_true hc
            have HIN := Lib.hid (HL.out.1 hc)
            clear HL
            go_wp2_with fail
            go_quiet_grown (first | (go_at_fn g; refine Calls.grown_of (hcg _ _)))
            clear la lb lc ld hcg
            have S3 := Lib.hid (S1.out.grown nq osq)
            clear S1
            generalize grow (wr.drewN nq) osq = wr at S3 ⊢
            have S1 : Aside (SWK encCm 2 w0 blk off dj wr) := S3.out
            clear S3
            go_wp2_with fail
            have S2 : Aside (SWK encCm 2 w0 blk off (swp dj (jp + 1) (jp)) _) := swk_swap S1.out R (jp + 1) (jp) (by omega) (by omega)
            obtain ⟨⟨la, lb⟩, fa, fb⟩ := swk_at S1.out R (by omega) (i := jp + 1) (by omega)
            obtain ⟨⟨lc, ld⟩, fc, fd⟩ := swk_at S1.out R (by omega) (i := jp) (by omega)
            generalize dj[jp + 1]! = cI at S2 la lb
            generalize dj[jp]! = cJ at S2 lc ld
            obtain ⟨x1, x2, x3⟩ := cI
            obtain ⟨y1, y2, y3⟩ := cJ
            dsimp only at S2 la lb lc ld
            clear S1
            go_wp2_with fail
            go_big_region_o
            clear la lb lc ld fa fb fc fd
            go_wp2
            go_roundg jp
            case measure => omega
            case rel => exact ⟨jp, swp dj (jp + 1) jp, by go_num, by omega, by omega, by omega, by rw [size_swp]; exact hsj, S2, by show _ = _; rw [← HI.out, HGO.out HIN.out]⟩
          · have hcb : decide (c < 0) = false := decide_eq_false hc
            have HIN : Hid (Sy.lt dj[jp + 1]! dj[jp]! = false) := Lib.hid (by cases hl : Sy.lt dj[jp + 1]! dj[jp]! with | false => rfl | true => exact absurd (HL.out.2 hl) (by omega))
            clear HL
            go_wp2_with fail
            go_quiet_grown (first | (go_at_fn g; refine Calls.grown_of (hcg _ _)))
            clear la lb lc ld hcg
            have S3 := Lib.hid (S1.out.grown nq osq)
            clear S1
            generalize grow (wr.drewN nq) osq = wr at S3 ⊢
            have S1 : Aside (SWK encCm 2 w0 blk off dj wr) := S3.out
            clear S3
            go_wp2_with fail
            go_roundg (b - (i + 1))
            case measure => omega
            case rel => exact ⟨i + 1, dj, by go_num, by omega, by omega, by omega, hsj, S1, OUT.out (.inr HIN.out)⟩
        · have hjaz : decide ((j : Int) > (a : Int)) = false := decide_eq_false (by omega)
          have hjaz' : ¬ (a : Int) < (j : Int) := by omega
          have S3 := Lib.hid S1.out.drew
          clear S1
          go_wp2_with fail
          go_big_region_o
          all_goals go_wp2
          go_roundg (b - (i + 1))
          case measure => omega
          case rel => exact ⟨i + 1, dj, by go_num, by omega, by omega, by omega, hsj, S3.out, OUT.out (.inl (by omega))⟩
    · go_wp2_with fail
      go_end0
      refine ⟨rfl, ?_⟩
      unfold insertionSort
      rw [← show _ = _ from HO.out, insOuter_stop _ _ _ _ _ hlt]
      exact S1.out
end Go.Proofs.YtppihpjcdieeoaaGreatDoor
/-
  The contract of the library's exchange of two neighbouring runs of records (slices.rotateCmpFunc at cmap.record). No conditions beyond those stated.
-/
namespace Go.Proofs.YtppihpjcdieeoaaGreatDoor
open Go.RowKit Go.Shelf Go.Lib Go.Sort

set_option maxHeartbeats 1600000 in
set_option maxRecDepth 100000 in
theorem rotate_any (g : Nat) (cb : Array Value) (blk off cap N a m b : Nat) (d0 d : Array Sy.Rec) (w0 w : World)
    (R : _root_.Go.Proofs.RowK encCm 2 w0 blk off d0) (hs : d0.size = N) (hN : d.size = N) (S : SWK encCm 2 w0 blk off d w) (h1 : a < m) (h2 : m < b) (h3 : b ≤ N) (hsz : N < 4611686018427387904) :
    Calls Tryz.prog 153 #[.slice (some ⟨blk, off, none⟩) N cap, .int .i64 a, .int .i64 m, .int .i64 b, .func (.func g) #[] cb] w fun e w' =>
      e = .returned (.tuple #[]) ∧ ∃ d', SWK encCm 2 w0 blk off d' w' ∧ d'.size = N ∧ PermIn a b d d' ∧ ∀ t, d'[t]! = Sy.rsp m (m - a) (b - m) d t := by
  have S0 : Aside (SWK encCm 2 w0 blk off d w) := S
  have HC : Aside (∀ (x y n : Nat) (dk : Array Sy.Rec) (W : World), dk.size = N → SWK encCm 2 w0 blk off dk W → x + n ≤ y → y + n ≤ N → Calls Tryz.prog 155 #[.slice (some ⟨blk, off, none⟩) N cap, .int .i64 x, .int .i64 y, .int .i64 n, .func (.func g) #[] cb] W fun e w' => e = .returned (.tuple #[]) ∧ SWK encCm 2 w0 blk off (Sy.swapR x y 0 n dk) w') :=
    fun x y n dk W hk hS i j => swapRange_any g cb blk off cap N x y n d0 dk w0 W R hs hk hS i j hsz
  clear S
  go_enter Tryz.func153, Tryz.ntmps153
  go_wp2_with fail
  go_loopg [10, 11] (m - a + (b - m)) (fun kx s10 s11 wr => ∃ (i j : Nat) (dk : Array Sy.Rec), s10 = .int .i64 i ∧ s11 = .int .i64 j ∧ 0 < i ∧ 0 < j ∧ i + j ≤ kx ∧ i ≤ m - a ∧ j ≤ b - m ∧ dk.size = N ∧ Aside (SWK encCm 2 w0 blk off dk wr) ∧ Aside (PermIn a b d dk) ∧ Aside (∀ t, Sy.rsp m i j dk t = Sy.rsp m (m - a) (b - m) d t))
  case atStart => exact ⟨m - a, b - m, d, by go_num, by go_num, by omega, by omega, Nat.le_refl _, Nat.le_refl _, Nat.le_refl _, hN, S0, permIn_refl d a b, fun _ => rfl⟩
  case round =>
    clear S0
    obtain ⟨i, j, dk, rfl, rfl, hi, hj, hij, him, hjm, hds, S1, HP, HQ⟩ := hrel
    have e1 : (m : Int) - (i : Int) = ((m - i : Nat) : Int) := by omega
    by_cases hc : i = j
    · subst hc
      have C1 := HC.out (m - i) m i dk wr hds S1.out (by omega) (by omega)
      have C1' := Lib.hid C1
      clear C1 HC
      go_wp2_with fail
      refine C1'.out.mono ?_
      rintro e w1 ⟨rfl, S2⟩
      have S2' : Aside _ := S2
      clear S2 C1'
      go_wp2_with fail
      go_end0
      refine ⟨rfl, _, S2'.out, by rw [Sy.swapR_size]; exact hds, permIn_trans _ _ _ a b HP.out (Sy.swapR_perm (m - i) m a b i 0 dk (by omega) (by omega) (by omega) (by omega)), fun t => ?_⟩
      rw [Sy.rsp_even (by omega) (by omega), HQ.out]
    · by_cases hg : j < i
      · have C1 := HC.out (m - i) m j dk wr hds S1.out (by omega) (by omega)
        have C1' := Lib.hid C1
        clear C1
        go_wp2_with fail
        refine C1'.out.mono ?_
        rintro e w1 ⟨rfl, S2⟩
        have S2' : Aside _ := S2
        clear S2 C1' S1
        go_wp2_with fail
        go_roundg (i - j + j)
        case measure => omega
        case rel => exact ⟨i - j, j, _, by go_num, rfl, by omega, hj, Nat.le_refl _, by omega, hjm, by rw [Sy.swapR_size]; exact hds, S2'.out, permIn_trans _ _ _ a b HP.out (Sy.swapR_perm (m - i) m a b j 0 dk (by omega) (by omega) (by omega) (by omega)), fun t => by rw [Sy.rsp_left hj hg (by omega) (by omega), HQ.out]⟩
      · have e2 : (m : Int) + (j : Int) - (i : Int) = ((m + j - i : Nat) : Int) := by omega
        have C1 := HC.out (m - i) (m + j - i) i dk wr hds S1.out (by omega) (by omega)
        have C1' := Lib.hid C1
        clear C1
        go_wp2_with fail
        refine C1'.out.mono ?_
        rintro e w1 ⟨rfl, S2⟩
        have S2' : Aside _ := S2
        clear S2 C1' S1
        go_wp2_with fail
        go_roundg (i + (j - i))
        case measure => omega
        case rel => exact ⟨i, j - i, _, rfl, by go_num, hi, by omega, Nat.le_refl _, him, by omega, by rw [Sy.swapR_size]; exact hds, S2'.out, permIn_trans _ _ _ a b HP.out (Sy.swapR_perm (m - i) (m + j - i) a b i 0 dk (by omega) (by omega) (by omega) (by omega)), fun t => by rw [Sy.rsp_right hi (by omega) (by omega) (by omega), HQ.out]⟩
end Go.Proofs.YtppihpjcdieeoaaGreatDoor
