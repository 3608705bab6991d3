/-
  Facts that the walks rest on: CoJoin, CoRanged, CoPutW. No conditions beyond those stated.
-/
import Derived.Test.YtcnmfgdeanbhoaaPart09
import Derived.Test.YtcnmfgdeanbhoaaPart12
import Derived.Test.YtcnmfgdeanbhoaaPart11
/-
  The contract of cover.joined: an iterator over the longest ranges of a valid list. No conditions beyond those stated.
-/
namespace Go.Proofs.Ytcnmfgdeanbhoaa
open Go.RowKit Go.Shelf
attribute [local go_sem] Oper.semAt_some wide_fn wide_depth

set_option maxHeartbeats 1000000 in
theorem joined_make (m : Nat) (a : Option Addr) (len cap : Nat) (w : World) :
    CallsIn Fence.wide m Try.prog 79 #[.slice a len cap] w fun e w' => e = .returned (.func (.func 85) #[] #[.pointer (some ⟨w.heap.size, 0, none⟩)]) ∧ w' = w.alloc (.cells #[.slice a len cap] 33) := by
  refine callsIn_of_wp Try.func79 rfl trivial ?_ rfl
  simp only [Try.ntmps79, List.size_toArray, List.length_cons, List.length_nil, Nat.reduceAdd, Nat.reduceSub, Array.replicate_succ, Array.replicate_zero, List.push_toArray, List.append_toArray, List.nil_append, List.cons_append]
  gi_wp2
  go_ret
  exact ⟨rfl, rfl⟩

abbrev T3 := Int × Int × Int
/-- What the loop's variables get of a range: how many are before, the first and the last. -/
def encJ (x : T3) : Array Value := #[.int .i64 x.2.2, .agg #[.int .i64 x.1, .int .i64 x.2.1]]

set_option maxRecDepth 100000 in
set_option maxHeartbeats 3200000 in
theorem joined_in (m l n₀ n₁ B : Nat) (xs : List Int) (hc : Co.isCov xs = true) (n : Nat) (hn : xs.length = n) (J Jx : List T3 → World → Prop)
    (hY : ∀ (m : Nat) pre x W, J pre W → pre.length < (Co.tr xs).length → YieldAt Fence.wide m Try.prog l (encJ x) W fun e W' => (e = .returned (.bool true) ∧ J (pre ++ [x]) W' ∧ KpS n₀ n₁ B W W') ∨ (e = .returned (.bool false) ∧ Jx (pre ++ [x]) W'))
    (p : Option Addr) (cap B1 : Nat) (W : World) (hx : ∀ W', KpS n₀ n₁ B W W' → Row W' (.slice p n cap) xs) (h1 : Boxed W B1 33 (.slice p n cap))
    (hb1 : n₁ ≤ B1) (ho1 : ¬ Owned B W B1) (hg : Good B W) (h0 : J [] W) :
    CallsIn Fence.wide m Try.prog 85 #[.func (.yield l) #[] #[], .pointer (some ⟨B1, 0, none⟩)] W fun e W' => (∃ v, e = .returned v) ∧
      ((∃ ys, ys = Co.tr xs ∧ J ys W') ∨ (∃ pre, True ∧ Jx pre W')) := by
  have HX := Lib.hid hx
  have H1 := Lib.hid (fun W' (h : KpS n₀ n₁ B W W') => h.keep hg h1 rfl hb1 ho1)
  have HN := Lib.hid hn
  have HM := Lib.hid (Co.cov_mem hc)
  have hnn : n ≤ 65535 := by rw [← hn]; exact Co.cov_len hc
  have c1 := h1.cell
  have HT : Hid ([] ++ Co.jn 0 0 (xs.getD 0 0) (xs.drop 0) = Co.tr xs) := Lib.hid (by rw [List.nil_append, List.drop_zero]; exact Co.jn_all xs)
  generalize Co.tr xs = T at *
  clear h1 ho1 hg hx hn hc
  refine callsIn_of_wp Try.func85 rfl trivial ?_ rfl
  simp only [Try.ntmps85, List.size_toArray, List.length_cons, List.length_nil, Nat.reduceAdd, Nat.reduceSub, Array.replicate_succ, Array.replicate_zero, List.push_toArray, List.append_toArray, List.nil_append, List.cons_append]
  gi_wp2
  clear c1
  gi_loopw [3, 8] (fun s i wr => ∃ (k f : Nat) (Y : List T3), k ≤ n ∧ f ≤ k ∧ i = .int .i64 (k : Int) ∧ s = .int .i64 (f : Int) ∧ Hid (Y ++ Co.jn k f (xs.getD f 0) (xs.drop k) = T) ∧ Hid (J Y wr) ∧ Hid (KpS n₀ n₁ B W wr))
    (fun _ i _ => (n - (intOf i).toNat))
  case atStart => exact ⟨0, 0, [], Nat.zero_le _, Nat.le_refl _, rfl, rfl, HT, Lib.hid h0, Lib.hid (KpS.refl _ _ _ _)⟩
  case round =>
    obtain ⟨k, f, Y, hk, hfk, rfl, rfl, HY0, HJ, HK⟩ := hrel
    have cB : wr.cell? ⟨B1, 0, none⟩ = some (.slice p n cap) := block_cell (H1.out _ HK.out).1 rfl
    by_cases hlt : k < n
    · have hrow := HX.out _ HK.out
      obtain ⟨b, off, rfl, dk⟩ := hrow.at_ (k := k) hlt
      obtain ⟨b', off', e1, df⟩ := hrow.at_ (k := f) (by omega)
      simp only [Option.some.injEq, Addr.mk.injEq, and_true] at e1
      obtain ⟨rfl, rfl⟩ := e1
      have hgk := HM.out (xs.getD k 0) (by rw [List.getD, List.getElem?_eq_getElem (show k < xs.length by rw [HN.out]; exact hlt)]; exact List.getElem_mem _)
      have hklen : k < xs.length := by rw [HN.out]; exact hlt
      by_cases hc1 : k + 1 < n
      · obtain ⟨b', off', e2, d2⟩ := hrow.at_ (k := k + 1) hc1
        simp only [Option.some.injEq, Addr.mk.injEq, and_true] at e2
        obtain ⟨rfl, rfl⟩ := e2
        by_cases hc2 : xs.getD (k + 1) 0 = xs.getD k 0 + 1
        · have HS : Hid (Y ++ Co.jn (k + 1) f (xs.getD f 0) (xs.drop (k + 1)) = T) := Lib.hid (by rw [← Co.jn_same hklen ⟨by rw [HN.out]; exact hc1, hc2⟩]; exact HY0.out)
          rw [hc2] at d2
          clear hrow HY0 hc2 df hklen
          generalize xs.getD k 0 = g at *
          gi_wp2
          go_roundw
          case rel => exact ⟨k + 1, f, Y, by omega, by omega, by go_num, rfl, HS, HJ, HK⟩
          case measure => simp [intOf]; omega
        · have HS : Hid ((Y ++ [(xs.getD f 0, xs.getD k 0, (f : Int))]) ++ Co.jn (k + 1) (k + 1) (xs.getD (k + 1) 0) (xs.drop (k + 1)) = T) := Lib.hid (by rw [List.append_assoc, List.singleton_append, ← Co.jn_next hklen (fun h => hc2 h.2)]; exact HY0.out)
          have hYl : Y.length < T.length := by rw [← HS.out]; simp
          have hqf : (xs.getD (k + 1) 0 == xs.getD k 0 + 1) = false := by simpa using hc2
          obtain ⟨fn, tmps, assign, body, hy, hR⟩ := hY (m - 1) Y (xs.getD f 0, xs.getD k 0, (f : Int)) wr HJ.out hYl
          unfold encJ at hy
          dsimp only at hy
          have hf0 : (f : Int) < (n : Int) := by omega
          clear hrow HY0 hc2 hYl hklen
          generalize hg1 : xs.getD (k + 1) 0 = g1 at *
          have HG1 := Lib.hid hg1
          clear hg1
          generalize xs.getD k 0 = g at *
          generalize xs.getD f 0 = gf at *
          gi_wp2
          refine hR.mono ?_
          rintro e W3 (⟨rfl, hJ3, hk3⟩ | ⟨rfl, hJx3⟩)
          · have HJ3 := Lib.hid hJ3
            have HK3 := Lib.hid (HK.out.trans hk3)
            clear hJ3 hk3 hy hR dk df d2 cB
            gi_wp2
            go_roundw
            case rel => exact ⟨k + 1, k + 1, _, by omega, by omega, by go_num, by go_num, Lib.hid (by rw [HG1.out]; exact HS.out), HJ3, HK3⟩
            case measure => simp [intOf]; omega
          · have HJ3 := Lib.hid hJx3
            clear hJx3 hy hR dk df d2 cB
            gi_wp2
            refine bodyPost_ret (results_none rfl _ _ _) rfl ?_
            exact ⟨⟨_, rfl⟩, .inr ⟨_, trivial, HJ3.out⟩⟩
      · have HS : Hid ((Y ++ [(xs.getD f 0, xs.getD k 0, (f : Int))]) ++ Co.jn (k + 1) (k + 1) (xs.getD (k + 1) 0) (xs.drop (k + 1)) = T) := Lib.hid (by rw [List.append_assoc, List.singleton_append, ← Co.jn_next hklen (fun h => hc1 (by rw [← HN.out]; exact h.1))]; exact HY0.out)
        have hYl : Y.length < T.length := by rw [← HS.out]; simp
        obtain ⟨fn, tmps, assign, body, hy, hR⟩ := hY (m - 1) Y (xs.getD f 0, xs.getD k 0, (f : Int)) wr HJ.out hYl
        unfold encJ at hy
        dsimp only at hy
        have hf0 : (f : Int) < (n : Int) := by omega
        clear hrow HY0 hYl hklen
        generalize hg1 : xs.getD (k + 1) 0 = g1 at *
        have HG1 := Lib.hid hg1
        clear hg1
        generalize xs.getD k 0 = g at *
        generalize xs.getD f 0 = gf at *
        gi_wp2
        refine hR.mono ?_
        rintro e W3 (⟨rfl, hJ3, hk3⟩ | ⟨rfl, hJx3⟩)
        · have HJ3 := Lib.hid hJ3
          have HK3 := Lib.hid (HK.out.trans hk3)
          clear hJ3 hk3 hy hR dk df cB
          gi_wp2
          go_roundw
          case rel => exact ⟨k + 1, k + 1, _, by omega, by omega, by go_num, by go_num, Lib.hid (by rw [HG1.out]; exact HS.out), HJ3, HK3⟩
          case measure => simp [intOf]; omega
        · have HJ3 := Lib.hid hJx3
          clear hJx3 hy hR dk df cB
          gi_wp2
          refine bodyPost_ret (results_none rfl _ _ _) rfl ?_
          exact ⟨⟨_, rfl⟩, .inr ⟨_, trivial, HJ3.out⟩⟩
    · obtain rfl : k = n := by omega
      have HE : Hid (Y = T) := Lib.hid (by
        have h := HY0.out
        rw [List.drop_of_length_le (by rw [HN.out]; omega)] at h
        rw [← h]; exact (List.append_nil Y).symm)
      gi_wp2
      go_end0
      exact ⟨⟨_, rfl⟩, .inl ⟨Y, HE.out, HJ.out⟩⟩

/-- The iterator's contract, as a loop takes it. -/
theorem joined_stops (n₀ n₁ B : Nat) (xs : List Int) (hc : Co.isCov xs = true) (n : Nat) (hn : xs.length = n) (p : Option Addr) (cap B1 : Nat) (w : World) (hn0 : n₀ ≤ w.heap.size) (hB : Boxed w B 33 (.slice none 0 0))
    (hx : ∀ W', Below n₀ w W' → Row W' (.slice p n cap) xs) (h1 : Boxed w B1 33 (.slice p n cap)) (hb1 : n₁ ≤ B1) (m : Nat) :
    SeqStopsK Fence.wide m Try.prog 85 #[.pointer (some ⟨B1, 0, none⟩)] encJ (KpS n₀ n₁ B) (fun ys => ys = Co.tr xs) (fun _ => True) (Co.tr xs).length w := by
  intro l J Jx W hW hJ hJx hY h0
  have hno : ∀ b, ¬ Owned B W b := fun b hb => by
    obtain ⟨v, hv, hb⟩ := hb
    rw [hW.cell (p := ⟨B, 0, none⟩) hB.lt, hB.cell] at hv
    cases hv
    simp [Value.ownBlock] at hb
  have hk : ∀ {b : Nat} {o : Obj}, w.heap[b]? = some o → W.heap[b]? = some o := fun {b o} h => (hW.block b (Array.getElem?_eq_some_iff.1 h).1).trans h
  exact joined_in m l n₀ n₁ B xs hc n hn J Jx (fun m' pre x W1 h hl => YieldAt.anyDepth wide_depth m' (hY pre x W1 h hl)) p cap B1 W
    (fun W' hk' => hx W' ((hW.mono hn0).trans hk'.below)) (hk h1) hb1 (hno _) ⟨Nat.lt_of_lt_of_le hB.lt hW.size, fun b hb => absurd hb (hno b)⟩ h0
end Go.Proofs.Ytcnmfgdeanbhoaa
/-
  The contract of cover.ranged: the fields of a valid list's ranges. No conditions beyond those stated.
-/
namespace Go.Proofs.Ytcnmfgdeanbhoaa
open Go.RowKit Go.Shelf
attribute [local go_sem] Oper.semAt_some wide_fn wide_depth

/-- A range's box. -/
def PairAt (W : World) (B : Nat) (x : T3) : Prop := W.heap[B]? = some (.cells #[.int .i64 x.1, .int .i64 x.2.1] 103 (0, 0))
theorem pair_own (B : Nat) (x : T3) {X Y : World} {row : Option Nat} (h : PairAt X B x) (hg : X.grownBy Y row) (hr : ∀ r, row = some r → ∃ o : Obj, X.heap[r]? = some o ∧ o.isCells = false) : PairAt Y B x := by
  refine (hg.block B (Array.getElem?_eq_some_iff.1 h).1 (fun e => ?_)).trans h
  obtain ⟨o, ho, hf⟩ := hr B e.symm
  rw [show X.heap[B]? = _ from h] at ho
  cases ho
  simp [Obj.isCells] at hf
theorem three_ints (a b c : Int) : ∀ u ∈ [Value.int .i64 a, Value.int .i64 b, Value.int .i64 c], u.oneCell' = true := by
  intro u hu
  simp only [List.mem_cons, List.not_mem_nil, or_false] at hu
  rcases hu with rfl | rfl | rfl <;> rfl
theorem ints_three (l : List Int) (a b c : Int) : ints l ++ [Value.int .i64 a, Value.int .i64 b, Value.int .i64 c] = ints (l ++ [a, b, c]) := (ints_append l [a, b, c]).symm

set_option maxRecDepth 100000 in
set_option maxHeartbeats 3200000 in
/-- cover.ranged. -/
theorem ranged_any (xs : List Int) (hc : Co.isCov xs = true) (v : Value) (w : World) (h : Row w v xs) :
    Calls Try.prog 63 #[v] w fun e w' => ∃ p c, e = .returned (.slice p (Co.nums (Co.tr xs)).length c) ∧ Row w' (.slice p (Co.nums (Co.tr xs)).length c) (Co.nums (Co.tr xs)) ∧ Lo w w' := by
  have HI := Lib.hid h
  obtain ⟨p, c, rfl, _⟩ := h.form
  have HC := Lib.hid hc
  have HTl : Hid ((Co.tr xs).length ≤ 65535) := Lib.hid (by have h1 := Co.tr_len xs; have h2 := Co.runs_len xs; have h3 := Co.cov_len hc; omega)
  obtain ⟨n, hnn⟩ : ∃ n, xs.length = n := ⟨_, rfl⟩
  rw [hnn] at HI ⊢
  have HN := Lib.hid hnn
  clear h hc hnn
  refine (callsIn_wide (n := 9)).1 ?_
  refine callsIn_of_wp_marks Try.func63 rfl trivial ?_ rfl
  simp only [Try.ntmps63, List.size_toArray, List.length_cons, List.length_nil, Nat.reduceAdd, Nat.reduceSub, Array.replicate_succ, Array.replicate_zero, List.push_toArray, List.append_toArray, List.nil_append, List.cons_append]
  gi_wp2_with (gi_at_call 79; refine (joined_make _ _ _ _ _).mono ?_; rintro e w' ⟨rfl, rfl⟩)
  have bA := (Boxed.new w 33 (.slice none 0 0)).alloc (.cells #[.slice p n c] 33)
  have bL := Boxed.new (w.alloc (.cells #[.slice none 0 0] 33)) 33 (.slice p n c)
  simp only [World.size_alloc] at bL
  have hB0 : Lo w ((w.alloc (.cells #[.slice none 0 0] 33)).alloc (.cells #[.slice p n c] 33)) := ((Lo.refl w).alloc _).alloc _
  have hsz : ((w.alloc (.cells #[.slice none 0 0] 33)).alloc (.cells #[.slice p n c] 33)).heap.size = w.heap.size + 2 := by simp
  obtain ⟨W0, hW0⟩ : ∃ W0, (w.alloc (.cells #[.slice none 0 0] 33)).alloc (.cells #[.slice p n c] 33) = W0 := ⟨_, rfl⟩
  rw [hW0] at bA bL hB0 hsz ⊢
  clear hW0
  have hst := joined_stops w.heap.size (w.heap.size + 1) w.heap.size xs HC.out n HN.out p c (w.heap.size + 1) W0 (by omega) bA (fun W' hW' => Row.lo HI.out (Below.trans hB0 hW')) bL (by omega) 8
  have HTT : Hid (∀ ys, ys = Co.tr xs → Co.nums ys = Co.nums (Co.tr xs)) := Lib.hid (fun ys h => by rw [h])
  generalize hT : Co.tr xs = T at *
  have HTe := Lib.hid hT
  clear hT
  have hIo : OwnFrom W0.heap.size (fun (pre : List T3) W => (∃ v, Boxed W w.heap.size 33 v ∧ W.ownsRow w.heap.size 3 1 v (Co.nums pre).length (ints (Co.nums pre)) ∧ True) ∧ Below w.heap.size w W) :=
    OwnFrom.and (Go.Own.from (holdsRow_own w.heap.size w.heap.size 33 3 1 (fun (pre : List T3) => (Co.nums pre).length) (fun pre => ints (Co.nums pre)) (fun _ _ => True)) _) (ownFrom_below (Nat.le_refl _) (by omega))
  refine wpIn_rangeFunc_ownH rfl (by omega) (gf := 85) (lb := #[.pointer (some ⟨w.heap.size + 1, 0, none⟩)]) rfl trivial (enters_of Try.func85 (by kernel_rfl) rfl)
    hst kpS_t (kpS_b (by omega) (by omega)) (Below.refl _ _) (fun _ => rfl) _ (fun _ _ _ => False) hIo (fun _ _ _ _ _ h _ _ => h)
    ⟨⟨_, bA, World.ownsRow_nil _ _ _ _, trivial⟩, hB0⟩
    (fun x a' W => ∃ Bx, PairAt W Bx x ∧ a' = { tmps := #[.slice p n c, undef, .slice none 0 0, .pointer (some ⟨w.heap.size, 0, none⟩), .int .i64 x.2.2, .pointer (some ⟨Bx, 0, none⟩),
        .slice p n c, .func (.func 85) #[] #[.pointer (some ⟨w.heap.size + 1, 0, none⟩)], .int .i64 x.2.2, .agg #[.int .i64 x.1, .int .i64 x.2.1],
        undef, undef, undef, undef, undef, undef, undef, undef, undef], defers := [] })
    (fun x a' _ X Y row hs hg hr => by obtain ⟨Bx, h2, h3⟩ := hs; exact ⟨Bx, pair_own Bx x h2 hg (fun r e => (hr r e).2), h3⟩)
    ?assign ?body ?done ?stop
  case assign =>
    rintro l' pre x W K hI hK
    have hws : w.heap.size ≤ W.heap.size := hI.2.size
    have hI' := hIo.alloc (.cells #[.int .i64 x.1, .int .i64 x.2.1] 103) hI
    have hK' := Lib.hid (fun a' => hK a' (W.alloc (.cells #[.int .i64 x.1, .int .i64 x.2.1] 103)) ((KeepsOthers.alloc _ _).from _) (KpS.alloc hws _) hI')
    clear hK
    unfold encJ
    gi_wp2
    exact hK'.out _ ⟨W.heap.size, new_block W _, rfl⟩
  case body =>
    rintro l' pre x a' W hl ⟨r, hr⟩ ⟨⟨v, hv, hrow, -⟩, hBe⟩ ⟨Bx, bX, rfl⟩ hlt
    obtain ⟨pv, cv, rfl⟩ := own_ints hrow
    obtain ⟨x0, x1, x2⟩ := x
    unfold PairAt at bX
    dsimp only at bX ⊢
    have cX0 : W.cell? ⟨Bx, 0, none⟩ = some (.int .i64 x0) := block_cell bX rfl
    have cX1 : W.cell? ⟨Bx, 1, none⟩ = some (.int .i64 x1) := block_cell bX rfl
    have cA := hv.cell
    have h1' : 1 ≤ 9 - 1 - 1 := by omega
    have HNu : Hid (Co.nums (pre ++ [(x0, x1, x2)]) = Co.nums pre ++ [x0, x1, x2]) := Lib.hid (by rw [Co.nums_append]; rfl)
    have hL : (Co.nums pre).length ≤ 200000 := by rw [Co.nums_len]; have := HTl.out; omega
    have HLe : Hid ((Co.nums (pre ++ [(x0, x1, x2)])).length = (Co.nums pre).length + 3) := Lib.hid (by rw [HNu.out, List.length_append]; rfl)
    obtain ⟨i0, hi0, hq0, hq1, hq2⟩ := info_parts int_info
    generalize Co.nums pre = o at *
    gi_wp2_with (gi_at_builtin; refine wpListIn_append_own_at _ rfl _ _ 33 rfl w.heap.size 3 i0 (.int .i64 0) 1 8 Try.underlying33 hi0 hq0 hq1 hq2 rfl (by decide) _ _ _ rfl (hrow.alloc _) ⟨W.heap.size, 0, none⟩ 3 3 [.int .i64 x0, .int .i64 x1, .int .i64 x2] rfl rfl (cells_new W [.int .i64 x0, .int .i64 x1, .int .i64 x2] 3) (three_ints x0 x1 x2) (by unfold maxLen; omega) (by omega) (by have := hBe.size; simp; omega) ?_; intro v' w2 hown' hgrow _ hat; obtain ⟨g', cap', rfl⟩ := ownsRow_succ hown'; obtain ⟨hv1, hv2, hr2, hk2, hb2⟩ := hv.appended (by decide) hrow hBe.size (by omega) hown' hgrow; have hKp := Lib.hid (KpS.grown (n₁ := w.heap.size + 1) hv (by decide) hrow hBe.size (by omega) (by omega) hown' hgrow hat); have hc1 := hv1.cell; have hf1 := hv1.frozen)
    rw [ints_three] at hr2
    exact ⟨hk2.from _, hKp.out, ⟨_, hv2, by rw [HLe.out, HNu.out]; exact ⟨hr2, trivial⟩⟩, Below.trans hBe hb2⟩
  case done =>
    rintro D ys W hD hys ⟨⟨v, hv, hrow, -⟩, hBe⟩ hK
    rw [HTT.out ys hys] at hrow
    obtain ⟨pv, cv, rfl⟩ := own_ints hrow
    have cA := hv.cell
    have HRw := Lib.hid hrow
    clear hrow
    gi_wp2
    refine ⟨by simp, .inl ⟨_, _, rfl, run_takeDeferred hK, ?_⟩⟩
    refine ⟨.slice pv (Co.nums T).length cv, ?_, ?_⟩
    · simp [results, Try.f63, go_sem]
    · rw [HTe.out]
      exact ⟨_, _, rfl, Own.row (base := w.heap.size) (ownsRow_putObj HRw.out (.deferred none) hK rfl), hBe.trans (belowK_b (w := w) (Nat.le_refl _) _ D _ _ (by omega) hK rfl rfl)⟩
  case stop =>
    rintro D c' pre W hD _ hF
    exact hF.elim
end Go.Proofs.Ytcnmfgdeanbhoaa
/-
  The contracts of cover.written and cover.Put: they answer what the plain function says. No conditions beyond those stated.
-/
namespace Go.Proofs.Ytcnmfgdeanbhoaa
open Go.RowKit

theorem own_lit2 (w : World) (base : Nat) (hb : base ≤ w.heap.size) (a b : Int) : Own (w.alloc (.cells #[.int .i64 a, .int .i64 b] 3)) base (.slice (some ⟨w.heap.size, 0, none⟩) 2 2) [a, b] :=
  ⟨rfl, .inr ⟨w.heap.size, 2, _, rfl, hb, new_block w _, Nat.le_refl _, by unfold maxLen; omega, rfl, rfl⟩⟩

set_option maxHeartbeats 800000 in
/-- cover.written. -/
theorem cowritten_any (f c : Int) (l : List Int) (n : Nat) (b : List UInt8) (v : Value) (w : World) (h : Row w v l) (hn : l.length = n) (hn2 : n ≤ 196605) (hp : Bn.put (Co.sz ([f, c] ++ l).length) ([f, c] ++ l) = (b, 0)) :
    Calls Try.prog 64 #[.int .i64 f, .int .i64 c, v] w fun e w' => e = .returned (.string ⟨b.toArray⟩) ∧ Lo w w' := by
  have HR := Lib.hid h
  have HN := Lib.hid hn
  obtain ⟨p, cp, rfl, _⟩ := h.form
  rw [hn] at HR ⊢
  have hlen : ([f, c] ++ l).length = 2 + n := by rw [List.length_append, hn]; rfl
  rw [hlen] at hp
  have HZ := Lib.hid (fun W => cosizes_any (2 + n) W (by omega))
  have HP := Lib.hid (fun W (v u : Value) (h1 : Row W v (Co.sz (2 + n))) (h2 : Row W u ([f, c] ++ l)) => put_any (Co.sz (2 + n)) ([f, c] ++ l) v u W h1 h2 (by rw [Co.sz_len]; omega))
  rw [hp] at HP
  unfold strErr at HP
  have HLe := Lib.hid hlen
  clear h hn hp hlen
  go_enter Try.func64, Try.ntmps64
  go_wp2_with (at_builtin; refine wpList_app _ rfl (.tmp 12) (.tmp 13) rfl w.heap.size (.slice (some ⟨w.heap.size, 0, none⟩) 2 2) [f, c] rfl (own_lit2 w w.heap.size (Nat.le_refl _) f c) _ l rfl (HR.out.lo ((Lo.refl _).alloc _)) (by rw [HN.out]; simp; omega) (by simp) ?_; intro q c2 w1 hown hlo; have HO := Lib.hid hown.row; have HL := Lib.hid (hlo w ((Lo.refl w).alloc _) rfl); clear hown hlo; rw [HN.out] at HO ⊢)
  simp only [List.length_cons, List.length_nil, Nat.zero_add, Nat.reduceAdd] at HO ⊢
  have hcast : (((2 + n : Nat) : Int)) = ((2 + n : Nat) : Int) := rfl
  refine (HZ.out _).mono ?_
  rintro e w2 ⟨p2, c3, rfl, hrow, lo⟩
  have HRz := Lib.hid hrow
  have HRo := Lib.hid (HO.out.lo lo)
  have HL2 := Lib.hid (HL.out.trans lo)
  clear hrow lo HO HL HZ hcast
  go_wp2_with fail
  refine (HP.out _ _ _ HRz.out HRo.out).mono ?_
  rintro e w3 ⟨rfl, lo⟩
  have HL3 := Lib.hid (HL2.out.trans lo)
  clear lo HRz HRo HL2 HP
  go_wp2_with fail
  go_ret
  exact ⟨rfl, HL3.out⟩

set_option maxHeartbeats 800000 in
theorem coput_arg (v : Value) (l : List Int) (w : World) (h : Row w v l) (hc : Co.isCov l = false) : Calls Try.prog 32 #[v] w fun e w' => e = strErr ([], 1) ∧ Lo w w' := by
  have HI := Lib.hid (cois_any v l w h)
  rw [hc] at HI
  obtain ⟨p, c, rfl, _⟩ := h.form
  unfold strErr
  clear h hc
  go_enter Try.func32, Try.ntmps32
  go_wp2_with fail
  refine HI.out.mono ?_
  rintro e w1 ⟨rfl, rfl⟩
  go_wp2_with fail
  go_ret2
  exact ⟨rfl, Lo.refl _⟩

set_option maxHeartbeats 800000 in
theorem coput_ok (v : Value) (l : List Int) (w : World) (h : Row w v l) (hc : Co.isCov l = true) : Calls Try.prog 32 #[v] w fun e w' => e = strErr (Co.put l) ∧ Lo w w' := by
  have HI := Lib.hid (cois_any v l w h)
  rw [hc] at HI
  have HRg := Lib.hid (ranged_any l hc v w h)
  have hlen : (Co.nums (Co.tr l)).length = 3 * (Co.runs l).length := by rw [Co.nums_len, Co.tr_len]
  have hcl := Co.cov_len hc
  have hrl := Co.runs_len l
  have H2 := Lib.hid (fun W u (k : Row W u (Co.nums (Co.tr l))) => cowritten_any 2 ((Co.runs l).length : Int) (Co.nums (Co.tr l)) _ (Co.two l) u W k hlen (by omega) (Co.put_two hc))
  obtain ⟨n, hn⟩ : ∃ n, l.length = n := ⟨_, rfl⟩
  have H1 := Lib.hid (fun W u (k : Row W u l) => cowritten_any 1 (l.length : Int) l n (Co.one l) u W k hn (by omega) (Co.put_one hc))
  have HP : Hid (Co.put l = if 3 * (Co.runs l).length < n then (Co.two l, 0) else (Co.one l, 0)) := Lib.hid (by
    unfold Co.put
    rw [if_neg (by rw [hc]; simp), hn]
    by_cases c : 3 * (Co.runs l).length < n
    · rw [if_pos c, if_pos (by omega)]
    · rw [if_neg c, if_neg (by omega)])
  obtain ⟨p, c, rfl, _⟩ := h.form
  have HR := Lib.hid h
  rw [hlen] at HRg
  rw [hn] at *
  generalize Co.nums (Co.tr l) = q at *
  generalize (Co.runs l).length = r at *
  clear h hc hlen
  by_cases hlt : 3 * r < n
  · rw [if_pos hlt] at HP
    have hdiv : ((3 * r : Nat) : Int) / 3 = (r : Int) := by omega
    have hlt2 : ((3 * r : Nat) : Int) < (n : Int) := by omega
    go_enter Try.func32, Try.ntmps32
    generalize 3 * r = L at *
    go_wp2_with fail
    refine HI.out.mono ?_
    rintro e w1 ⟨rfl, rfl⟩
    go_wp2_with fail
    refine HRg.out.mono ?_
    rintro e w2 ⟨p2, c2, rfl, hrow, lo⟩
    have HL := Lib.hid lo
    have HR2 := Lib.hid hrow
    clear hrow lo HI HRg
    go_wp2_with fail
    refine (H2.out _ _ HR2.out).mono ?_
    rintro e w3 ⟨rfl, lo⟩
    have HL2 := Lib.hid (HL.out.trans lo)
    clear lo
    go_wp2_with fail
    go_ret2
    rw [HP.out]
    exact ⟨rfl, HL2.out⟩
  · rw [if_neg hlt] at HP
    have hlt2 : ¬ ((3 * r : Nat) : Int) < (n : Int) := by omega
    go_enter Try.func32, Try.ntmps32
    generalize 3 * r = L at *
    go_wp2_with fail
    refine HI.out.mono ?_
    rintro e w1 ⟨rfl, rfl⟩
    go_wp2_with fail
    refine HRg.out.mono ?_
    rintro e w2 ⟨p2, c2, rfl, hrow, lo⟩
    have HL := Lib.hid lo
    have HR2 := Lib.hid (HR.out.lo lo)
    clear hrow lo HI HRg
    go_wp2_with fail
    refine (H1.out _ _ HR2.out).mono ?_
    rintro e w3 ⟨rfl, lo⟩
    have HL2 := Lib.hid (HL.out.trans lo)
    clear lo
    go_wp2_with fail
    go_ret2
    rw [HP.out]
    exact ⟨rfl, HL2.out⟩

/-- cover.Put. -/
theorem coput_any (v : Value) (l : List Int) (w : World) (h : Row w v l) : Calls Try.prog 32 #[v] w fun e w' => e = strErr (Co.put l) ∧ Lo w w' := by
  cases hc : Co.isCov l with
  | false => rw [show Co.put l = ([], 1) by unfold Co.put; rw [if_pos hc]]; exact coput_arg v l w h hc
  | true => exact coput_ok v l w h hc
end Go.Proofs.Ytcnmfgdeanbhoaa
