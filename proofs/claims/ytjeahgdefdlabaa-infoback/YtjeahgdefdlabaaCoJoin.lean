/-
  The contract of cover.joined: an iterator over the longest ranges of a valid list. No conditions beyond those stated.
-/
import Derived.Test.YtjeahgdefdlabaaCoTab
import Derived.Test.YtjeahgdefdlabaaCoRuns
namespace Go.Proofs.Ytjeahgdefdlabaa
open Go.RowKit Go.Shelf
attribute [local go_sem] Oper.semAt_some wide_fn wide_depth

set_option maxHeartbeats 1000000 in
theorem joined_make (m : Nat) (a : Option Addr) (len cap : Nat) (w : World) :
    CallsIn Fence.wide m Try.prog 58 #[.slice a len cap] w fun e w' => e = .returned (.func (.func 62) #[] #[.pointer (some ⟨w.heap.size, 0, none⟩)]) ∧ w' = w.alloc (.cells #[.slice a len cap] 37) := by
  refine callsIn_of_wp Try.func58 rfl trivial ?_ rfl
  simp only [Try.ntmps58, List.size_toArray, List.length_cons, List.length_nil, Nat.reduceAdd, Nat.reduceSub, Array.replicate_succ, Array.replicate_zero, List.push_toArray, List.append_toArray, List.nil_append, List.cons_append]
  gi_wp2
  go_ret
  exact ⟨rfl, rfl⟩

abbrev T3 := Int × Int × Int
/-- What the loop's variables get of a range: how many are before, the first and the last. -/
def encJ (x : T3) : Array Value := #[.int .i64 x.2.2, .agg #[.int .i64 x.1, .int .i64 x.2.1]]

set_option maxRecDepth 100000 in
set_option maxHeartbeats 3200000 in
theorem joined_in (m l n₀ n₁ B : Nat) (xs : List Int) (hc : Co.isCov xs = true) (n : Nat) (hn : xs.length = n) (J Jx : List T3 → World → Prop)
    (hY : ∀ (m : Nat) pre x W, J pre W → pre.length < (Co.tr xs).length → YieldAt Fence.wide m Try.prog l (encJ x) W fun e W' => (e = .returned (.bool true) ∧ J (pre ++ [x]) W' ∧ KpS n₀ n₁ B W W') ∨ (e = .returned (.bool false) ∧ Jx (pre ++ [x]) W'))
    (p : Option Addr) (cap B1 : Nat) (W : World) (hx : ∀ W', KpS n₀ n₁ B W W' → Row W' (.slice p n cap) xs) (h1 : Boxed W B1 37 (.slice p n cap))
    (hb1 : n₁ ≤ B1) (ho1 : ¬ Owned B W B1) (hg : Good B W) (h0 : J [] W) :
    CallsIn Fence.wide m Try.prog 62 #[.func (.yield l) #[] #[], .pointer (some ⟨B1, 0, none⟩)] W fun e W' => (∃ v, e = .returned v) ∧
      ((∃ ys, ys = Co.tr xs ∧ J ys W') ∨ (∃ pre, True ∧ Jx pre W')) := by
  have HX := Lib.hid hx
  have H1 := Lib.hid (fun W' (h : KpS n₀ n₁ B W W') => h.keep hg h1 rfl hb1 ho1)
  have HN := Lib.hid hn
  have HM := Lib.hid (Co.cov_mem hc)
  have hnn : n ≤ 65535 := by rw [← hn]; exact Co.cov_len hc
  have c1 := h1.cell
  have HT : Hid ([] ++ Co.jn 0 0 (xs.getD 0 0) (xs.drop 0) = Co.tr xs) := Lib.hid (by rw [List.nil_append, List.drop_zero]; exact Co.jn_all xs)
  generalize Co.tr xs = T at *
  clear h1 ho1 hg hx hn hc
  refine callsIn_of_wp Try.func62 rfl trivial ?_ rfl
  simp only [Try.ntmps62, List.size_toArray, List.length_cons, List.length_nil, Nat.reduceAdd, Nat.reduceSub, Array.replicate_succ, Array.replicate_zero, List.push_toArray, List.append_toArray, List.nil_append, List.cons_append]
  gi_wp2
  clear c1
  gi_loopw [3, 8] (fun s i wr => ∃ (k f : Nat) (Y : List T3), k ≤ n ∧ f ≤ k ∧ i = .int .i64 (k : Int) ∧ s = .int .i64 (f : Int) ∧ Hid (Y ++ Co.jn k f (xs.getD f 0) (xs.drop k) = T) ∧ Hid (J Y wr) ∧ Hid (KpS n₀ n₁ B W wr))
    (fun _ i _ => (n - (intOf i).toNat))
  case atStart => exact ⟨0, 0, [], Nat.zero_le _, Nat.le_refl _, rfl, rfl, HT, Lib.hid h0, Lib.hid (KpS.refl _ _ _ _)⟩
  case round =>
    obtain ⟨k, f, Y, hk, hfk, rfl, rfl, HY0, HJ, HK⟩ := hrel
    have cB : wr.cell? ⟨B1, 0, none⟩ = some (.slice p n cap) := block_cell (H1.out _ HK.out).1 rfl
    by_cases hlt : k < n
    · have hrow := HX.out _ HK.out
      obtain ⟨b, off, rfl, dk⟩ := hrow.at_ (k := k) hlt
      obtain ⟨b', off', e1, df⟩ := hrow.at_ (k := f) (by omega)
      simp only [Option.some.injEq, Addr.mk.injEq, and_true] at e1
      obtain ⟨rfl, rfl⟩ := e1
      have hgk := HM.out (xs.getD k 0) (by rw [List.getD, List.getElem?_eq_getElem (show k < xs.length by rw [HN.out]; exact hlt)]; exact List.getElem_mem _)
      have hklen : k < xs.length := by rw [HN.out]; exact hlt
      by_cases hc1 : k + 1 < n
      · obtain ⟨b', off', e2, d2⟩ := hrow.at_ (k := k + 1) hc1
        simp only [Option.some.injEq, Addr.mk.injEq, and_true] at e2
        obtain ⟨rfl, rfl⟩ := e2
        by_cases hc2 : xs.getD (k + 1) 0 = xs.getD k 0 + 1
        · have HS : Hid (Y ++ Co.jn (k + 1) f (xs.getD f 0) (xs.drop (k + 1)) = T) := Lib.hid (by rw [← Co.jn_same hklen ⟨by rw [HN.out]; exact hc1, hc2⟩]; exact HY0.out)
          rw [hc2] at d2
          clear hrow HY0 hc2 df hklen
          generalize xs.getD k 0 = g at *
          gi_wp2
          go_roundw
          case rel => exact ⟨k + 1, f, Y, by omega, by omega, by go_num, rfl, HS, HJ, HK⟩
          case measure => simp [intOf]; omega
        · have HS : Hid ((Y ++ [(xs.getD f 0, xs.getD k 0, (f : Int))]) ++ Co.jn (k + 1) (k + 1) (xs.getD (k + 1) 0) (xs.drop (k + 1)) = T) := Lib.hid (by rw [List.append_assoc, List.singleton_append, ← Co.jn_next hklen (fun h => hc2 h.2)]; exact HY0.out)
          have hYl : Y.length < T.length := by rw [← HS.out]; simp
          have hqf : (xs.getD (k + 1) 0 == xs.getD k 0 + 1) = false := by simpa using hc2
          obtain ⟨fn, tmps, assign, body, hy, hR⟩ := hY (m - 1) Y (xs.getD f 0, xs.getD k 0, (f : Int)) wr HJ.out hYl
          unfold encJ at hy
          dsimp only at hy
          have hf0 : (f : Int) < (n : Int) := by omega
          clear hrow HY0 hc2 hYl hklen
          generalize hg1 : xs.getD (k + 1) 0 = g1 at *
          have HG1 := Lib.hid hg1
          clear hg1
          generalize xs.getD k 0 = g at *
          generalize xs.getD f 0 = gf at *
          gi_wp2
          refine hR.mono ?_
          rintro e W3 (⟨rfl, hJ3, hk3⟩ | ⟨rfl, hJx3⟩)
          · have HJ3 := Lib.hid hJ3
            have HK3 := Lib.hid (HK.out.trans hk3)
            clear hJ3 hk3 hy hR dk df d2 cB
            gi_wp2
            go_roundw
            case rel => exact ⟨k + 1, k + 1, _, by omega, by omega, by go_num, by go_num, Lib.hid (by rw [HG1.out]; exact HS.out), HJ3, HK3⟩
            case measure => simp [intOf]; omega
          · have HJ3 := Lib.hid hJx3
            clear hJx3 hy hR dk df d2 cB
            gi_wp2
            refine bodyPost_ret (results_none rfl _ _ _) rfl ?_
            exact ⟨⟨_, rfl⟩, .inr ⟨_, trivial, HJ3.out⟩⟩
      · have HS : Hid ((Y ++ [(xs.getD f 0, xs.getD k 0, (f : Int))]) ++ Co.jn (k + 1) (k + 1) (xs.getD (k + 1) 0) (xs.drop (k + 1)) = T) := Lib.hid (by rw [List.append_assoc, List.singleton_append, ← Co.jn_next hklen (fun h => hc1 (by rw [← HN.out]; exact h.1))]; exact HY0.out)
        have hYl : Y.length < T.length := by rw [← HS.out]; simp
        obtain ⟨fn, tmps, assign, body, hy, hR⟩ := hY (m - 1) Y (xs.getD f 0, xs.getD k 0, (f : Int)) wr HJ.out hYl
        unfold encJ at hy
        dsimp only at hy
        have hf0 : (f : Int) < (n : Int) := by omega
        clear hrow HY0 hYl hklen
        generalize hg1 : xs.getD (k + 1) 0 = g1 at *
        have HG1 := Lib.hid hg1
        clear hg1
        generalize xs.getD k 0 = g at *
        generalize xs.getD f 0 = gf at *
        gi_wp2
        refine hR.mono ?_
        rintro e W3 (⟨rfl, hJ3, hk3⟩ | ⟨rfl, hJx3⟩)
        · have HJ3 := Lib.hid hJ3
          have HK3 := Lib.hid (HK.out.trans hk3)
          clear hJ3 hk3 hy hR dk df cB
          gi_wp2
          go_roundw
          case rel => exact ⟨k + 1, k + 1, _, by omega, by omega, by go_num, by go_num, Lib.hid (by rw [HG1.out]; exact HS.out), HJ3, HK3⟩
          case measure => simp [intOf]; omega
        · have HJ3 := Lib.hid hJx3
          clear hJx3 hy hR dk df cB
          gi_wp2
          refine bodyPost_ret (results_none rfl _ _ _) rfl ?_
          exact ⟨⟨_, rfl⟩, .inr ⟨_, trivial, HJ3.out⟩⟩
    · obtain rfl : k = n := by omega
      have HE : Hid (Y = T) := Lib.hid (by
        have h := HY0.out
        rw [List.drop_of_length_le (by rw [HN.out]; omega)] at h
        rw [← h]; exact (List.append_nil Y).symm)
      gi_wp2
      go_end0
      exact ⟨⟨_, rfl⟩, .inl ⟨Y, HE.out, HJ.out⟩⟩

/-- The iterator's contract, as a loop takes it. -/
theorem joined_stops (n₀ n₁ B : Nat) (xs : List Int) (hc : Co.isCov xs = true) (n : Nat) (hn : xs.length = n) (p : Option Addr) (cap B1 : Nat) (w : World) (hn0 : n₀ ≤ w.heap.size) (hB : Boxed w B 37 (.slice none 0 0))
    (hx : ∀ W', Below n₀ w W' → Row W' (.slice p n cap) xs) (h1 : Boxed w B1 37 (.slice p n cap)) (hb1 : n₁ ≤ B1) (m : Nat) :
    SeqStopsK Fence.wide m Try.prog 62 #[.pointer (some ⟨B1, 0, none⟩)] encJ (KpS n₀ n₁ B) (fun ys => ys = Co.tr xs) (fun _ => True) (Co.tr xs).length w := by
  intro l J Jx W hW hJ hJx hY h0
  have hno : ∀ b, ¬ Owned B W b := fun b hb => by
    obtain ⟨v, hv, hb⟩ := hb
    rw [hW.cell (p := ⟨B, 0, none⟩) hB.lt, hB.cell] at hv
    cases hv
    simp [Value.ownBlock] at hb
  have hk : ∀ {b : Nat} {o : Obj}, w.heap[b]? = some o → W.heap[b]? = some o := fun {b o} h => (hW.block b (Array.getElem?_eq_some_iff.1 h).1).trans h
  exact joined_in m l n₀ n₁ B xs hc n hn J Jx (fun m' pre x W1 h hl => YieldAt.anyDepth wide_depth m' (hY pre x W1 h hl)) p cap B1 W
    (fun W' hk' => hx W' ((hW.mono hn0).trans hk'.below)) (hk h1) hb1 (hno _) ⟨Nat.lt_of_lt_of_le hB.lt hW.size, fun b hb => absurd hb (hno b)⟩ h0
end Go.Proofs.Ytjeahgdefdlabaa
