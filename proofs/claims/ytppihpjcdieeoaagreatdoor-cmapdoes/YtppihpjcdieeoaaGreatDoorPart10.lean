/-
  Facts that the walks rest on: GrDivided, ChIs. No conditions beyond those stated.
-/
import Derived.Test.YtppihpjcdieeoaaGreatDoorPart09
import Derived.Test.YtppihpjcdieeoaaGreatDoorPart04
/-
  The contract of group.divided: an iterator over the spans with a step that a list becomes. No conditions beyond those stated.
-/
namespace Go.Proofs.YtppihpjcdieeoaaGreatDoor
open Go.RowKit Go.Shelf
attribute [local go_sem] Oper.semAt_some wide_fn wide_depth

set_option maxHeartbeats 1000000 in
theorem divided_make (m : Nat) (a : Option Addr) (len cap : Nat) (step : Int) (w : World) :
    CallsIn Fence.wide m Tryz.prog 145 #[.slice a len cap, .int .i64 step] w fun e w' => e = .returned (.func (.func 151) #[] #[.pointer (some ⟨w.heap.size, 0, none⟩), .pointer (some ⟨w.heap.size + 1, 0, none⟩)]) ∧ w' = (w.alloc (.cells #[.slice a len cap] 22)).alloc (.cells #[.int .i64 step] 3) := by
  refine callsIn_of_wp Tryz.func145 rfl trivial ?_ rfl
  simp only [Tryz.ntmps145, List.size_toArray, List.length_cons, List.length_nil, Nat.reduceAdd, Nat.reduceSub, Array.replicate_succ, Array.replicate_zero, List.push_toArray, List.append_toArray, List.nil_append, List.cons_append]
  gi_wp2
  go_ret
  exact ⟨rfl, rfl⟩

/-- A part of what a list becomes. -/
theorem parts_pre {step : Int} {l : List Ch.Span} {k : Nat} (h : k < l.length) {q : List Ch.Span} (hq : q <+: Gp.part step (l.getD k Ch.zs)) : Gp.parts step (l.take k) ++ q <+: Gp.parts step l := by
  obtain ⟨t, ht⟩ := hq
  have h1 : Gp.parts step l = Gp.parts step (l.take (k + 1)) ++ Gp.parts step (l.drop (k + 1)) := by
    unfold Gp.parts
    rw [← List.flatMap_append, List.take_append_drop]
  rw [h1, Gp.parts_step h, ← ht]
  exact ⟨t ++ Gp.parts step (l.drop (k + 1)), by simp⟩

set_option maxRecDepth 100000 in
set_option maxHeartbeats 3200000 in
theorem divided_in (m l n₀ n₁ B N : Nat) (J Jx : List Ch.Span → World → Prop) (hY : Yields n₀ n₁ B N l J Jx) (hA : ∀ pre W o, J pre W → J pre (W.alloc o)) (xs : List Ch.Span) (ho : ∀ x ∈ xs, Ch.okSpan x = true) (step : Int) (hs1 : step = 0 ∨ step = 1) (hxl : xs.length ≤ 1000000)
    (hN : (Gp.parts step xs).length ≤ N) (p : Option Addr) (cap : Nat) (B1 B2 : Nat) (W : World) (hn : n₀ ≤ W.heap.size) (_hn1 : n₁ ≤ W.heap.size) (hg : Good B W) (hx : ∀ W', KpS n₀ n₁ B W W' → SRow W' (.slice p xs.length cap) xs)
    (h1 : Boxed W B1 22 (.slice p xs.length cap)) (h2 : Boxed W B2 3 (.int .i64 step)) (hb2 : n₁ ≤ B2) (ho2 : ¬ Owned B W B2) (h0 : J [] W) :
    CallsIn Fence.wide m Tryz.prog 151 #[.func (.yield l) #[] #[], .pointer (some ⟨B1, 0, none⟩), .pointer (some ⟨B2, 0, none⟩)] W fun e W' => (∃ v, e = .returned v) ∧
      ((∃ ys, ys = Gp.parts step xs ∧ J ys W') ∨ (∃ pre, pre <+: Gp.parts step xs ∧ Jx pre W')) := by
  obtain ⟨P, hP⟩ : ∃ P : Nat → List Ch.Span, P = fun k => Gp.parts step (xs.take k) := ⟨_, rfl⟩
  have HP0 : Hid (P 0 = []) := Lib.hid (by rw [hP]; rfl)
  have HPn : Hid (P xs.length = Gp.parts step xs) := Lib.hid (by rw [hP]; exact Gp.parts_all step xs)
  have HPs : Hid (∀ k, k < xs.length → P (k + 1) = P k ++ Gp.part step (xs.getD k Ch.zs) ∧ (P k).length + (Gp.part step (xs.getD k Ch.zs)).length ≤ N ∧ ∀ q, q <+: Gp.part step (xs.getD k Ch.zs) → P k ++ q <+: Gp.parts step xs) := Lib.hid (fun k h => by
    rw [hP]
    refine ⟨Gp.parts_step h, ?_, fun q hq => parts_pre h hq⟩
    have h3 := Gp.parts_le step xs (k + 1)
    rw [Gp.parts_step h, List.length_append] at h3
    show (Gp.parts step (xs.take k)).length + _ ≤ N
    omega)
  have HX := Lib.hid hx
  have HO := Lib.hid ho
  have H1 := Lib.hid h1
  have H2 := Lib.hid h2
  have c1 := h1.cell
  have c2 := h2.cell
  have HG := Lib.hid hg
  have HO2 := Lib.hid ho2
  have HA := Lib.hid hA
  obtain ⟨n, hn⟩ : ∃ n, xs.length = n := ⟨_, rfl⟩
  have HN := Lib.hid hn
  rw [hn] at hxl c1 HX HPn HPs
  clear hP hx ho h1 h2 hg ho2 hN hA hn
  refine callsIn_of_wp Tryz.func151 rfl trivial ?_ rfl
  simp only [Tryz.ntmps151, List.size_toArray, List.length_cons, List.length_nil, Nat.reduceAdd, Nat.reduceSub, Array.replicate_succ, Array.replicate_zero, List.push_toArray, List.append_toArray, List.nil_append, List.cons_append]
  gi_wp2
  gi_loopw [8] (fun i wr => ∃ k : Nat, k ≤ n ∧ i = .int .i64 (k : Int) ∧ Hid (J (P k) wr) ∧ Hid (KpS n₀ n₁ B W wr))
    (fun i _ => (n - (intOf i).toNat))
  case atStart => exact ⟨0, Nat.zero_le _, rfl, Lib.hid (by rw [HP0.out]; exact h0), Lib.hid (KpS.refl _ _ _ _)⟩
  case round =>
    obtain ⟨k, hk, rfl, HJ, HK⟩ := hrel
    by_cases hlt : k < n
    · obtain ⟨h1, h2, h3⟩ := HPs.out k hlt
      have hxk : xs[k]? = some (xs.getD k Ch.zs) := by simp [List.getD, List.getElem?_eq_getElem (show k < xs.length by rw [HN.out]; exact hlt)]
      have hok := HO.out _ (List.mem_of_getElem? hxk)
      obtain ⟨b, off, rfl, d0, d1, d2, d3⟩ := SRow.at4 (HX.out _ HK.out) hxk
      have hgw := HK.out.good HG.out
      have hsz := HK.out.below.size
      have hk2 := HK.out.keep HG.out H2.out rfl hb2 HO2.out
      have c2r := block_cell (i := 0) hk2.1 rfl
      have hlt2 : B2 < wr.heap.size := (Array.getElem?_eq_some_iff.1 hk2.1).1
      have HDv := Lib.hid (fun W1 (h : J (P k) W1) (e1 : n₀ ≤ W1.heap.size) (e2 : n₁ ≤ W1.heap.size) (e3 : Good B W1) => divide_any (m - 1) l n₀ n₁ B N J Jx hY HA.out (xs.getD k Ch.zs) hok step hs1 (P k) h2 W1 e1 e2 e3 h)
      have HP1 := Lib.hid h1
      have HP3 := Lib.hid h3
      generalize Gp.part step (xs.getD k Ch.zs) = pt at *
      clear hok hxk h1 h2 h3 hk2
      generalize xs.getD k Ch.zs = x at *
      obtain ⟨fr, tt, gl, st⟩ := x
      dsimp only [aggS] at HDv d0 d1 d2 d3
      have HD2 := Lib.hid (HDv.out (wr.alloc (.cells #[.int .i64 fr, .int .i64 tt, .int .i64 gl, .int .i64 st] 63)) (HA.out _ _ _ HJ.out) (by rw [World.size_alloc]; omega) (by rw [World.size_alloc]; omega) (hgw.alloc _))
      have HKA : Hid (KpS n₀ n₁ B W (wr.alloc (.cells #[.int .i64 fr, .int .i64 tt, .int .i64 gl, .int .i64 st] 63))) := Lib.hid (HK.out.trans (KpS.alloc (by omega) _))
      clear HDv hgw hsz
      gi_wp2_with (gi_at_call 152; refine HD2.out.mono ?_; rintro e w' (⟨rfl, hJ3, hk3⟩ | ⟨rfl, q, hq, hx3⟩))
      · have HJ3 := Lib.hid hJ3
        have HK3 := Lib.hid hk3
        clear hJ3 hk3
        go_roundw
        case rel => exact ⟨k + 1, by omega, rfl, Lib.hid (by rw [HP1.out]; exact HJ3.out), Lib.hid (HKA.out.trans HK3.out)⟩
        case measure => simp [intOf]; omega
      · refine bodyPost_ret (results_none rfl _ _ _) rfl ?_
        exact ⟨⟨_, rfl⟩, .inr ⟨_, HP3.out q hq, hx3⟩⟩
    · obtain rfl : k = n := by omega
      gi_wp2
      go_end0
      exact ⟨⟨_, rfl⟩, .inl ⟨_, HPn.out, HJ.out⟩⟩

/-- The iterator's contract, as a loop takes it. -/
theorem divided_stops (n₀ n₁ B : Nat) (xs : List Ch.Span) (ho : ∀ x ∈ xs, Ch.okSpan x = true) (step : Int) (hs1 : step = 0 ∨ step = 1) (hxl : xs.length ≤ 1000000) (p : Option Addr) (cap : Nat) (B1 B2 : Nat) (w : World)
    (hn : n₀ ≤ w.heap.size) (hn1 : n₁ ≤ w.heap.size) (hB : Boxed w B 22 (.slice none 0 0)) (hxn : ∀ W', Below n₀ w W' → SRow W' (.slice p xs.length cap) xs)
    (h1 : Boxed w B1 22 (.slice p xs.length cap)) (h2 : Boxed w B2 3 (.int .i64 step)) (hb2 : n₁ ≤ B2) (m : Nat) :
    SeqStopsK Fence.wide m Tryz.prog 151 #[.pointer (some ⟨B1, 0, none⟩), .pointer (some ⟨B2, 0, none⟩)] (fun x => #[aggS x]) (KpS n₀ n₁ B) (fun ys => ys = Gp.parts step xs) (fun pre => pre <+: Gp.parts step xs) (Gp.parts step xs).length w := by
  intro l J Jx W hW hJ hJx hY h0
  have hno : ∀ b, ¬ Owned B W b := fun b hb => by
    obtain ⟨v, hv, hb⟩ := hb
    rw [hW.cell (p := ⟨B, 0, none⟩) hB.lt, hB.cell] at hv
    cases hv
    simp [Value.ownBlock] at hb
  have hk : ∀ {b : Nat} {o : Obj}, w.heap[b]? = some o → W.heap[b]? = some o := fun {b o} h => (hW.block b (Array.getElem?_eq_some_iff.1 h).1).trans h
  exact divided_in m l n₀ n₁ B _ J Jx (fun m' pre y W1 h hl => YieldAt.anyDepth wide_depth m' (hY pre y W1 h hl)) (fun pre W' o h => hJ pre W' _ none h (World.grownBy_alloc W' o none) (fun r e => by cases e)) xs ho step hs1 hxl (Nat.le_refl _) p cap B1 B2 W
    (Nat.le_trans hn hW.size) (Nat.le_trans hn1 hW.size) ⟨Nat.lt_of_lt_of_le hB.lt hW.size, fun b hb => absurd hb (hno b)⟩ (fun W' hk' => hxn W' ((hW.mono hn).trans hk'.below)) (hk h1) (hk h2) hb2 (hno _) h0
end Go.Proofs.YtppihpjcdieeoaaGreatDoor
/-
  Contract of chart.Is: right spans. No conditions beyond those stated.
-/
namespace Go.Proofs.YtppihpjcdieeoaaGreatDoor
open Go.RowKit

set_option maxHeartbeats 1600000 in
theorem cis_any (v : Value) (l : List Ch.Span) (w : World) (h : SRow w v l) : Calls Tryz.prog 20 #[v] w fun e w' => e = .returned (.bool (Ch.isL l)) ∧ Lo w w' := by
  obtain ⟨p, c, rfl, hlen⟩ := RowK.form h
  rcases Nat.lt_or_ge 65536 l.length with hm | hm
  · rw [Ch.isL_many hm]
    generalize l.length = n at *
    have hmz : (65536 : Int) < (n : Int) := by omega
    go_enter Tryz.func20, Tryz.ntmps20
    go_wp2_with fail
    go_ret
    exact ⟨rfl, Lo.refl _⟩
  · have HR := Lib.hid h
    have HV := Lib.hid (fun (x : Ch.Span) (W : World) => valid_any x W)
    have HY := Lib.hid (fun hc => Ch.isL_yes hm hc)
    have HN := Lib.hid (fun (k : Nat) hc => Ch.isL_no (l := l) (k := k) hc)
    generalize hn : l.length = n at *
    have HE := Lib.hid hn
    clear hn h
    generalize Ch.isL l = y at *
    have hmz : ¬ (65536 : Int) < (n : Int) := by omega
    unfold aggS at HV
    go_enter Tryz.func20, Tryz.ntmps20
    go_wp2_with fail
    go_loopw [3, 5, 11] (fun s3 _ s11 W => ∃ k : Nat, k ≤ n ∧ s11 = .int .i64 k ∧ s3 = .int .i64 (Ch.lastTo (-1) (l.take k)) ∧ Hid (Ch.chain (-1) (l.take k) = true) ∧ Hid (Lo w W)) (fun _ _ s11 _ => n - (intOf s11).toNat)
    case atStart => exact ⟨0, Nat.zero_le _, rfl, rfl, Lib.hid rfl, Lib.hid (Lo.refl _)⟩
    case round =>
      obtain ⟨k, hk, rfl, rfl, HC, HL⟩ := hrel
      by_cases hlt : k < n
      · have hk' : k < l.length := by rw [HE.out]; exact hlt
        have HS := Lib.hid (Ch.chain_step hk')
        have HT := Lib.hid (Ch.lastTo_step hk')
        obtain ⟨b, off, rfl, r0, r1, r2, r3⟩ := SRow.at4 (RowK.lo HR.out HL.out) (Ch.getD_some hk')
        clear hk'
        generalize Ch.lastTo (-1) (l.take k) = t at *
        generalize l.getD k Ch.zs = x at *
        have HV1 := Lib.hid (HV.out x)
        clear HV
        generalize Ch.okSpan x = ok at *
        obtain ⟨fr, tt, gl, st⟩ := x
        dsimp only at r0 r1 r2 r3 HS HT HV1
        by_cases hle : fr ≤ t
        · have HF : Hid (y = false) := Lib.hid (HN.out (k + 1) (by rw [HS.out, decide_eq_false (by omega), Bool.and_false, Bool.and_false]))
          clear HS HT HV1
          go_wp2_with fail
          go_ret
          exact ⟨ret_bool HF.out.symm, HL.out.alloc _⟩
        · cases ok with
          | false =>
            have HF : Hid (y = false) := Lib.hid (HN.out (k + 1) (by rw [HS.out, Bool.false_and, Bool.and_false]))
            clear HS HT
            go_wp2_with fail
            refine (HV1.out _).mono ?_
            rintro e w3 ⟨rfl, lo⟩
            have HL3 := Lib.hid ((HL.out.alloc _).trans lo)
            clear lo HV1 r0 r1 r2 r3
            go_wp2_with fail
            go_ret
            exact ⟨ret_bool HF.out.symm, HL3.out⟩
          | true =>
            have HC2 : Hid (Ch.chain (-1) (l.take (k + 1)) = true) := Lib.hid (by rw [HS.out, HC.out, decide_eq_true (by omega)]; rfl)
            clear HS HC
            go_wp2_with fail
            refine (HV1.out _).mono ?_
            rintro e w3 ⟨rfl, lo⟩
            have HL3 := Lib.hid ((HL.out.alloc _).trans lo)
            obtain ⟨⟨s0, s1, s2, s3⟩, _⟩ := four_at (lo_block lo (new_block _ _))
            clear lo HV1 r0 r1 r2 r3
            go_wp2_with fail
            go_roundw
            case rel => exact ⟨k + 1, by omega, by go_num, by rw [HT.out], HC2, HL3⟩
            case measure => simp [intOf]; omega
      · obtain rfl : k = n := by omega
        have HF : Hid (y = true) := Lib.hid (HY.out HC.out)
        go_wp2_with fail
        go_ret
        exact ⟨ret_bool HF.out.symm, HL.out⟩
end Go.Proofs.YtppihpjcdieeoaaGreatDoor
