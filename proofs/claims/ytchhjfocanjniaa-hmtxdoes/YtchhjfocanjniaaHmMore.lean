/-
  Contracts of hmtx.fullMetrics, fullValues, sideValues, Width. No conditions beyond those stated.
-/
import Derived.Test.YtchhjfocanjniaaHmFew
import Derived.Deep.RegionHeld3
namespace Hm
theorem take_snocM {l : List Metric} {k : Nat} (h : k < l.length) : l.take (k + 1) = l.take k ++ [at0 l k] := by
  rw [List.take_succ_eq_append_getElem h]
  simp [at0, List.getD, List.getElem?_eq_getElem h]
end Hm
namespace Go.Proofs.Ytchhjfocanjniaa
open Go.RowKit

set_option maxHeartbeats 1600000 in
theorem fullValues_any (v : Value) (l : List Hm.Metric) (w : World) (h : MRow w v l) (hlen : l.length ≤ 100000) :
    Calls Try.prog 23 #[v] w (RowTold (Hm.fv l) w) := by
  obtain ⟨pu, cu, rfl, _⟩ := RowK.form h
  have HR := Lib.hid h
  have hsl := Hm.fv_len l
  unfold RowTold
  rw [hsl]
  generalize hn : l.length = n at *
  have HN := Lib.hid hn
  clear hn h hsl
  go_enter Try.func23, Try.ntmps23
  go_wp2_with (at_make; refine wpList_mk _ rfl _ _ rfl w.heap.size _ (2 * n) rfl rfl (by simp) (by omega) (Nat.le_refl _) ?_; intro pv cv w1 hown hlo; have HL := Lib.hid hlo; have HO := Lib.hid hown; clear hown hlo)
  go_loopw [3, 5, 12] (fun s _ i W => ∃ (k t : Nat) (p : Option Addr) (c : Nat), k ≤ n ∧ i = .int .i64 k ∧ s = .slice p t c ∧ Hid (t = 2 * k) ∧ Hid (Own W w.heap.size (.slice p t c) (Hm.fv (l.take k))) ∧ Hid (Lo w W)) (fun _ _ i _ => n - (intOf i).toNat)
  case atStart => exact ⟨0, 0, pv, cv, Nat.zero_le _, rfl, rfl, Lib.hid rfl, HO, HL⟩
  case round =>
    obtain ⟨k, t, p, c, hk, rfl, rfl, HTT, HO1, HL1⟩ := hrel
    by_cases hlt : k < n
    · have HK : Hid (k < l.length) := Lib.hid (by rw [HN.out]; exact hlt)
      obtain ⟨b, off, rfl, hc1, hc2⟩ := MRow.at2 (RowK.lo HR.out HL1.out) (at0_some HK.out)
      have HT := Lib.hid (Hm.take_snocM HK.out)
      generalize Hm.at0 l k = x at *
      obtain ⟨x1, x2⟩ := x
      dsimp only at hc1 hc2
      have HTL : Hid ((Hm.fv (l.take k)).length = 2 * k) := Lib.hid (by rw [Hm.fv_len, List.length_take]; have := HK.out; omega)
      go_wp2_with (at_builtin; refine wpList_app _ rfl (.tmp 16) (.tmp 21) rfl w.heap.size (.slice p t c) _ rfl (HO1.out.lo (((Lo.refl _).alloc _).alloc _)) _ [x1, x2] rfl (row2 _ _ (by simp) x1 x2) (by rw [HTL.out]; simp; omega) (by have := HL1.out.size; simp; omega) ?_; intro q1 c1 w3 hown hlo; have HO3 := Lib.hid hown; have HL3 := Lib.hid (hlo w ((HL1.out.alloc _).alloc _) rfl); clear hown hlo; rw [HTL.out] at HO3 ⊢)
      go_roundw
      case rel => exact ⟨k + 1, _, q1, c1, by omega, by go_num, rfl, Lib.hid (by omega), Lib.hid (by rw [HT.out, Hm.fv_snoc]; exact HO3.out), HL3⟩
      case measure => simp [intOf]; omega
    · obtain rfl : k = n := by omega
      have HO2 := HO1
      rw [List.take_of_length_le (by rw [HN.out]; exact Nat.le_refl _)] at HO2
      obtain rfl := HTT.out
      go_wp2_with fail
      go_ret
      exact ⟨p, c, rfl, Own.row HO2.out, HL1.out⟩

set_option maxHeartbeats 1600000 in
theorem sideValues_any (v : Value) (l : List Hm.Metric) (w : World) (h : MRow w v l) (hlen : l.length ≤ 100000) :
    Calls Try.prog 24 #[v] w (RowTold (Hm.sv l) w) := by
  obtain ⟨pu, cu, rfl, _⟩ := RowK.form h
  have HR := Lib.hid h
  have hsl := Hm.sv_len l
  unfold RowTold
  rw [hsl]
  generalize hn : l.length = n at *
  have HN := Lib.hid hn
  clear hn h hsl
  go_enter Try.func24, Try.ntmps24
  go_wp2_with (at_make; refine wpList_mk _ rfl _ _ rfl w.heap.size _ n rfl rfl (by simp) (by omega) (Nat.le_refl _) ?_; intro pv cv w1 hown hlo; have HL := Lib.hid hlo; have HO := Lib.hid hown; clear hown hlo)
  go_loopw [3, 5, 11] (fun s _ i W => ∃ (k : Nat) (p : Option Addr) (c : Nat), k ≤ n ∧ i = .int .i64 k ∧ s = .slice p k c ∧ Hid (Own W w.heap.size (.slice p k c) (Hm.sv (l.take k))) ∧ Hid (Lo w W)) (fun _ _ i _ => n - (intOf i).toNat)
  case atStart => exact ⟨0, pv, cv, Nat.zero_le _, rfl, rfl, HO, HL⟩
  case round =>
    obtain ⟨k, p, c, hk, rfl, rfl, HO1, HL1⟩ := hrel
    by_cases hlt : k < n
    · have HK : Hid (k < l.length) := Lib.hid (by rw [HN.out]; exact hlt)
      obtain ⟨b, off, rfl, hc1, hc2⟩ := MRow.at2 (RowK.lo HR.out HL1.out) (at0_some HK.out)
      have HT := Lib.hid (Hm.take_snocM HK.out)
      generalize Hm.at0 l k = x at *
      obtain ⟨x1, x2⟩ := x
      dsimp only at hc1 hc2
      have HTL : Hid ((Hm.sv (l.take k)).length = k) := Lib.hid (by rw [Hm.sv_len, List.length_take]; have := HK.out; omega)
      go_wp2_with (at_builtin; refine wpList_app _ rfl (.tmp 15) (.tmp 18) rfl w.heap.size (.slice p k c) _ rfl (HO1.out.lo (((Lo.refl _).alloc _).alloc _)) _ [x2] rfl (row1 _ _ (by simp) x2) (by rw [HTL.out]; simp; omega) (by have := HL1.out.size; simp; omega) ?_; intro q1 c1 w3 hown hlo; have HO3 := Lib.hid hown; have HL3 := Lib.hid (hlo w ((HL1.out.alloc _).alloc _) rfl); clear hown hlo; rw [HTL.out] at HO3 ⊢)
      go_roundw
      case rel => exact ⟨k + 1, q1, c1, by omega, by go_num, rfl, Lib.hid (by rw [HT.out]; unfold Hm.sv at *; rw [List.map_append]; exact HO3.out), HL3⟩
      case measure => simp [intOf]; omega
    · obtain rfl : k = n := by omega
      have HO2 := HO1
      rw [List.take_of_length_le (by rw [HN.out]; exact Nat.le_refl _)] at HO2
      go_wp2_with fail
      go_ret
      exact ⟨p, c, rfl, Own.row HO2.out, HL1.out⟩

/-- A width and an error. -/
def widthOf (l : List Hm.Metric) (g : Int) : Int × Int := if g < 0 ∨ (l.length : Int) ≤ g then (0, 10) else ((Hm.at0 l g.toNat).1, 0)
set_option maxHeartbeats 1600000 in
theorem width_any' (v : Value) (l : List Hm.Metric) (g : Int) (w : World) (h : MRow w v l) :
    Calls Try.prog 10 #[v, .int .i64 g] w fun e w' => e = .returned (.tuple #[.int .i64 (widthOf l g).1, .int .i64 (widthOf l g).2]) ∧ w = w' := by
  obtain ⟨pu, cu, rfl, hlen⟩ := RowK.form h
  unfold widthOf
  by_cases h0 : g < 0
  · rw [if_pos (.inl h0)]
    clear h
    go_enter Try.func10, Try.ntmps10
    go_wp2_with fail
    go_ret2
    exact ⟨rfl, rfl⟩
  · obtain ⟨k, rfl⟩ := Int.eq_ofNat_of_zero_le (show 0 ≤ g by omega)
    by_cases h1 : l.length ≤ k
    · rw [if_pos (.inr (by omega))]
      clear h
      have hd : ¬ k < l.length := by omega
      go_enter Try.func10, Try.ntmps10
      go_wp2_with fail
      go_ret2
      exact ⟨rfl, rfl⟩
    · rw [if_neg (by omega), Int.toNat_natCast]
      have hk : k < l.length := by omega
      obtain ⟨b, off, rfl, hc1, hc2⟩ := MRow.at2 h (at0_some hk)
      generalize Hm.at0 l k = x at *
      generalize l.length = n at *
      clear h hc2
      go_enter Try.func10, Try.ntmps10
      go_wp2_with fail
      go_ret2
      exact ⟨rfl, rfl⟩

theorem OwnK.lo2 {w w' : World} {base : Nat} {v : Value} {l : List Hm.Metric} (h : OwnM w base v l) (hl : Lo w w') : OwnM w' base v l := OwnK.lo h hl
/-- append of one metric at a step of a region that draws. -/
theorem step_appM {w : World} {ops : Array Oper} {o : Oper} {a : Act} {K : Act → World → Prop} {Q : Exit → Act → World → Prop} {E : Prop} (hgd : o.guard = none) (s x : Operand)
    (ho : o.op = .call { callee := .builtin .append, args := #[s, x], argTypes := #[22, 22] })
    (base : Nat) (v : Value) (xs : List Hm.Metric) (hs : a.eval s = v) (hown : OwnM w base v xs) (b : Nat) (y : Hm.Metric) (hx : a.eval x = .slice (some ⟨b, 0, none⟩) 1 1) (hr0 : w.cell? ⟨b, 0, none⟩ = some (.int .i64 y.1)) (hr1 : w.cell? ⟨b, 1, none⟩ = some (.int .i64 y.2))
    (hlen : xs.length + 1 ≤ 1000000) (hbase : base ≤ w.heap.size)
    (h : ∀ p c w', OwnM w' base (.slice p (xs.length + 1) c) (xs ++ [y]) → (∀ w0, Lo w0 w → w0.heap.size = base → Lo w0 w') → K (a.put o.dst (.slice p (xs.length + 1) c)) w') :
    if Region.wanted o (yielded ops a.tmps) = true then Oper.wp Try.prog o a w K Q else E := by
  obtain ⟨i0, hi0, hz0, hz1, hz2⟩ := info_parts met_info
  refine step_append_lies w hgd s x 22 ho base 34 i0 _ 2 16 Try.underlying22 hi0 hz0 hz1 hz2 rfl (by omega) v xs.length _ hs hown ⟨b, 0, .none⟩ 1 1 (encM y) hx rfl ?_ (encM_one y) (by omega) (by unfold maxLen; omega) (by omega) hbase _ rfl ?_
  · intro j u hj
    have e1 : (⟨b, 0, none⟩ : Addr).add j = ⟨b, j, none⟩ := by unfold Addr.add; split <;> simp_all
    rw [e1]
    have hjl : j < 2 := (List.getElem?_eq_some_iff.1 hj).1
    obtain rfl | rfl : j = 0 ∨ j = 1 := by omega
    · simp [encM] at hj; subst hj; exact hr0
    · simp [encM] at hj; subst hj; exact hr1
  · intro g cap w' hown' hg _ _
    have hown2 : OwnM w' base (.slice (some ⟨g, 0, none⟩) (xs.length + 1) cap) (xs ++ [y]) := by
      unfold OwnM OwnK
      rw [List.length_append, List.flatMap_append]
      simpa using hown'
    refine h _ _ w' hown2 ?_
    intro w0 hlo hb0
    exact Below.grown hlo hg hlo.size (fun k hk => by rw [hb0]; exact (World.ownsRow.lt hown k hk).1)

set_option maxRecDepth 100000 in
set_option maxHeartbeats 2000000 in
theorem fullMetrics_any (v : Value) (l : List Hm.Metric) (w : World) (h : Row w v (Hm.fv l)) (hlen : l.length ≤ 100000) :
    Calls Try.prog 16 #[v] w (MetTold l w) := by
  obtain ⟨pu, cu, rfl, _⟩ := h.form
  have HR := Lib.hid h
  unfold MetTold
  rw [Hm.fv_len] at *
  generalize hn : l.length = n at *
  have HN := Lib.hid hn
  clear hn h
  go_enter Try.func16, Try.ntmps16
  go_wp2_with (at_make; refine wpList_mkK (enc := encM) _ rfl _ _ _ rfl 34 2 16 _ Try.underlying22 met_info (by omega) w.heap.size _ n rfl rfl (by omega) (by omega) (Nat.le_refl _) ?_; intro pv cv w1 hown hlo; have HL := Lib.hid hlo; have HO := Lib.hid hown; clear hown hlo)
  go_loopw [3, 4] (fun s i W => ∃ (k t : Nat) (p : Option Addr) (c : Nat), k ≤ n ∧ t = 2 * k ∧ i = .int .i64 t ∧ s = .slice p k c ∧ Hid (OwnM W w.heap.size (.slice p k c) (l.take k)) ∧ Hid (Lo w W)) (fun _ i _ => 2 * n - (intOf i).toNat)
  case atStart => exact ⟨0, 0, pv, cv, Nat.zero_le _, rfl, rfl, rfl, HO, HL⟩
  case round =>
    obtain ⟨k, t, p, c, hk, ht, rfl, rfl, HO1, HL1⟩ := hrel
    by_cases hlt : k < n
    · have HK : Hid (k < l.length) := Lib.hid (by rw [HN.out]; exact hlt)
      have hrow := HR.out.lo HL1.out
      obtain ⟨b, off, rfl, hc1⟩ := hrow.at_ (k := t) (by omega)
      obtain ⟨b', off', he, hc2⟩ := hrow.at_ (k := t + 1) (by omega)
      simp only [Option.some.injEq, Addr.mk.injEq, and_true] at he
      obtain ⟨rfl, rfl⟩ := he
      have hfa := Hm.fv_at l k HK.out
      rw [← ht] at hfa
      rw [hfa.1] at hc1
      rw [hfa.2] at hc2
      have HT := Lib.hid (Hm.take_snocM HK.out)
      generalize Hm.at0 l k = x at *
      obtain ⟨x1, x2⟩ := x
      dsimp only at hc1 hc2
      have HTL : Hid ((l.take k).length = k) := Lib.hid (by rw [List.length_take]; have := HK.out; omega)
      have htn : t < 2 * n := by omega
      have htn1 : t + 1 < 2 * n := by omega
      have HT2 := Lib.hid ht
      clear hfa ht hrow
      have hi0 : (0 : Int) ≤ (t : Int) := by omega
      have hi1 : (t : Int) < ((2 * n : Nat) : Int) := by omega
      have hi3 : (t : Int) + 1 < ((2 * n : Nat) : Int) := by omega
      have hi6 : (t : Int) < 2 * (n : Int) := by omega
      have hi7 : (t : Int) + 1 < 2 * (n : Int) := by omega
      have hi4 : (0 : Int) ≤ (t : Int) + 1 := by omega
      have hi5 : ((t : Int) + 1).toNat = t + 1 := by omega
      have hi2 : IntKind.i64.wrap (↑t + 1) = ↑t + 1 := IntWalk.i64_in _ (by omega)
      go_wp2_with fail
      go_region_law (first
        | (refine step_appM rfl (.tmp 15) (.tmp 26) rfl w.heap.size (.slice p k c) _ rfl (OwnK.lo2 HO1.out (((Lo.refl _).drew).alloc _)) _ (x1, x2) rfl (by simp [go_sem]) (by simp [go_sem]) (by rw [HTL.out]; omega) (by have := HL1.out.size; simp; omega) ?_; intro q1 c1 w3 hown hlo; have HO3 := Lib.hid hown; have HL3 := Lib.hid (hlo w (((HL1.out).drew).alloc _) rfl); clear hown hlo; rw [HTL.out] at HO3; rw [HTL.out]))
      all_goals
        clear hc1 hc2 hi2 hi3 hi4 hi5
        go_wp2_with fail
        go_roundw
        case rel => exact ⟨k + 1, t + 2, q1, c1, by omega, by have := HT2.out; omega, by go_num, rfl, Lib.hid (by rw [HT.out]; exact HO3.out), HL3⟩
        case measure => simp [intOf]; omega
    · obtain rfl : k = n := by omega
      have HO2 := HO1
      rw [List.take_of_length_le (by rw [HN.out]; exact Nat.le_refl _)] at HO2
      subst ht
      go_wp2_with fail
      go_ret
      exact ⟨p, c, rfl, OwnK.row encM_len HO2.out, HL1.out⟩
end Go.Proofs.Ytchhjfocanjniaa
