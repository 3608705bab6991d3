/-
  Contracts of glyf.areValid, outlines and laid: are all right, how many outlines, where glyphs end and what fields they have. No conditions beyond those stated.
-/
import Derived.Test.YtkfljalcnjdliaaGlBase
import Derived.Test.YtkfljalcnjdliaaBnBase
namespace Go.Proofs.Ytkfljalcnjdliaa
open Go.RowKit

/-- Two rows lie in blocks of their own. -/
def Apart (v o : Value) : Prop := ∀ g, v.ownBlock = some g → o.ownBlock ≠ some g
theorem Apart.symm {v o : Value} (h : Apart v o) : Apart o v := fun g h1 h2 => h g h2 h1
theorem own_keep {w w' : World} {base : Nat} {v ov : Value} {zs : List Int} (h : Own w base ov zs) (hg : w.grownBy w' v.ownBlock) (hap : Apart v ov) : Own w' base ov zs := by
  refine ⟨h.1, ?_⟩
  rcases h.2 with h3 | ⟨g, cap, cur, hv, hb, hh, r⟩
  · exact .inl h3
  · exact .inr ⟨g, cap, cur, hv, hb, grown_keep hg hh (fun e => hap g e (by rw [hv]; rfl)), r⟩
theorem own_lt {w : World} {base : Nat} {ov : Value} {zs : List Int} (h : Own w base ov zs) {g : Nat} (hg : ov.ownBlock = some g) : g < w.heap.size := by
  rcases h.2 with ⟨h1, _⟩ | ⟨g', cap, cur, hv, hb, hh, r⟩
  · rw [h1] at hg; cases hg
  · rw [hv] at hg
    injection hg with hg
    subst hg
    rcases Nat.lt_or_ge g' w.heap.size with hlt | hge
    · exact hlt
    · rw [Array.getElem?_eq_none hge] at hh; cases hh
/-- append onto one of two rows of the call's own. -/
theorem wpList_app2 (w : World) {ops : Array Oper} {rest : List Oper} {o : Oper} {a : Act} {Q : Exit → Act → World → Prop} (hgd : o.guard = none) (s x : Operand)
    (ho : o.op = .call { callee := .builtin .append, args := #[s, x], argTypes := #[44, 44] })
    (base : Nat) (v : Value) (xs : List Int) (hs : a.eval s = v) (hown : Own w base v xs) (ov : Value) (zs : List Int) (hoth : Own w base ov zs) (hap : Apart v ov) (u : Value) (ys : List Int) (hx : a.eval x = u) (hr : Row w u ys) (hm : 0 < ys.length)
    (hlen : xs.length + ys.length ≤ 1000000) (hbase : base ≤ w.heap.size)
    (h : ∀ p c w', Own w' base (.slice p (xs.length + ys.length) c) (xs ++ ys) → Own w' base ov zs → Apart (.slice p (xs.length + ys.length) c) ov → (∀ w0, Lo w0 w → w0.heap.size = base → Lo w0 w') → wpList Try.prog ops Q rest (a.put o.dst (.slice p (xs.length + ys.length) c)) w') : wpList Try.prog ops Q (o :: rest) a w := by
  obtain ⟨i0, hi0, hz0, hz1, hz2⟩ := info_parts int_info
  rcases hr with ⟨_, _, _, _, rfl⟩ | ⟨b, off, cap, rfl, h2, h2b, h3, h4⟩
  · simp at hm
  · refine wpList_append_lies w hgd s x 44 ho base 3 i0 _ 1 8 Try.underlying44 hi0 hz0 hz1 hz2 rfl (by omega) v xs.length _ hs hown ⟨b, off, .none⟩ ys.length cap (ys.map (Value.int .i64)) hx (by simp) ?_ (ints_oneCell _ _) hm (by unfold maxLen; omega) (by omega) hbase _ rfl ?_
    · intro j u hj
      have hjl : j < ys.length := by
        rcases Nat.lt_or_ge j ys.length with hlt | hge
        · exact hlt
        · rw [List.getElem?_eq_none (by simpa using hge)] at hj; cases hj
      have := h4 j hjl
      have e1 : (⟨b, off, .none⟩ : Addr).add j = ⟨b, off + j, .none⟩ := by
        unfold Addr.add; split <;> simp_all
      rw [e1, this]
      simp [hjl] at hj
      simp [List.getD, hjl, hj]
    · intro g cap2 w' hown' hg hwhere _
      have hown2 : Own w' base (.slice (some ⟨g, 0, none⟩) (xs.length + ys.length) cap2) (xs ++ ys) := by
        unfold Own
        rw [List.length_append, List.map_append]
        exact hown'
      refine h _ _ w' hown2 (own_keep hoth hg hap) ?_ ?_
      · intro g' hg' ho'
        injection hg' with hg'
        subst hg'
        rcases hwhere with hw | hw
        · exact hap _ hw ho'
        · have hl : g < w.heap.size := own_lt hoth ho'
          omega
      · intro w0 hlo hb0
        exact Below.grown hlo hg hlo.size (fun k hk => by rw [hb0]; exact (World.ownsRow.lt hown k hk).1)
theorem own_lit (w : World) (z : Int) : Own (w.alloc (.cells #[.int .i64 z] 3)) w.heap.size (.slice (some ⟨w.heap.size, 0, none⟩) 1 1) [z] :=
  ⟨rfl, .inr ⟨w.heap.size, 1, #[.int .i64 z], rfl, Nat.le_refl _, new_block w _, Nat.le_refl _, by unfold maxLen; omega, rfl, rfl⟩⟩
theorem row6 (w : World) (B : Nat) (hB : B = w.heap.size) (a b c d e f : Int) : Row (w.alloc (.cells #[.int .i64 a, .int .i64 b, .int .i64 c, .int .i64 d, .int .i64 e, .int .i64 f] 3)) (.slice (some ⟨B, 0, none⟩) 6 6) [a, b, c, d, e, f] :=
  hB ▸ .inr ⟨w.heap.size, 0, 6, rfl, by simp, by simp, by simp, fun i hi => by
    obtain rfl | rfl | rfl | rfl | rfl | rfl : i = 0 ∨ i = 1 ∨ i = 2 ∨ i = 3 ∨ i = 4 ∨ i = 5 := by simp at hi; omega
    all_goals simp [go_sem]⟩

set_option maxHeartbeats 1600000 in
theorem areValid_any (v : Value) (l : List Gl.Ext) (w : World) (h : ERow w v l) : Calls Try.prog 23 #[v] w fun e w' => e = .returned (.bool (l.all Gl.isExt)) ∧ Lo w w' := by
  obtain ⟨p, c, rfl, hlen⟩ := RowK.form h
  have HR := Lib.hid h
  have HNo := Lib.hid (fun k hk => @Gl.all_no l k hk)
  have HAll : Hid ((l.take l.length).all Gl.isExt = true → l.all Gl.isExt = true) := Lib.hid (by rw [List.take_length]; exact id)
  generalize l.all Gl.isExt = ans at *
  generalize hn : l.length = n at *
  have HN := Lib.hid hn
  clear hn h
  go_enter Try.func23, Try.ntmps23
  go_wp2_with fail
  go_loopw [4, 7] (fun _ i W => ∃ k : Nat, k ≤ n ∧ i = .int .i64 k ∧ Hid ((l.take k).all Gl.isExt = true) ∧ Hid (Lo w W)) (fun _ i _ => n - (intOf i).toNat)
  case atStart => exact ⟨0, Nat.zero_le _, rfl, Lib.hid rfl, Lib.hid (Lo.refl _)⟩
  case round =>
    obtain ⟨k, hk, rfl, HA, HL⟩ := hrel
    by_cases hlt : k < n
    · have HK : Hid (k < l.length) := Lib.hid (by rw [HN.out]; exact hlt)
      obtain ⟨b, off, rfl, r0, r1, r2, r3, r4⟩ := ERow.at5 (RowK.lo HR.out HL.out) (Gl.getD_some HK.out)
      have HU := Lib.hid (Gl.all_upto HK.out)
      have HF := Lib.hid (HNo.out k hlt)
      generalize l.getD k Gl.none = x at *
      have HI := Lib.hid (fun W => gis_any x W)
      unfold aggE at HI
      cases hi : Gl.isExt x with
      | true =>
        rw [hi] at HI
        have HU2 : Hid ((l.take (k + 1)).all Gl.isExt = true) := Lib.hid (by rw [HU.out, HA.out, hi]; rfl)
        clear hi HF HU
        go_wp2_with fail
        refine (HI.out _).mono ?_
        rintro e w3 ⟨rfl, lo⟩
        have HL3 := Lib.hid ((HL.out.alloc _).trans lo)
        clear lo HI r0 r1 r2 r3 r4
        go_wp2_with fail
        go_roundw
        case rel => exact ⟨k + 1, by omega, by go_num, HU2, HL3⟩
        case measure => simp [intOf]; omega
      | false =>
        rw [hi] at HI
        have HE : Hid (ans = false) := Lib.hid (HF.out hi)
        clear hi HF HU
        go_wp2_with fail
        refine (HI.out _).mono ?_
        rintro e w3 ⟨rfl, lo⟩
        have HL3 := Lib.hid ((HL.out.alloc _).trans lo)
        clear lo HI r0 r1 r2 r3 r4
        go_wp2_with fail
        go_ret
        exact ⟨ret_bool HE.out.symm, HL3.out⟩
    · obtain rfl : k = n := by omega
      have HE : Hid (ans = true) := Lib.hid (HAll.out HA.out)
      go_wp2_with fail
      go_ret
      exact ⟨ret_bool HE.out.symm, HL.out⟩

set_option maxHeartbeats 1600000 in
theorem outlines_any (v : Value) (l : List Gl.Ext) (w : World) (h : ERow w v l) (hl : l.length ≤ 1000000) : Calls Try.prog 24 #[v] w fun e w' => e = .returned (.int .i64 (Gl.outlines l : Nat)) ∧ Lo w w' := by
  obtain ⟨p, c, rfl, hlen⟩ := RowK.form h
  have HR := Lib.hid h
  have HAll : Hid (Gl.outlines (l.take l.length) = Gl.outlines l) := Lib.hid (by rw [List.take_length])
  generalize Gl.outlines l = ans at *
  generalize hn : l.length = n at *
  have HN := Lib.hid hn
  clear hn h
  go_enter Try.func24, Try.ntmps24
  go_wp2_with fail
  go_loopw [3, 5, 8] (fun s _ i W => ∃ k t : Nat, k ≤ n ∧ i = .int .i64 k ∧ s = .int .i64 t ∧ t ≤ k ∧ Hid (t = Gl.outlines (l.take k)) ∧ Hid (Lo w W)) (fun _ _ i _ => n - (intOf i).toNat)
  case atStart => exact ⟨0, 0, Nat.zero_le _, rfl, rfl, Nat.le_refl _, Lib.hid rfl, Lib.hid (Lo.refl _)⟩
  case round =>
    obtain ⟨k, t, hk, rfl, rfl, htk, HT, HL⟩ := hrel
    by_cases hlt : k < n
    · have HK : Hid (k < l.length) := Lib.hid (by rw [HN.out]; exact hlt)
      obtain ⟨b, off, rfl, r0, r1, r2, r3, r4⟩ := ERow.at5 (RowK.lo HR.out HL.out) (Gl.getD_some HK.out)
      have HU := Lib.hid (Gl.outlines_snoc HK.out)
      generalize l.getD k Gl.none = x at *
      obtain ⟨xa, x0, y0, x1, y1⟩ := x
      dsimp only at r0 r1 r2 r3 r4 HU
      cases xa with
      | true =>
        have HU2 : Hid (t + 1 = Gl.outlines (l.take (k + 1))) := Lib.hid (by rw [HU.out, ← HT.out]; rfl)
        clear HU HT
        go_wp2_with fail
        go_roundw
        case rel => exact ⟨k + 1, t + 1, by omega, by go_num, by go_num, by omega, HU2, Lib.hid (HL.out.alloc _)⟩
        case measure => simp [intOf]; omega
      | false =>
        have HU2 : Hid (t = Gl.outlines (l.take (k + 1))) := Lib.hid (by rw [HU.out, ← HT.out]; rfl)
        clear HU HT
        go_wp2_with fail
        go_roundw
        case rel => exact ⟨k + 1, t, by omega, by go_num, rfl, by omega, HU2, Lib.hid (HL.out.alloc _)⟩
        case measure => simp [intOf]; omega
    · obtain rfl : k = n := by omega
      have HE : Hid (t = ans) := Lib.hid (HT.out.trans HAll.out)
      go_wp2_with fail
      go_ret
      exact ⟨ret_int (by rw [HE.out]), HL.out⟩

/-- Two rows, told. -/
def TwoRows (a b : List Int) (w : World) (e : Ending) (w' : World) : Prop := ∃ p c q d, e = .returned (.tuple #[.slice p a.length c, .slice q b.length d]) ∧ Row w' (.slice p a.length c) a ∧ Row w' (.slice q b.length d) b ∧ Lo w w'

set_option maxRecDepth 100000 in
set_option maxHeartbeats 3200000 in
theorem laid_any (v : Value) (l : List Gl.Ext) (un : Nat) (w : World) (h : ERow w v l) (hl : l.length ≤ 100000) (hu : un = 1 ∨ un = 2) :
    Calls Try.prog 25 #[v, .int .i64 (un : Int)] w (TwoRows (Gl.ends l un l.length) (Gl.vals l) w) := by
  obtain ⟨p, c, rfl, hlen⟩ := RowK.form h
  have HR := Lib.hid h
  have HEl := Lib.hid (fun k => Gl.ends_len l un k)
  have HEs := Lib.hid (fun k => Gl.ends_succ l un k)
  have HVs : Hid (∀ k, k < l.length → Gl.vals (l.take (k + 1)) = Gl.vals (l.take k) ++ Gl.vals1 (l.getD k Gl.none)) := Lib.hid (fun k hk => by rw [Gl.take_snocE hk, Gl.vals_snoc])
  have HVl : Hid (∀ k, (Gl.vals (l.take k)).length ≤ 6 * k) := Lib.hid (fun k => by
    rw [Gl.vals_many]
    have h1 := Gl.outlines_le (l.take k)
    have h2 : (l.take k).length ≤ k := List.length_take_le _ _
    omega)
  have HAll : Hid (l.take l.length = l) := Lib.hid (List.take_length)
  unfold TwoRows
  rw [HEl.out]
  generalize hn : l.length = n at *
  have HN := Lib.hid hn
  clear hn h
  go_enter Try.func25, Try.ntmps25
  go_wp2_with fail
  go_loopw [4, 5, 7, 11] (fun s v _ i W => ∃ (k t : Nat) (pe : Option Addr) (ce : Nat) (pv : Option Addr) (cv : Nat), k ≤ n ∧ i = .int .i64 k ∧ s = .slice pe (k + 1) ce ∧ v = .slice pv t cv ∧ t ≤ 6 * k ∧ Hid (t = (Gl.vals (l.take k)).length) ∧ Hid (Own W w.heap.size (.slice pe (k + 1) ce) (Gl.ends l un k)) ∧ Hid (Own W w.heap.size (.slice pv t cv) (Gl.vals (l.take k))) ∧ Hid (Apart (.slice pe (k + 1) ce) (.slice pv t cv)) ∧ Hid (Lo w W)) (fun _ _ _ i _ => n - (intOf i).toNat)
  case atStart => exact ⟨0, 0, _, 1, none, 0, Nat.zero_le _, rfl, rfl, rfl, Nat.le_refl _, Lib.hid rfl, Lib.hid (by rw [Gl.ends_zero]; exact own_lit w 0), Lib.hid (Own.none _ _), Lib.hid (fun g _ h => by cases h), Lib.hid ((Lo.refl _).alloc _)⟩
  case round =>
    obtain ⟨k, t, pe, ce, pv, cv, hk, rfl, rfl, rfl, htk, HT, HO1, HO2, HAp, HL⟩ := hrel
    by_cases hlt : k < n
    · have HK : Hid (k < l.length) := Lib.hid (by rw [HN.out]; exact hlt)
      obtain ⟨b, off, rfl, r0, r1, r2, r3, r4⟩ := ERow.at5 (RowK.lo HR.out HL.out) (Gl.getD_some HK.out)
      have HV := Lib.hid (HVs.out k hlt)
      have HE := Lib.hid (HEs.out k)
      have HEk := Lib.hid (HEl.out k)
      generalize l.getD k Gl.none = x at *
      obtain ⟨xa, x0, y0, x1, y1⟩ := x
      dsimp only at r0 r1 r2 r3 r4 HV
      cases xa with
      | true =>
        have HV2 : Hid (Gl.vals (l.take (k + 1)) = Gl.vals (l.take k) ++ [0, x0, y0, x1, y1, 0]) := Lib.hid (by rw [HV.out]; rfl)
        have HT2 : Hid (t + 6 = (Gl.vals (l.take (k + 1))).length) := Lib.hid (by rw [HV2.out, List.length_append, ← HT.out]; rfl)
        have HQ : Hid (Gl.ends l un (k + 1) = Gl.ends l un k ++ [2 * ((t : Int) + 6) / (un : Int)]) := Lib.hid (by rw [HE.out, ← HT2.out]; simp)
        have HTT := Lib.hid HT.out.symm
        clear HV HE HT
        go_wp2_with (at_builtin; first
          | (refine wpList_app2 _ rfl (.tmp 17) (.tmp 26) rfl w.heap.size (.slice pv t cv) _ rfl (HO2.out.lo (((Lo.refl _).alloc _).alloc _)) (.slice pe (k + 1) ce) _ (HO1.out.lo (((Lo.refl _).alloc _).alloc _)) HAp.out.symm _ [0, x0, y0, x1, y1, 0] rfl (row6 _ _ (by simp) 0 x0 y0 x1 y1 0) (by simp) (by rw [HTT.out]; simp; omega) (by have := HL.out.size; simp; omega) ?_; intro q1 c1 w3 hown hoth hap hlo; have HO3 := Lib.hid hown; have HO4 := Lib.hid hoth; have HAp2 := Lib.hid hap.symm; have HL3 := Lib.hid (hlo w ((HL.out.alloc _).alloc _) rfl); clear hown hlo hoth hap; rw [HTT.out] at HO3 HAp2; rw [HTT.out])
          | (refine wpList_app2 _ rfl (.tmp 28) (.tmp 34) rfl w.heap.size (.slice pe (k + 1) ce) _ rfl (HO4.out.lo ((Lo.refl _).alloc _)) (.slice q1 (t + 6) c1) _ (HO3.out.lo ((Lo.refl _).alloc _)) HAp2.out _ [2 * ((t : Int) + 6) / (un : Int)] rfl (row1 _ _ rfl _) (by simp) (by rw [HEk.out]; simp; omega) (by have := HL3.out.size; simp; omega) ?_; intro q2 c2 w4 hown hoth hap hlo; have HO5 := Lib.hid hown; have HO6 := Lib.hid hoth; have HAp3 := Lib.hid hap; have HL4 := Lib.hid (hlo w (HL3.out.alloc _) rfl); clear hown hlo hoth hap; rw [HEk.out] at HO5 HAp3; rw [HEk.out]))
        go_roundw
        case rel => exact ⟨k + 1, t + 6, q2, c2, q1, c1, by omega, by go_num, rfl, rfl, by omega, HT2, Lib.hid (by rw [HQ.out]; exact HO5.out), Lib.hid (by rw [HV2.out]; exact HO6.out), HAp3, HL4⟩
        case measure => simp [intOf]; omega
      | false =>
        have HV2 : Hid (Gl.vals (l.take (k + 1)) = Gl.vals (l.take k)) := Lib.hid (by rw [HV.out]; simp [Gl.vals1])
        have HT2 : Hid (t = (Gl.vals (l.take (k + 1))).length) := Lib.hid (by rw [HV2.out, ← HT.out])
        have HQ : Hid (Gl.ends l un (k + 1) = Gl.ends l un k ++ [2 * (t : Int) / (un : Int)]) := Lib.hid (by rw [HE.out, ← HT2.out]; simp)
        clear HV HE HT
        go_wp2_with (at_builtin; refine wpList_app2 _ rfl (.tmp 28) (.tmp 34) rfl w.heap.size (.slice pe (k + 1) ce) _ rfl (HO1.out.lo (((Lo.refl _).alloc _).alloc _)) (.slice pv t cv) _ (HO2.out.lo (((Lo.refl _).alloc _).alloc _)) HAp.out _ [2 * (t : Int) / (un : Int)] rfl (row1 _ _ (by simp) _) (by simp) (by rw [HEk.out]; simp; omega) (by have := HL.out.size; simp; omega) ?_; intro q2 c2 w4 hown hoth hap hlo; have HO5 := Lib.hid hown; have HO6 := Lib.hid hoth; have HAp3 := Lib.hid hap; have HL4 := Lib.hid (hlo w ((HL.out.alloc _).alloc _) rfl); clear hown hlo hoth hap; rw [HEk.out] at HO5 HAp3; rw [HEk.out])
        go_roundw
        case rel => exact ⟨k + 1, t, q2, c2, pv, cv, by omega, by go_num, rfl, rfl, by omega, HT2, Lib.hid (by rw [HQ.out]; exact HO5.out), Lib.hid (by rw [HV2.out]; exact HO6.out), HAp3, HL4⟩
        case measure => simp [intOf]; omega
    · obtain rfl : k = n := by omega
      go_wp2_with fail
      go_ret2
      have HT3 : Hid ((Gl.vals l).length = t) := Lib.hid (by rw [HT.out, HAll.out])
      rw [HT3.out]
      refine ⟨pe, ce, pv, cv, rfl, HO1.out.row, ?_, HL.out⟩
      have := HO2.out.row
      rw [HAll.out] at this
      exact this
end Go.Proofs.Ytkfljalcnjdliaa
