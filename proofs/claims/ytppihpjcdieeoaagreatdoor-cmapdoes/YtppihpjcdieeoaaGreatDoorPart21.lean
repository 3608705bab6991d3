/-
  Facts that the walks rest on: SgFit, SgLay, SgHead. No conditions beyond those stated.
-/
import Derived.Test.YtppihpjcdieeoaaGreatDoorPart06
import Derived.Test.YtppihpjcdieeoaaGreatDoorPart10
import Derived.Test.YtppihpjcdieeoaaGreatDoorPart03
import Derived.Test.YtppihpjcdieeoaaGreatDoorPart05
import Derived.Test.YtppihpjcdieeoaaGreatDoorPlain
import Derived.Test.YtppihpjcdieeoaaGreatDoorPart19
import Derived.Test.YtppihpjcdieeoaaGreatDoorPart04
/-
  Contracts of segment.fitted and segment.Many: the spans that become segments, and how many glyphs they list. No conditions beyond those stated.
-/
namespace Sg
open Ch
/-- The spans that become segments, as the program finds them. -/
def pK (l : List Span) : List Span := if lastTo (-1) (kept l) < 65535 then kept l ++ [⟨65535, 65535, 0, 1⟩] else kept l
theorem lastTo_max : ∀ (l : List Span) (p : Int), chain p l = true → p ≤ lastTo p l ∧ (∀ x ∈ l, x.to ≤ lastTo p l) ∧ (lastTo p l = p ∨ ∃ x ∈ l, x.to = lastTo p l)
  | [], p, _ => ⟨Int.le_refl _, fun x hx => by simp at hx, .inl rfl⟩
  | x :: r, p, h => by
    obtain ⟨h1, h2, h3⟩ := chain_cons h
    obtain ⟨a1, a2, _⟩ := (okSpan_iff x).1 h1
    obtain ⟨i1, i2, i3⟩ := lastTo_max r x.to h3
    show p ≤ lastTo x.to r ∧ (∀ y ∈ x :: r, y.to ≤ lastTo x.to r) ∧ (lastTo x.to r = p ∨ ∃ y ∈ x :: r, y.to = lastTo x.to r)
    refine ⟨by omega, fun y hy => ?_, .inr ?_⟩
    · rcases List.mem_cons.1 hy with rfl | hy
      · exact i1
      · exact i2 y hy
    · rcases i3 with e | ⟨y, hy, e⟩
      · exact ⟨x, by simp, e.symm⟩
      · exact ⟨y, by simp [hy], e⟩
theorem lastTo_le {l : List Span} (h : chain (-1) l = true) : lastTo (-1) l ≤ 1114111 := by
  rcases (lastTo_max l (-1) h).2.2 with e | ⟨x, hx, e⟩
  · omega
  · obtain ⟨_, _, a3, _⟩ := (okSpan_iff x).1 (chain_mem h x hx).1
    omega
theorem glyphs_le : ∀ (l : List Span) (p : Int), chain p l = true → (glyphs l : Int) ≤ lastTo p l - p
  | [], p, _ => by simp [glyphs, lastTo]
  | x :: r, p, h => by
    obtain ⟨h1, h2, h3⟩ := chain_cons h
    obtain ⟨a1, a2, _⟩ := (okSpan_iff x).1 h1
    have ih := glyphs_le r x.to h3
    show ((glyphs (x :: r) : Nat) : Int) ≤ lastTo x.to r - p
    have e : glyphs (x :: r) = wid x + glyphs r := by simp [glyphs]
    have hw : (wid x : Int) ≤ x.to - x.fr + 1 := by
      unfold wid
      by_cases h : isRow x = true
      · rw [if_pos h]; omega
      · rw [if_neg h]; omega
    rw [e]
    omega
theorem pK_chain {l : List Span} (h : isL l = true) : chain (-1) (pK l) = true := by
  have hk := chain_kept l (-1) (isL_links h)
  unfold pK
  by_cases c : lastTo (-1) (kept l) < 65535
  · rw [if_pos c, chain_snoc, hk]
    simp only [Bool.true_and, Bool.and_eq_true, decide_eq_true_eq]
    exact ⟨by decide, c⟩
  · rw [if_neg c]; exact hk
theorem fit_facts {l : List Span} (h : isL l = true) : (65535 < lastTo (-1) (kept l) → manyOf l = (0, 0, 7)) ∧
    (¬ 65535 < lastTo (-1) (kept l) → whole l = pK l ∧ glyphs (kept l) = glyphs (pK l) ∧
      (65535 < 16 + 8 * (pK l).length + 2 * glyphs (pK l) → manyOf l = (0, 0, 7)) ∧ (¬ 65535 < 16 + 8 * (pK l).length + 2 * glyphs (pK l) → manyOf l = ((pK l).length, glyphs (pK l), 0))) := by
  have hk := chain_kept l (-1) (isL_links h)
  obtain ⟨m1, m2, m3⟩ := lastTo_max (kept l) (-1) hk
  have hn : ¬ isL l = false := by rw [h]; simp
  constructor
  · intro hc
    unfold manyOf
    rw [if_neg hn, if_pos]
    rcases m3 with e | ⟨x, hx, e⟩
    · omega
    · exact List.any_eq_true.2 ⟨x, hx, by simp; omega⟩
  · intro hc
    have hw : whole l = pK l := by
      unfold whole pK
      by_cases c : lastTo (-1) (kept l) < 65535
      · rw [if_pos c, if_neg]
        intro he
        obtain ⟨x, hx, e⟩ := List.any_eq_true.1 he
        have := m2 x hx
        simp at e
        omega
      · rw [if_neg c, if_pos]
        rcases m3 with e | ⟨x, hx, e⟩
        · omega
        · exact List.any_eq_true.2 ⟨x, hx, by simp; omega⟩
    have hg : glyphs (kept l) = glyphs (pK l) := by rw [← hw, glyphs_whole]
    have hno : ¬ (kept l).any (fun x => decide (65535 < x.to)) = true := by
      intro he
      obtain ⟨x, hx, e⟩ := List.any_eq_true.1 he
      have := m2 x hx
      simp at e
      omega
    refine ⟨hw, hg, fun hs => ?_, fun hs => ?_⟩
    · unfold manyOf
      rw [if_neg hn, if_neg hno, hw, hg, if_pos hs]
    · unfold manyOf
      rw [if_neg hn, if_neg hno, hw, hg, if_neg hs]
theorem glyphs_step {l : List Span} {k : Nat} (h : k < l.length) : glyphs (l.take (k + 1)) = glyphs (l.take k) + wid (l.getD k zs) := by
  rw [take_snoc h, glyphs_append]
  simp [glyphs]
theorem glyphs_take (l : List Span) (k : Nat) : glyphs (l.take k) ≤ glyphs l := by
  conv => rhs; rw [← List.take_append_drop k l, glyphs_append]
  omega
/-- What fitted tells. -/
def fit (l : List Span) : List Span × Nat × Int := if (manyOf l).2.2 = 0 then (whole l, glyphs (whole l), 0) else ([], 0, (manyOf l).2.2)
theorem lastTo_at {l : List Span} (h : 0 < l.length) : lastTo (-1) l = (l.getD (l.length - 1) zs).to := by
  have e := lastTo_step (l := l) (k := l.length - 1) (by omega)
  rw [show l.length - 1 + 1 = l.length by omega, List.take_length] at e
  exact e
end Sg
namespace Go.Proofs.YtppihpjcdieeoaaGreatDoor
open Go.RowKit

/-- Spans, a number and an error, told. -/
def GotFit (a : List Ch.Span × Nat × Int) (w : World) (e : Ending) (w' : World) : Prop := ∃ p c, e = .returned (.tuple #[.slice p a.1.length c, .int .i64 (a.2.1 : Int), .int .i64 a.2.2]) ∧ SRow w' (.slice p a.1.length c) a.1 ∧ Lo w w'
theorem GotFit.nil {w w' : World} {k : Int} {e : Ending} (he : e = .returned (.tuple #[.slice none 0 0, .int .i64 0, .int .i64 k])) (h : Lo w w') : GotFit ([], 0, k) w e w' := by
  subst he
  exact ⟨_, _, rfl, RowK.nil _ _ _, h⟩

set_option maxRecDepth 100000 in
set_option maxHeartbeats 3200000 in
theorem fitted_any (v : Value) (l : List Ch.Span) (w : World) (h : SRow w v l) : Calls Tryz.prog 91 #[v] w (GotFit (Sg.fit l) w) := by
  have HI := Lib.hid (cis_any v l w h)
  obtain ⟨p, c, rfl, hlen⟩ := RowK.form h
  cases hl : Ch.isL l with
  | false =>
    have HE : Hid (Sg.fit l = ([], 0, 1)) := Lib.hid (by
      have : Sg.manyOf l = (0, 0, 1) := by unfold Sg.manyOf; rw [if_pos hl]
      unfold Sg.fit
      rw [this, if_neg (by decide)])
    rw [hl] at HI
    generalize Sg.fit l = y at *
    clear h hl hlen
    go_enter Tryz.func91, Tryz.ntmps91
    go_wp2_with fail
    refine HI.out.mono ?_
    rintro e w1 ⟨rfl, lo⟩
    have HL := Lib.hid lo
    clear lo HI
    go_wp2_with fail
    go_ret3
    rw [HE.out]
    exact GotFit.nil rfl HL.out
  | true =>
    have HU := Lib.hid (fun (W : World) (h : SRow W (.slice p l.length c) l) => sused_any (.slice p l.length c) l W h hl)
    have hk := Sg.chain_kept l (-1) (Ch.isL_links hl)
    have hpk := Sg.pK_chain hl
    have HM := Lib.hid (fun (i : Nat) (hi : i < (Sg.pK l).length) (W : World) => listedGlyphs_any (Ch.chain_mem hpk _ (Ch.getD_mem hi)).1 W)
    have HSt := Lib.hid (fun (k : Nat) (h : k < (Sg.pK l).length) => Sg.glyphs_step h)
    have HTk := Lib.hid (fun (k : Nat) => Sg.glyphs_take (Sg.pK l) k)
    have HAll : Hid ((Sg.pK l).take (Sg.pK l).length = Sg.pK l) := Lib.hid List.take_length
    have HGl : Hid (Sg.glyphs (Sg.pK l) ≤ 1114112) := Lib.hid (by
      have h1 := Sg.glyphs_le (Sg.pK l) (-1) hpk
      have h2 := Sg.lastTo_le hpk
      omega)
    have hkl : (Sg.kept l).length ≤ 65536 := Nat.le_trans (Sg.kept_len l) (Ch.isL_chain hl).2
    have HPl : Hid ((Sg.pK l).length ≤ 65537) := Lib.hid (by
      unfold Sg.pK
      by_cases c : Ch.lastTo (-1) (Sg.kept l) < 65535
      · rw [if_pos c, List.length_append]; simp; omega
      · rw [if_neg c]; omega)
    have HZ : Hid (Ch.lastTo (-1) (Sg.kept l) ≤ 1114111 ∧ -1 ≤ Ch.lastTo (-1) (Sg.kept l)) := Lib.hid ⟨Sg.lastTo_le hk, (Sg.lastTo_max _ _ hk).1⟩
    have HE1 : Hid (65535 < Ch.lastTo (-1) (Sg.kept l) → Sg.fit l = ([], 0, 7)) := Lib.hid (fun hc => by
      have := (Sg.fit_facts hl).1 hc
      unfold Sg.fit
      rw [this, if_neg (by decide)])
    have HE2 : Hid (¬ 65535 < Ch.lastTo (-1) (Sg.kept l) → 65535 < 16 + 8 * (Sg.pK l).length + 2 * Sg.glyphs (Sg.pK l) → Sg.fit l = ([], 0, 7)) := Lib.hid (fun hc hs => by
      have := ((Sg.fit_facts hl).2 hc).2.2.1 hs
      unfold Sg.fit
      rw [this, if_neg (by decide)])
    have HE3 : Hid (¬ 65535 < Ch.lastTo (-1) (Sg.kept l) → ¬ 65535 < 16 + 8 * (Sg.pK l).length + 2 * Sg.glyphs (Sg.pK l) → Sg.fit l = (Sg.pK l, Sg.glyphs (Sg.pK l), 0)) := Lib.hid (fun hc hs => by
      have h1 := ((Sg.fit_facts hl).2 hc).1
      have := ((Sg.fit_facts hl).2 hc).2.2.2 hs
      unfold Sg.fit
      rw [this, if_pos rfl, h1])
    have HP1 : Hid (Ch.lastTo (-1) (Sg.kept l) < 65535 → Sg.kept l ++ [⟨65535, 65535, 0, 1⟩] = Sg.pK l) := Lib.hid (fun hc => by unfold Sg.pK; rw [if_pos hc])
    have HP2 : Hid (¬ Ch.lastTo (-1) (Sg.kept l) < 65535 → Sg.kept l = Sg.pK l) := Lib.hid (fun hc => by unfold Sg.pK; rw [if_neg hc])
    have HLt : Hid (0 < (Sg.kept l).length → Ch.lastTo (-1) (Sg.kept l) = ((Sg.kept l).getD ((Sg.kept l).length - 1) Ch.zs).to) := Lib.hid (fun h0 => Sg.lastTo_at h0)
    have HL0 : Hid ((Sg.kept l).length = 0 → Ch.lastTo (-1) (Sg.kept l) = -1) := Lib.hid (fun h0 => by rw [List.length_eq_zero_iff.1 h0]; rfl)
    have HLen := Lib.hid (fun (n g : Nat) (hn : n ≤ 10000000) (hg : g ≤ 10000000) (W : World) => length_any n g W hn hg)
    have HR := Lib.hid h
    rw [hl] at HI
    generalize Sg.fit l = y at *
    generalize Ch.lastTo (-1) (Sg.kept l) = z at *
    generalize Sg.pK l = K at *
    generalize Sg.kept l = M at *
    generalize hKn : K.length = n at *
    have HKn := Lib.hid hKn
    generalize hMn : M.length = mn at *
    have HMn := Lib.hid hMn
    unfold aggS at HM
    clear hKn hMn h hlen hk hpk hl
    go_enter Tryz.func91, Tryz.ntmps91
    go_wp2_with fail
    refine HI.out.mono ?_
    rintro e w1 ⟨rfl, lo⟩
    have HL := Lib.hid lo
    have HU1 := Lib.hid (HU.out w1 (RowK.lo HR.out lo))
    clear lo HI HU HR
    go_wp2_with fail
    refine HU1.out.mono ?_
    rintro e w2 ⟨q, d, rfl, hown, lo⟩
    have HL2 := Lib.hid (HL.out.trans lo)
    have HO := Lib.hid hown
    have HSz := Lib.hid (show w1.heap.size ≤ w2.heap.size from lo.size)
    have H12 := Lib.hid lo
    clear lo HU1 hown
    have HMb : Hid (M.length ≤ 65536) := Lib.hid (by rw [HMn.out]; exact hkl)
    by_cases h0 : mn = 0
    · have hz := HL0.out h0
      subst h0 hz
      have HP := Lib.hid (HP1.out (by omega))
      have HPn : Hid (M.length + List.length [(⟨65535, 65535, 0, 1⟩ : Ch.Span)] = n) := Lib.hid (by rw [← List.length_append, HP.out, HKn.out])
      clear HP1 HP2 HLt HL0
      go_wp2_with (at_builtin; refine wpList_appK _ rfl (.tmp 26) (.tmp 28) _ rfl 63 4 32 _ Tryz.underlying22 api_info rfl (by omega) (by omega) encS_len encS_one w1.heap.size (.slice q 0 d) M rfl (OwnK.lo HO.out ((Lo.refl _).alloc _)) _ [⟨65535, 65535, 0, 1⟩] rfl (srow1 _ _ rfl ⟨65535, 65535, 0, 1⟩ _) (by have := HMb.out; simp; omega) (by have := HSz.out; simp; omega) ?_; intro q2 d2 wa hown hlo; have hq := HPn.out; rw [hq] at hown ⊢; rw [HP.out] at hown; have HKR := Lib.hid (OwnK.row encS_len hown); have HLw := Lib.hid (HL.out.trans (hlo w1 (H12.out.alloc _) (Nat.le_refl _))); clear hown hlo hq)
      have hnb : n ≤ 65537 := HPl.out
      have HG0 : Hid (Sg.glyphs (K.take 0) = 0) := Lib.hid rfl
      go_loopw [3, 8, 32] (fun s3 _ s32 W => ∃ (k : Nat), k ≤ n ∧ s32 = .int .i64 k ∧ s3 = .int .i64 ((Sg.glyphs (K.take k) : Nat) : Int) ∧ Hid (Lo wa W)) (fun _ _ s32 _ => n - (intOf s32).toNat)
      case atStart => exact ⟨0, Nat.zero_le _, rfl, by rw [HG0.out]; rfl, Lib.hid (Lo.refl _)⟩
      case round =>
        obtain ⟨k, hk, rfl, rfl, HLr⟩ := hrel
        by_cases hlt : k < n
        · have hk' : k < K.length := by rw [HKn.out]; exact hlt
          obtain ⟨b, off, rfl, r0, r1, r2, r3⟩ := SRow.at4 (RowK.lo HKR.out HLr.out) (Ch.getD_some hk')
          clear hk'
          have HM1 := Lib.hid (HM.out k hlt)
          have hst := HSt.out k hlt
          have htk := HTk.out (k + 1)
          have hgl := HGl.out
          have HSt1 := Lib.hid hst
          generalize K.getD k Ch.zs = x at *
          generalize Sg.glyphs K = gK at *
          generalize Sg.glyphs (K.take k) = g1 at *
          generalize Sg.wid x = wd at *
          have hb : g1 + wd ≤ 1114112 := by omega
          clear hst htk hgl
          go_wp2_with fail
          refine (HM1.out _).mono ?_
          rintro e w3 ⟨rfl, lo⟩
          have HLr2 := Lib.hid ((HLr.out.alloc _).trans lo)
          clear lo HM1 r0 r1 r2 r3
          go_wp2_with fail
          go_roundw
          case rel => exact ⟨k + 1, by omega, by go_num, by rw [HSt1.out, Int.natCast_add], HLr2⟩
          case measure => simp [intOf]; omega
        · obtain rfl : k = n := by omega
          rw [HAll.out]
          have HLn1 := Lib.hid (HLen.out k (Sg.glyphs K) (by have := HPl.out; omega) (by have := HGl.out; omega))
          have HLf := Lib.hid (HLw.out.trans HLr.out)
          have HKf := Lib.hid (RowK.lo HKR.out HLr.out)
          have hgb := HGl.out
          generalize Sg.glyphs K = g at *
          by_cases hlg : 65535 < 16 + 8 * k + 2 * g
          · have HE := Lib.hid (HE2.out (by omega) hlg)
            go_wp2_with fail
            refine (HLn1.out _).mono ?_
            rintro e w4 ⟨rfl, rfl⟩
            go_wp2_with fail
            go_ret3
            rw [HE.out]
            exact GotFit.nil rfl HLf.out
          · have HE := Lib.hid (HE3.out (by omega) hlg)
            go_wp2_with fail
            refine (HLn1.out _).mono ?_
            rintro e w4 ⟨rfl, rfl⟩
            go_wp2_with fail
            go_ret3
            rw [HE.out]
            exact ⟨_, _, by rw [HKn.out]; rfl, by rw [HKn.out]; exact HKf.out, HLf.out⟩
    · obtain ⟨j, rfl⟩ : ∃ j, mn = j + 1 := ⟨mn - 1, by omega⟩
      have hlt := HLt.out (by omega)
      have hj : j < M.length := by rw [HMn.out]; omega
      rw [Nat.add_sub_cancel] at hlt
      obtain ⟨b, off, rfl, r0, r1, r2, r3⟩ := SRow.at4 (OwnK.row encS_len HO.out) (Ch.getD_some hj)
      rw [← hlt] at r1
      have hzb := HZ.out
      clear HLt HL0 h0 hlt hj r0 r2 r3
      by_cases hz : z < 65535
      · have HP := Lib.hid (HP1.out hz)
        have HPn : Hid (M.length + List.length [(⟨65535, 65535, 0, 1⟩ : Ch.Span)] = n) := Lib.hid (by rw [← List.length_append, HP.out, HKn.out])
        clear HP1 HP2
        go_wp2_with (at_builtin; refine wpList_appK _ rfl (.tmp 26) (.tmp 28) _ rfl 63 4 32 _ Tryz.underlying22 api_info rfl (by omega) (by omega) encS_len encS_one w1.heap.size (.slice (some ⟨b, off, none⟩) (j + 1) d) M rfl (OwnK.lo HO.out ((Lo.refl _).alloc _)) _ [⟨65535, 65535, 0, 1⟩] rfl (srow1 _ _ rfl ⟨65535, 65535, 0, 1⟩ _) (by have := HMb.out; simp; omega) (by have := HSz.out; simp; omega) ?_; intro q2 d2 wa hown hlo; have hq := HPn.out; rw [hq] at hown ⊢; rw [HP.out] at hown; have HKR := Lib.hid (OwnK.row encS_len hown); have HLw := Lib.hid (HL.out.trans (hlo w1 (H12.out.alloc _) (Nat.le_refl _))); clear hown hlo hq)
        have hnb : n ≤ 65537 := HPl.out
        have HG0 : Hid (Sg.glyphs (K.take 0) = 0) := Lib.hid rfl
        go_loopw [3, 8, 32] (fun s3 _ s32 W => ∃ (k : Nat), k ≤ n ∧ s32 = .int .i64 k ∧ s3 = .int .i64 ((Sg.glyphs (K.take k) : Nat) : Int) ∧ Hid (Lo wa W)) (fun _ _ s32 _ => n - (intOf s32).toNat)
        case atStart => exact ⟨0, Nat.zero_le _, rfl, by rw [HG0.out]; rfl, Lib.hid (Lo.refl _)⟩
        case round =>
          obtain ⟨k, hk, rfl, rfl, HLr⟩ := hrel
          by_cases hlt : k < n
          · have hk' : k < K.length := by rw [HKn.out]; exact hlt
            obtain ⟨b, off, rfl, r0, r1, r2, r3⟩ := SRow.at4 (RowK.lo HKR.out HLr.out) (Ch.getD_some hk')
            clear hk'
            have HM1 := Lib.hid (HM.out k hlt)
            have hst := HSt.out k hlt
            have htk := HTk.out (k + 1)
            have hgl := HGl.out
            have HSt1 := Lib.hid hst
            generalize K.getD k Ch.zs = x at *
            generalize Sg.glyphs K = gK at *
            generalize Sg.glyphs (K.take k) = g1 at *
            generalize Sg.wid x = wd at *
            have hb : g1 + wd ≤ 1114112 := by omega
            clear hst htk hgl
            go_wp2_with fail
            refine (HM1.out _).mono ?_
            rintro e w3 ⟨rfl, lo⟩
            have HLr2 := Lib.hid ((HLr.out.alloc _).trans lo)
            clear lo HM1 r0 r1 r2 r3
            go_wp2_with fail
            go_roundw
            case rel => exact ⟨k + 1, by omega, by go_num, by rw [HSt1.out, Int.natCast_add], HLr2⟩
            case measure => simp [intOf]; omega
          · obtain rfl : k = n := by omega
            rw [HAll.out]
            have HLn1 := Lib.hid (HLen.out k (Sg.glyphs K) (by have := HPl.out; omega) (by have := HGl.out; omega))
            have HLf := Lib.hid (HLw.out.trans HLr.out)
            have HKf := Lib.hid (RowK.lo HKR.out HLr.out)
            have hgb := HGl.out
            generalize Sg.glyphs K = g at *
            by_cases hlg : 65535 < 16 + 8 * k + 2 * g
            · have HE := Lib.hid (HE2.out (by omega) hlg)
              go_wp2_with fail
              refine (HLn1.out _).mono ?_
              rintro e w4 ⟨rfl, rfl⟩
              go_wp2_with fail
              go_ret3
              rw [HE.out]
              exact GotFit.nil rfl HLf.out
            · have HE := Lib.hid (HE3.out (by omega) hlg)
              go_wp2_with fail
              refine (HLn1.out _).mono ?_
              rintro e w4 ⟨rfl, rfl⟩
              go_wp2_with fail
              go_ret3
              rw [HE.out]
              exact ⟨_, _, by rw [HKn.out]; rfl, by rw [HKn.out]; exact HKf.out, HLf.out⟩
      · obtain rfl := HP2.out (by omega)
        obtain rfl : n = j + 1 := by rw [← HKn.out, HMn.out]
        have HKR := Lib.hid (OwnK.row encS_len HO.out)
        have HLw := HL2
        clear HP1 HP2
        go_wp2_with fail
        have hnb : (j + 1) ≤ 65537 := HPl.out
        have HG0 : Hid (Sg.glyphs (M.take 0) = 0) := Lib.hid rfl
        go_loopw [3, 8, 32] (fun s3 _ s32 W => ∃ (k : Nat), k ≤ (j + 1) ∧ s32 = .int .i64 k ∧ s3 = .int .i64 ((Sg.glyphs (M.take k) : Nat) : Int) ∧ Hid (Lo w2 W)) (fun _ _ s32 _ => (j + 1) - (intOf s32).toNat)
        case atStart => exact ⟨0, Nat.zero_le _, rfl, by rw [HG0.out]; rfl, Lib.hid (Lo.refl _)⟩
        case round =>
          obtain ⟨k, hk, rfl, rfl, HLr⟩ := hrel
          by_cases hlt : k < (j + 1)
          · have hk' : k < M.length := by rw [HKn.out]; exact hlt
            obtain ⟨b', off', e', r0, r1, r2, r3⟩ := SRow.at4 (RowK.lo HKR.out HLr.out) (Ch.getD_some hk')
            injection e' with e'
            injection e' with e1 e2
            subst e1 e2
            clear hk'
            have HM1 := Lib.hid (HM.out k hlt)
            have hst := HSt.out k hlt
            have htk := HTk.out (k + 1)
            have hgl := HGl.out
            have HSt1 := Lib.hid hst
            generalize M.getD k Ch.zs = x at *
            generalize Sg.glyphs M = gK at *
            generalize Sg.glyphs (M.take k) = g1 at *
            generalize Sg.wid x = wd at *
            have hb : g1 + wd ≤ 1114112 := by omega
            clear hst htk hgl
            go_wp2_with fail
            refine (HM1.out _).mono ?_
            rintro e w3 ⟨rfl, lo⟩
            have HLr2 := Lib.hid ((HLr.out.alloc _).trans lo)
            clear lo HM1 r0 r1 r2 r3
            go_wp2_with fail
            go_roundw
            case rel => exact ⟨k + 1, by omega, by go_num, by rw [HSt1.out, Int.natCast_add], HLr2⟩
            case measure => simp [intOf]; omega
          · obtain rfl : k = j + 1 := by omega
            rw [HAll.out]
            have HLn1 := Lib.hid (HLen.out (j + 1) (Sg.glyphs M) (by have := HPl.out; omega) (by have := HGl.out; omega))
            have HLf := Lib.hid (HLw.out.trans HLr.out)
            have HKf := Lib.hid (RowK.lo HKR.out HLr.out)
            have hgb := HGl.out
            generalize Sg.glyphs M = g at *
            by_cases hz7 : 65535 < z
            · have HE := Lib.hid (HE1.out hz7)
              go_wp2_with fail
              go_ret3
              rw [HE.out]
              exact GotFit.nil rfl HLf.out
            · by_cases hlg : 65535 < 16 + 8 * (j + 1) + 2 * g
              · have HE := Lib.hid (HE2.out (by omega) hlg)
                go_wp2_with fail
                refine (HLn1.out _).mono ?_
                rintro e w4 ⟨rfl, rfl⟩
                go_wp2_with fail
                go_ret3
                rw [HE.out]
                exact GotFit.nil rfl HLf.out
              · have HE := Lib.hid (HE3.out (by omega) hlg)
                go_wp2_with fail
                refine (HLn1.out _).mono ?_
                rintro e w4 ⟨rfl, rfl⟩
                go_wp2_with fail
                go_ret3
                rw [HE.out]
                exact ⟨_, _, by rw [HKn.out]; rfl, by rw [HKn.out]; exact HKf.out, HLf.out⟩
end Go.Proofs.YtppihpjcdieeoaaGreatDoor
/-
  Plain facts: spans laid into the arrays, one after the other, give the words of format 4. Nothing of the program. No conditions beyond those stated.
-/
namespace Sg
open Ch Bn He
/-- A list by its places. -/
def tab (f : Nat → Int) (N : Nat) : List Int := (List.range N).map f
theorem tab_len (f : Nat → Int) (N : Nat) : (tab f N).length = N := by simp [tab]
theorem tab_at (f : Nat → Int) {N j : Nat} (h : j < N) : (tab f N)[j]? = some (f j) := by simp [tab, h]
theorem tab_ext {f : Nat → Int} {N : Nat} {l : List Int} (hl : l.length = N) (h : ∀ j, j < N → l[j]? = some (f j)) : l = tab f N := by
  apply List.ext_getElem?
  intro j
  rcases Nat.lt_or_ge j N with hj | hj
  · rw [h j hj, tab_at f hj]
  · rw [List.getElem?_eq_none (by omega), List.getElem?_eq_none (by rw [tab_len]; exact hj)]
theorem tab_congr {f g : Nat → Int} {N : Nat} (h : ∀ j, j < N → f j = g j) : tab f N = tab g N := tab_ext (tab_len f N) fun j hj => by rw [tab_at f hj, h j hj]
theorem tab_set (f : Nat → Int) (N i : Nat) (z : Int) : (tab f N).set i z = tab (fun j => if j = i then z else f j) N := by
  refine tab_ext (by simp [tab_len]) fun j hj => ?_
  rw [List.getElem?_set]
  by_cases h : j = i
  · subst h
    rw [if_pos rfl, if_pos rfl, tab_len, if_pos hj]
  · rw [if_neg (Ne.symm h), if_neg h, tab_at f hj]
theorem tab_splice (f : Nat → Int) {N a w : Nat} (z : Int) (h : a + w ≤ N) : (tab f N).take a ++ List.replicate w z ++ (tab f N).drop (a + w) = tab (fun j => if a ≤ j ∧ j < a + w then z else f j) N := by
  have hl := tab_len f N
  refine tab_ext (by simp [hl]; omega) fun j hj => ?_
  by_cases h1 : j < a
  · rw [List.append_assoc, List.getElem?_append_left (by simp [hl]; omega), List.getElem?_take, if_pos h1, tab_at f hj, if_neg (by omega)]
  · by_cases h2 : j < a + w
    · rw [List.append_assoc, List.getElem?_append_right (by simp [hl]; omega), List.length_take, hl, List.getElem?_append_left (by simp; omega), List.getElem?_replicate, if_pos (by omega), if_pos (by omega)]
    · rw [List.getElem?_append_right (by simp [hl]; omega), List.getElem?_drop, List.length_append, List.length_take, hl, List.length_replicate, show a + w + (j - (min a N + w)) = j by omega, tab_at f hj, if_neg (by omega)]
/-- Which numbers stand behind the first k spans. -/
def done (K : List Span) (k j : Nat) : Prop :=
  j < 7 ∨ (7 ≤ j ∧ j < 7 + k) ∨ (8 + K.length ≤ j ∧ j < 8 + K.length + k) ∨ (8 + 2 * K.length ≤ j ∧ j < 8 + 2 * K.length + k) ∨ (8 + 3 * K.length ≤ j ∧ j < 8 + 3 * K.length + k) ∨ (8 + 4 * K.length ≤ j ∧ j < 8 + 4 * K.length + glyphs (K.take k))
instance (K : List Span) (k j : Nat) : Decidable (done K k j) := by unfold done; infer_instance
def stage (K : List Span) (k : Nat) : List Int := tab (fun j => if done K k j then (words K).getD j 0 else 0) (words K).length
theorem stage_len (K : List Span) (k : Nat) : (stage K k).length = 8 + 4 * K.length + glyphs K := by unfold stage; rw [tab_len, words_len]
theorem stage_zero (K : List Span) : stage K 0 = hd K.length (glyphs K) ++ (List.replicate (8 + 4 * K.length + glyphs K) (0 : Int)).drop 7 := by
  symm
  refine tab_ext (by simp [hd, words_len]; omega) fun j hj => ?_
  rw [words_len] at hj
  by_cases h : j < 7
  · rw [if_pos (.inl h), List.getElem?_append_left (by simp [hd]; exact h)]
    unfold words
    simp only [List.append_assoc]
    rw [getD_app_left _ _ _ (by simp [hd]; exact h)]
    simp only [List.getD]
    rw [List.getElem?_eq_getElem (by simp [hd]; exact h)]
    rfl
  · have hno : ¬ done K 0 j := by
      unfold done
      have : glyphs (K.take 0) = 0 := rfl
      rw [this]
      omega
    rw [if_neg hno, List.getElem?_append_right (by simp [hd]; omega), List.getElem?_drop, List.getElem?_replicate, if_pos (by simp [hd]; omega)]
theorem stage_end (K : List Span) : stage K K.length = words K := by
  symm
  refine tab_ext rfl fun j hj => ?_
  have hj2 := hj
  rw [words_len] at hj2
  have hg : (words K)[j]? = some ((words K).getD j 0) := by simp [List.getD, List.getElem?_eq_getElem hj]
  rw [hg]
  congr 1
  by_cases h : done K K.length j
  · rw [if_pos h]
  · rw [if_neg h]
    have e : j = 7 + K.length := by
      unfold done at h
      rw [List.take_length] at h
      omega
    subst e
    unfold words
    simp only [List.append_assoc]
    rw [getD_app_right _ _ _ K.length (by simp [hd]), getD_app_right _ _ _ 0 (by simp)]
    rfl
theorem at1_zs {K : List Span} {k : Nat} (h : k < K.length) : at1 K k = K.getD k zs := by
  simp [at1, List.getD, List.getElem?_eq_getElem h]
theorem delta_mod {x : Span} (h : isRow x = false) (h0 : 0 ≤ x.gl) (h1 : x.gl ≤ 65535) (h2 : 0 ≤ x.fr) (h3 : x.fr ≤ 65535) : delta x = (x.gl - x.fr) % 65536 := by
  unfold delta
  rw [if_neg (by rw [h]; simp)]
  unfold plane
  by_cases h4 : 65536 ≤ 65536 + x.gl - x.fr
  · rw [if_pos h4]; omega
  · rw [if_neg h4]; omega
end Sg
/-
  Contract of segment.fillHead: the first seven numbers laid into an array. No conditions beyond those stated.
-/
namespace Go.Proofs.YtppihpjcdieeoaaGreatDoor
open Go.RowKit

theorem rowSeven (w : World) (B : Nat) (hB : B = w.heap.size) (a b c d e f g : Int) : ∀ j, j < 7 → (w.alloc (.cells #[.int .i64 a, .int .i64 b, .int .i64 c, .int .i64 d, .int .i64 e, .int .i64 f, .int .i64 g] 3)).cell? ⟨B, 0 + j, none⟩ = some (.int .i64 ([a, b, c, d, e, f, g].getD j 0)) := by
  subst hB
  intro j hj
  obtain rfl | rfl | rfl | rfl | rfl | rfl | rfl : j = 0 ∨ j = 1 ∨ j = 2 ∨ j = 3 ∨ j = 4 ∨ j = 5 ∨ j = 6 := by omega
  all_goals simp [go_sem]

set_option maxRecDepth 100000 in
set_option maxHeartbeats 1600000 in
theorem fillHead_any (n g B ty : Nat) (L : List Int) (w0 w : World) (h0 : Lo w0 w) (hB : w0.heap.size ≤ B) (harr : ArrAt w B ty L) (hL : 7 ≤ L.length) (h1 : 1 ≤ n) (hn : n ≤ 8200) (hg : g ≤ 100000) :
    Calls Tryz.prog 94 #[.slice (some ⟨B, 0, none⟩) 7 7, .int .i64 (n : Int), .int .i64 (g : Int)] w fun e w' => e = .returned (.tuple #[]) ∧ ArrAt w' B ty (Sg.hd n g ++ L.drop 7) ∧ Lo w0 w' ∧ ∀ T, T ≠ B → T < w.heap.size → w'.heap[T]? = w.heap[T]? := by
  obtain ⟨t, e1, e2, e3, e4, e5⟩ := Sg.pow2_is (n := n) (by omega) hn
  have HB := Lib.hid (fun W => Tryz.bits_Len (n : Int) W (by omega) (by omega))
  rw [Int.toNat_natCast, e4] at HB
  have HLn := Lib.hid (fun W => length_any n g W (by omega) (by omega))
  have hhd : Sg.hd n g = [4, ((16 + 8 * n + 2 * g : Nat) : Int), 0, ((2 * n : Nat) : Int), ((2 * 2 ^ t : Nat) : Int), (t : Int), ((2 * n : Nat) : Int) - ((2 * 2 ^ t : Nat) : Int)] := by
    unfold Sg.hd
    rw [e1]
  rw [hhd]
  clear hhd e1 e4
  have hw : wrap64 ((2 : Int) ^ t) = ((2 ^ t : Nat) : Int) := by
    rw [Int.natCast_pow]; exact wrap_id (by have : (0 : Int) ≤ 2 ^ t := Int.pow_nonneg (by omega); omega) (by rw [show (2 : Int) ^ t = ((2 ^ t : Nat) : Int) by rw [Int.natCast_pow]; rfl]; omega)
  generalize 2 ^ t = P at *
  clear e3
  have HCp := Lib.hid (fun (W : World) (a1 a3 a4 a5 a6 : Int) (hA : ArrAt W B ty L) => copy_into 3 B ty 0 7 7 W.heap.size 0 7 7 L [4, a1, 0, a3, a4, a5, a6] (W.alloc (.cells #[.int .i64 4, .int .i64 a1, .int .i64 0, .int .i64 a3, .int .i64 a4, .int .i64 a5, .int .i64 a6] 3)) (hA.lo ((Lo.refl _).alloc _)) (rowSeven W _ rfl _ _ _ _ _ _ _) rfl (Nat.le_refl _) (by omega))
  have HA := Lib.hid harr
  have H0 := Lib.hid h0
  have HBw := Lib.hid hB
  clear harr h0 hB
  go_enter Tryz.func94, Tryz.ntmps94
  go_wp2_with fail
  refine (HB.out _).mono ?_
  rintro e w1 ⟨rfl, rfl⟩
  go_wp2_with fail
  refine (HLn.out _).mono ?_
  rintro e w2 ⟨rfl, rfl⟩
  obtain ⟨w3, hcp, hA3, hL3, hO3⟩ := HCp.out w1 (16 + 8 * (n : Int) + 2 * (g : Int)) (2 * (n : Int)) (2 * (P : Int)) (t : Int) (2 * (n : Int) - 2 * (P : Int)) HA.out
  have HA3 := Lib.hid hA3
  have HL3 := Lib.hid (hL3 w0 (H0.out.alloc _) HBw.out)
  have HO3 := Lib.hid hO3
  clear hA3 hL3 hO3 HCp HB HLn
  go_wp2_with fail
  go_end0
  refine ⟨rfl, ?_, HL3.out, fun T hT hlt => ?_⟩
  · have := HA3.out
    rw [List.take_zero, List.nil_append, Nat.zero_add] at this
    rw [show ((16 + 8 * n + 2 * g : Nat) : Int) = 16 + 8 * (n : Int) + 2 * (g : Int) by omega, show ((2 * n : Nat) : Int) = 2 * (n : Int) by omega, show ((2 * P : Nat) : Int) = 2 * (P : Int) by omega]
    exact this
  · rw [HO3.out T hT]
    exact ((Lo.refl w1).alloc _).block T hlt
end Go.Proofs.YtppihpjcdieeoaaGreatDoor
