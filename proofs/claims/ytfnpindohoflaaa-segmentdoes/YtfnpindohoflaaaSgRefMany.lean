/-
  Contracts of the document's glyph, row, kept, Many (layer 9). No conditions beyond those stated.
-/
import Derived.Test.YtfnpindohoflaaaSgMany
import Derived.Test.YtfnpindohoflaaaChRef
namespace Sg
open Ch
/-- The first k spans: none goes beyond 65535. -/
def upOk (l : List Span) (k : Nat) : Bool := (l.take k).all fun x => decide (x.to ≤ 65535)
theorem upOk_step {l : List Span} {k : Nat} (h : k < l.length) : upOk l (k + 1) = (upOk l k && decide ((l.getD k zs).to ≤ 65535)) := by
  unfold upOk
  rw [take_snoc h, List.all_append]
  simp
theorem up_no {l : List Span} {k : Nat} (hl : isL l = true) (h : k < (kept l).length) (hx : 65535 < ((kept l).getD k zs).to) : manyOf l = (0, 0, 7) := by
  unfold manyOf
  rw [if_neg (by rw [hl]; simp), if_pos]
  exact List.any_eq_true.2 ⟨_, getD_mem h, by simpa using hx⟩
theorem up_all {l : List Span} (h : upOk (kept l) (kept l).length = true) : ¬ (kept l).any (fun x => decide (65535 < x.to)) = true := by
  unfold upOk at h
  rw [List.take_length] at h
  intro he
  obtain ⟨x, hx, e⟩ := List.any_eq_true.1 he
  have := List.all_eq_true.1 h x hx
  simp at e this
  omega
theorem ended_step {l : List Span} {k : Nat} (h : k < l.length) : ended (l.take (k + 1)) = (ended (l.take k) || decide ((l.getD k zs).to = 65535)) := by
  unfold ended
  rw [take_snoc h, List.any_append]
  simp
theorem whole_len (l : List Span) : (whole l).length = if ended (kept l) = true then (kept l).length else (kept l).length + 1 := by
  unfold whole
  by_cases e : ended (kept l) = true
  · rw [if_pos e, if_pos e]
  · rw [if_neg e, if_neg e, List.length_append]; rfl
theorem many_end {l : List Span} (hl : isL l = true) (h : upOk (kept l) (kept l).length = true) (n : Nat) (hn : n = if ended (kept l) = true then (kept l).length else (kept l).length + 1) :
    (65535 < 16 + 8 * n + 2 * glyphs (kept l) → manyOf l = (0, 0, 7)) ∧ (¬ 65535 < 16 + 8 * n + 2 * glyphs (kept l) → manyOf l = (n, glyphs (kept l), 0)) := by
  rw [← whole_len] at hn
  subst hn
  have h1 : ¬ isL l = false := by rw [hl]; simp
  have h2 := up_all h
  constructor
  · intro hs
    unfold manyOf
    rw [if_neg h1, if_neg h2, if_pos hs]
  · intro hs
    unfold manyOf
    rw [if_neg h1, if_neg h2, if_neg hs]
end Sg
namespace Go.Proofs.Ytfnpindohoflaaa
open Go.RowKit

set_option maxHeartbeats 800000 in
theorem rglyph_any (x : Ch.Span) (w : World) : Calls Try.prog 58 #[aggS x] w fun e w' => e = .returned (.bool (Sg.hasGl x)) ∧ Lo w w' := by
  obtain ⟨fr, tt, gl, st⟩ := x
  unfold Sg.hasGl aggS
  dsimp only
  by_cases h1 : 0 < gl
  · rw [decide_eq_true h1, Bool.true_or]
    go_enter Try.func58, Try.ntmps58
    go_wp2_with fail
    go_ret
    exact ⟨rfl, (Lo.refl w).alloc _⟩
  · rw [decide_eq_false h1, Bool.false_or]
    by_cases h2 : st = 1
    · subst h2
      by_cases h3 : fr < tt
      · go_enter Try.func58, Try.ntmps58
        go_wp2_with fail
        go_ret
        exact ⟨ret_bool (by simp), (Lo.refl w).alloc _⟩
      · go_enter Try.func58, Try.ntmps58
        go_wp2_with fail
        go_ret
        exact ⟨ret_bool (by simp [h3]), (Lo.refl w).alloc _⟩
    · have hb : (st == 1) = false := by rw [beq_eq_false_iff_ne]; exact h2
      go_enter Try.func58, Try.ntmps58
      go_wp2_with fail
      go_ret
      exact ⟨ret_bool (by simp), (Lo.refl w).alloc _⟩

set_option maxHeartbeats 800000 in
theorem rrow_any (x : Ch.Span) (w : World) : Calls Try.prog 34 #[aggS x] w fun e w' => e = .returned (.bool (Sg.isRow x)) ∧ Lo w w' := by
  obtain ⟨fr, tt, gl, st⟩ := x
  unfold Sg.isRow aggS
  dsimp only
  by_cases h2 : st = 0
  · subst h2
    by_cases h3 : fr < tt
    · go_enter Try.func34, Try.ntmps34
      go_wp2_with fail
      go_ret
      exact ⟨ret_bool (by simp [h3]), (Lo.refl w).alloc _⟩
    · go_enter Try.func34, Try.ntmps34
      go_wp2_with fail
      go_ret
      exact ⟨ret_bool (by simp [h3]), (Lo.refl w).alloc _⟩
  · have hb : (st == 0) = false := by rw [beq_eq_false_iff_ne]; exact h2
    go_enter Try.func34, Try.ntmps34
    go_wp2_with fail
    go_ret
    exact ⟨ret_bool (by simp [h2]), (Lo.refl w).alloc _⟩

set_option maxRecDepth 100000 in
set_option maxHeartbeats 1600000 in
theorem rkept_any (v : Value) (l : List Ch.Span) (w : World) (h : SRow w v l) (hm : l.length ≤ 65536) : Calls Try.prog 32 #[v] w fun e w' => ∃ p c, e = .returned (.slice p (Sg.kept l).length c) ∧ OwnK encS 41 4 w' w.heap.size (.slice p (Sg.kept l).length c) (Sg.kept l) ∧ Lo w w' := by
  obtain ⟨p, c, rfl, hlen⟩ := RowK.form h
  have HR := Lib.hid h
  have HM := Lib.hid (fun (x : Ch.Span) (W : World) => rglyph_any x W)
  have HSt := Lib.hid (fun (k : Nat) (h : k < l.length) => Sg.kept_step h)
  have HLe : Hid (∀ k, (Sg.kept (l.take k)).length ≤ k) := Lib.hid (fun k => Nat.le_trans (Sg.kept_len _) (List.length_take_le _ _))
  have HAll : Hid (l.take l.length = l) := Lib.hid List.take_length
  generalize hnn : l.length = n at *
  have HN := Lib.hid hnn
  clear hnn h
  unfold aggS at HM
  go_enter Try.func32, Try.ntmps32
  go_wp2_with fail
  go_loopw [3, 4] (fun s3 s4 W => ∃ (k : Nat) (L : List Ch.Span) (q : Option Addr) (d : Nat), k ≤ n ∧ s4 = .int .i64 k ∧ s3 = .slice q L.length d ∧ Hid (L = Sg.kept (l.take k)) ∧ Hid (OwnK encS 41 4 W w.heap.size (.slice q L.length d) L) ∧ Hid (Lo w W)) (fun _ s4 _ => n - (intOf s4).toNat)
  case atStart => exact ⟨0, [], none, 0, Nat.zero_le _, rfl, rfl, Lib.hid rfl, Lib.hid (OwnK.none _ _ _ _ _), Lib.hid (Lo.refl _)⟩
  case round =>
    obtain ⟨k, L, q, d, hk, rfl, rfl, HT, HO, HL⟩ := hrel
    by_cases hlt : k < n
    · have hk' : k < l.length := by rw [HN.out]; exact hlt
      obtain ⟨b, off, rfl, r0, r1, r2, r3⟩ := SRow.at4 (RowK.lo HR.out HL.out) (Ch.getD_some hk')
      have HS1 := Lib.hid (HSt.out k hlt)
      have HLk : Hid (L.length ≤ k) := Lib.hid (by rw [HT.out]; exact HLe.out k)
      rw [← HT.out] at HS1
      have HM1 := Lib.hid (HM.out (l.getD k Ch.zs))
      have HC := Lib.hid (fun (W : World) (lo : Lo w W) => (SRow.at4 (RowK.lo HR.out lo) (Ch.getD_some hk')))
      clear hk'
      generalize l.getD k Ch.zs = x at *
      cases hu : Sg.hasGl x with
      | false =>
        have HT2 : Hid (L = Sg.kept (l.take (k + 1))) := Lib.hid (by rw [HS1.out, hu, if_neg (by simp), List.append_nil])
        rw [hu] at HM1
        clear hu HS1 HT
        go_wp2_with fail
        refine (HM1.out _).mono ?_
        rintro e w3 ⟨rfl, lo⟩
        have HL3 := Lib.hid (HL.out.trans lo)
        have HO3 := Lib.hid (OwnK.lo HO.out lo)
        clear lo HM1 r0 r1 r2 r3
        go_wp2_with fail
        go_roundw
        case rel => exact ⟨k + 1, L, q, d, by omega, by go_num, rfl, HT2, HO3, HL3⟩
        case measure => simp [intOf]; omega
      | true =>
        have HT2 : Hid (L ++ [x] = Sg.kept (l.take (k + 1))) := Lib.hid (by rw [HS1.out, hu, if_pos rfl])
        rw [hu] at HM1
        clear hu HS1 HT
        go_wp2_with fail
        refine (HM1.out _).mono ?_
        rintro e w3 ⟨rfl, lo⟩
        have HL3 := Lib.hid (HL.out.trans lo)
        have HO3 := Lib.hid (OwnK.lo HO.out lo)
        have HSZ := Lib.hid HL3.out.size
        obtain ⟨b', off', e', s0, s1, s2, s3⟩ := HC.out w3 HL3.out
        injection e' with e'
        injection e' with e1 e2
        subst e1 e2
        clear lo HM1 r0 r1 r2 r3
        go_wp2_with (at_builtin; refine wpList_appK _ rfl (.tmp 16) (.tmp 21) _ rfl 41 4 32 _ Try.underlying22 api_info rfl (by omega) (by omega) encS_len encS_one w.heap.size (.slice q L.length d) L rfl (OwnK.lo HO3.out ((Lo.refl _).alloc _)) _ [x] rfl (srow1 _ _ rfl x _) (by have := HLk.out; simp; omega) (by have := HSZ.out; simp; omega) ?_; intro q1 d1 w4 hown hlo; have HO4 := Lib.hid hown; have HL4 := Lib.hid (hlo w (HL3.out.alloc _) (Nat.le_refl _)); clear hown hlo)
        go_roundw
        case rel => exact ⟨k + 1, L ++ [x], q1, d1, by omega, by go_num, by simp, HT2, by simpa using HO4, HL4⟩
        case measure => simp [intOf]; omega
    · obtain rfl : k = n := by omega
      have HE : Hid (L = Sg.kept l) := Lib.hid (by rw [HT.out, HAll.out])
      go_wp2_with fail
      go_ret
      exact ⟨q, d, by rw [← HE.out]; rfl, by rw [← HE.out]; exact HO.out, HL.out⟩

set_option maxRecDepth 100000 in
set_option maxHeartbeats 6400000 in
theorem rmany_any (v : Value) (l : List Ch.Span) (w : World) (h : SRow w v l) : Calls Try.prog 14 #[v] w fun e w' => e = manyEnd (Sg.manyOf l) ∧ Lo w w' := by
  have HI := Lib.hid (ris_any v l w h)
  unfold manyEnd
  cases hl : Ch.isL l with
  | false =>
    have HE : Hid (Sg.manyOf l = (0, 0, 1)) := Lib.hid (by unfold Sg.manyOf; rw [if_pos hl])
    rw [hl] at HI
    rw [HE.out]
    clear hl HE
    obtain ⟨p, c, rfl, hlen⟩ := RowK.form h
    go_enter Try.func14, Try.ntmps14
    go_wp2_with fail
    refine HI.out.mono ?_
    rintro e w1 ⟨rfl, lo⟩
    have HL := Lib.hid lo
    clear lo HI
    go_wp2_with fail
    go_ret3
    exact ⟨rfl, HL.out⟩
  | true =>
    have hc := Sg.chain_kept l (-1) (Ch.isL_links hl)
    have hll := (Ch.isL_chain hl).2
    have HK := Lib.hid (fun (W : World) (h : SRow W v l) => rkept_any v l W h hll)
    have HRw := Lib.hid (fun (x : Ch.Span) (W : World) => rrow_any x W)
    have HNo := Lib.hid (fun (k : Nat) (hk : k < (Sg.kept l).length) hx => Sg.up_no hl hk hx)
    have HEnd := Lib.hid (fun hh n hn => Sg.many_end hl hh n hn)
    have HUp := Lib.hid (fun (k : Nat) (hk : k < (Sg.kept l).length) => Sg.upOk_step hk)
    have HEs := Lib.hid (fun (k : Nat) (hk : k < (Sg.kept l).length) => Sg.ended_step hk)
    have HGs := Lib.hid (fun (k : Nat) (hk : k < (Sg.kept l).length) => Sg.glyphs_step hk)
    have HTk := Lib.hid (fun (k : Nat) => Sg.glyphs_take (Sg.kept l) k)
    have HOk := Lib.hid (fun (k : Nat) (hk : k < (Sg.kept l).length) => (Ch.okSpan_iff _).1 (Ch.chain_mem hc _ (Ch.getD_mem hk)).1)
    have hgl : Sg.glyphs (Sg.kept l) ≤ 1114112 := by
      have h1 := Sg.glyphs_le _ _ hc
      have h2 := Sg.lastTo_le hc
      omega
    have hnb : (Sg.kept l).length ≤ 65536 := Nat.le_trans (Sg.kept_len l) hll
    have HGb := Lib.hid hgl
    have HA1 : Hid ((Sg.kept l).take (Sg.kept l).length = Sg.kept l) := Lib.hid List.take_length
    have HR := Lib.hid h
    rw [hl] at HI
    generalize Sg.manyOf l = y at *
    generalize Sg.kept l = K at *
    generalize hKn : K.length = n at *
    have HKn := Lib.hid hKn
    unfold aggS at HRw
    obtain ⟨p, c, rfl, hlen⟩ := RowK.form h
    clear hKn h hlen hc hl hgl hll
    go_enter Try.func14, Try.ntmps14
    go_wp2_with fail
    refine HI.out.mono ?_
    rintro e w1 ⟨rfl, lo⟩
    have HL := Lib.hid lo
    have HK1 := Lib.hid (HK.out w1 (RowK.lo HR.out lo))
    clear lo HI HK HR
    go_wp2_with fail
    refine HK1.out.mono ?_
    rintro e w2 ⟨q, d, rfl, hown, lo⟩
    have HL2 := Lib.hid (HL.out.trans lo)
    have HO := Lib.hid (OwnK.row encS_len hown)
    clear lo HK1 hown
    go_wp2_with fail
    go_loopw [5, 6, 7] (fun s5 s6 s7 W => ∃ k : Nat, k ≤ n ∧ s7 = .int .i64 k ∧ s5 = .int .i64 ((Sg.glyphs (K.take k) : Nat) : Int) ∧ s6 = .bool (Sg.ended (K.take k)) ∧ Hid (Sg.upOk K k = true) ∧ Hid (Lo w2 W)) (fun _ _ s7 _ => n - (intOf s7).toNat)
    case atStart => exact ⟨0, Nat.zero_le _, rfl, rfl, rfl, Lib.hid rfl, Lib.hid (Lo.refl _)⟩
    case round =>
      obtain ⟨k, hk, rfl, rfl, rfl, HU, HL3⟩ := hrel
      by_cases hlt : k < n
      · have hk' : k < K.length := by rw [HKn.out]; exact hlt
        have HC := Lib.hid (fun (W : World) (lo : Lo w2 W) => (SRow.at4 (RowK.lo HO.out lo) (Ch.getD_some hk')))
        obtain ⟨b, off, rfl, r0, r1, r2, r3⟩ := HC.out _ HL3.out
        obtain ⟨a1, a2, a3, a4, a5, a6, a7, a8⟩ := HOk.out k hlt
        have HNo1 := Lib.hid (HNo.out k hlt)
        have HUp1 := Lib.hid (HUp.out k hlt)
        have HEs1 := Lib.hid (HEs.out k hlt)
        have hgs := HGs.out k hlt
        have hgt := HTk.out (k + 1)
        have hgb := HGb.out
        have HGs1 := Lib.hid hgs
        have HRw1 := Lib.hid (HRw.out (K.getD k Ch.zs))
        have hwi : Sg.isRow (K.getD k Ch.zs) = true → ((Sg.wid (K.getD k Ch.zs) : Nat) : Int) = (K.getD k Ch.zs).to - (K.getD k Ch.zs).fr + 1 := fun h => by unfold Sg.wid; rw [if_pos h]; omega
        have hwn : Sg.isRow (K.getD k Ch.zs) = false → Sg.wid (K.getD k Ch.zs) = 0 := fun h => by unfold Sg.wid; rw [if_neg (by rw [h]; simp)]
        clear hk' a8
        generalize K.getD k Ch.zs = x at *
        generalize Sg.glyphs K = gK at *
        generalize Sg.glyphs (K.take k) = g1 at *
        generalize Sg.wid x = wd at *
        have hgbd : g1 + wd ≤ 1114112 := by omega
        clear hgs hgt hgb
        by_cases c1 : 65535 < x.to
        · have HE := Lib.hid (HNo1.out c1)
          clear HRw1 hwi hwn
          go_wp2_with fail
          go_ret3
          rw [HE.out]
          exact ⟨rfl, HL2.out.trans HL3.out⟩
        · have HU2 : Hid (Sg.upOk K (k + 1) = true) := Lib.hid (by rw [HUp1.out, HU.out]; simp; omega)
          cases hr : Sg.isRow x with
          | false =>
            have hw0 := hwn hr
            rw [hr] at HRw1
            clear hwi hwn hr
            go_wp2_with fail
            refine (HRw1.out _).mono ?_
            rintro e w3 ⟨rfl, lo⟩
            have HL4 := Lib.hid (HL3.out.trans lo)
            obtain ⟨b', off', e', s0, s1, s2, s3⟩ := HC.out w3 HL4.out
            injection e' with e'
            injection e' with e1 e2
            subst e1 e2
            clear lo HRw1 r0 r1 r2 r3
            generalize hen : Sg.ended (K.take k) = en at *
            cases en with
            | true =>
              go_wp2_with fail
              go_roundw
              case rel => exact ⟨k + 1, by omega, by go_num, by rw [HGs1.out, hw0]; rfl, by rw [HEs1.out]; rfl, HU2, HL4⟩
              case measure => simp [intOf]; omega
            | false =>
              go_wp2_with fail
              go_roundw
              case rel => exact ⟨k + 1, by omega, by go_num, by rw [HGs1.out, hw0]; rfl, by rw [HEs1.out, Bool.false_or]; rfl, HU2, HL4⟩
              case measure => simp [intOf]; omega
          | true =>
            have hw1 := hwi hr
            rw [hr] at HRw1
            clear hwi hwn hr
            go_wp2_with fail
            refine (HRw1.out _).mono ?_
            rintro e w3 ⟨rfl, lo⟩
            have HL4 := Lib.hid (HL3.out.trans lo)
            obtain ⟨b', off', e', s0, s1, s2, s3⟩ := HC.out w3 HL4.out
            injection e' with e'
            injection e' with e1 e2
            subst e1 e2
            clear lo HRw1 r0 r1 r2 r3
            go_wp2_with fail
            go_quiet (fail)
            have HL5 := Lib.hid (HL4.out.drewN nq)
            generalize hen : Sg.ended (K.take k) = en at *
            cases en with
            | true =>
              go_wp2_with fail
              go_roundw
              case rel => exact ⟨k + 1, by omega, by go_num, by rw [HGs1.out]; congr 1; omega, by rw [HEs1.out]; rfl, HU2, HL5⟩
              case measure => simp [intOf]; omega
            | false =>
              go_wp2_with fail
              go_roundw
              case rel => exact ⟨k + 1, by omega, by go_num, by rw [HGs1.out]; congr 1; omega, by rw [HEs1.out, Bool.false_or]; rfl, HU2, HL5⟩
              case measure => simp [intOf]; omega
      · obtain rfl : k = n := by omega
        rw [HA1.out]
        have HEn := Lib.hid (HEnd.out HU.out)
        have hgb := HGb.out
        have HLf := Lib.hid (HL2.out.trans HL3.out)
        generalize Sg.glyphs K = g at *
        generalize Sg.ended K = en at *
        cases en with
        | true =>
          have HE2 := Lib.hid (HEn.out k rfl)
          by_cases hs : 65535 < 16 + 8 * k + 2 * g
          · have HE := Lib.hid (HE2.out.1 hs)
            go_wp2_with fail
            go_ret3
            rw [HE.out]
            exact ⟨rfl, HLf.out⟩
          · have HE := Lib.hid (HE2.out.2 hs)
            go_wp2_with fail
            go_ret3
            rw [HE.out]
            exact ⟨rfl, HLf.out⟩
        | false =>
          have HE2 := Lib.hid (HEn.out (k + 1) rfl)
          by_cases hs : 65535 < 16 + 8 * (k + 1) + 2 * g
          · have HE := Lib.hid (HE2.out.1 hs)
            go_wp2_with fail
            go_ret3
            rw [HE.out]
            exact ⟨rfl, HLf.out⟩
          · have HE := Lib.hid (HE2.out.2 hs)
            go_wp2_with fail
            go_ret3
            rw [HE.out]
            exact ⟨rfl, HLf.out⟩
end Go.Proofs.Ytfnpindohoflaaa
