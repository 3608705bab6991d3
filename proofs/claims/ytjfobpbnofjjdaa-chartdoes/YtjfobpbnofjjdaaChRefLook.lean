/-
  Contracts of the document's look and Look (layer 8). No conditions beyond those stated.
-/
import Derived.Test.YtjfobpbnofjjdaaChRef
namespace Ch
theorem drop_cons {l : List Span} {k : Nat} (h : k < l.length) : l.drop k = l.getD k zs :: l.drop (k + 1) := by
  rw [List.drop_eq_getElem_cons h, List.getD_eq_getElem?_getD, List.getElem?_eq_getElem h]; rfl
theorem look_in {l : List Span} {k : Nat} {c : Int} (h : k < l.length) (h1 : (l.getD k zs).fr ≤ c) (h2 : c ≤ (l.getD k zs).to) : look (l.drop k) c = glyphOf (l.getD k zs) c := by
  rw [drop_cons h, look, if_pos ⟨h1, h2⟩]
theorem look_next {l : List Span} {k : Nat} {c : Int} (h : k < l.length) (h1 : ¬ ((l.getD k zs).fr ≤ c ∧ c ≤ (l.getD k zs).to)) : look (l.drop k) c = look (l.drop (k + 1)) c := by
  rw [drop_cons h, look, if_neg h1]
end Ch
namespace Go.Proofs.Ytjfobpbnofjjdaa
open Go.RowKit

set_option maxRecDepth 100000 in
set_option maxHeartbeats 3200000 in
theorem rlook_any (v : Value) (l : List Ch.Span) (c : Int) (w : World) (h : SRow w v l) (hl : Ch.isL l = true) : Calls Try.prog 32 #[v, .int .i64 c] w fun e w' => e = .returned (.int .i64 (Ch.look l c)) ∧ Lo w w' := by
  obtain ⟨p, cp, rfl, hlen⟩ := RowK.form h
  have HR := Lib.hid h
  have hm := (Ch.isL_chain hl).2
  have HM := Lib.hid (fun (i : Nat) (hi : i < l.length) => (Ch.chain_mem (Ch.isL_chain hl).1 _ (Ch.getD_mem hi)).1)
  have H1 := Lib.hid (fun (k : Nat) (h : k < l.length) h1 h2 => Ch.look_in (c := c) h h1 h2)
  have H2 := Lib.hid (fun (k : Nat) (h : k < l.length) h1 => Ch.look_next (c := c) h h1)
  have HZ : Hid (Ch.look (l.drop l.length) c = 0) := Lib.hid (by rw [List.drop_length]; rfl)
  have HS : Hid (Ch.look (l.drop 0) c = Ch.look l c) := Lib.hid (by rw [List.drop_zero])
  generalize Ch.look l c = y at *
  generalize hn : l.length = n at *
  have HN := Lib.hid hn
  clear hn h hl
  go_enter Try.func32, Try.ntmps32
  go_wp2_with fail
  go_loopw [5] (fun s5 W => ∃ k : Nat, k ≤ n ∧ s5 = .int .i64 k ∧ Hid (Ch.look (l.drop k) c = y) ∧ Hid (Lo w W)) (fun s5 _ => n - (intOf s5).toNat)
  case atStart => exact ⟨0, Nat.zero_le _, rfl, HS, Lib.hid (Lo.refl _)⟩
  case round =>
    obtain ⟨k, hk, rfl, HE, HL⟩ := hrel
    by_cases hlt : k < n
    · have hk' : k < l.length := by rw [HN.out]; exact hlt
      obtain ⟨b, off, rfl, r0, r1, r2, r3⟩ := SRow.at4 (RowK.lo HR.out HL.out) (Ch.getD_some hk')
      clear hk'
      have HOk := Lib.hid (HM.out k hlt)
      have HA := Lib.hid (H1.out k hlt)
      have HB := Lib.hid (H2.out k hlt)
      generalize l.getD k Ch.zs = x at *
      by_cases c1 : x.fr ≤ c
      · by_cases c2 : c ≤ x.to
        · have HG := Lib.hid ((HA.out c1 c2).symm.trans HE.out)
          have hok := (Ch.okSpan_iff x).1 HOk.out
          have hgb := Ch.glyphOf_bound HOk.out c1 c2
          obtain ⟨m, hmul⟩ : ∃ m, m = x.st * (c - x.fr) := ⟨_, rfl⟩
          have hmb : 0 ≤ m ∧ m ≤ 1114111 := by
            rw [hmul]
            rcases (show x.st = 0 ∨ x.st = 1 by omega) with e | e
            · rw [e]; omega
            · rw [e]; omega
          have hg : Ch.glyphOf x c = x.gl + m := by unfold Ch.glyphOf; rw [hmul]
          rw [hg] at HG hgb
          obtain ⟨fr, tt, gl, st⟩ := x
          dsimp only at *
          have j1 : IntKind.i64.wrap (c - fr) = c - fr := IntWalk.i64_in _ (by omega)
          have j2 : IntKind.i64.wrap (st * (c - fr)) = m := by rw [← hmul]; exact IntWalk.i64_in _ (by omega)
          have j3 : IntKind.i64.wrap (gl + m) = gl + m := IntWalk.i64_in _ (by omega)
          clear HA HB HE hmul hg hok
          go_wp2_with fail
          go_quiet (fail)
          have HL2 := Lib.hid (HL.out.drewN nq)
          go_wp2_with fail
          go_ret
          exact ⟨ret_int (by first | exact HG.out | (rw [← HG.out]; done)), HL2.out⟩
        · have HE2 : Hid (Ch.look (l.drop (k + 1)) c = y) := Lib.hid ((HB.out (fun h => c2 h.2)).symm.trans HE.out)
          clear HA HB HE
          go_wp2_with fail
          go_roundw
          case rel => exact ⟨k + 1, by omega, by go_num, HE2, HL⟩
          case measure => simp [intOf]; omega
      · have HE2 : Hid (Ch.look (l.drop (k + 1)) c = y) := Lib.hid ((HB.out (fun h => c1 h.1)).symm.trans HE.out)
        clear HA HB HE
        go_wp2_with fail
        go_roundw
        case rel => exact ⟨k + 1, by omega, by go_num, HE2, HL⟩
        case measure => simp [intOf]; omega
    · obtain rfl : k = n := by omega
      have HF : Hid (y = 0) := Lib.hid (HE.out.symm.trans HZ.out)
      go_wp2_with fail
      go_ret
      exact ⟨ret_int HF.out.symm, HL.out⟩

set_option maxHeartbeats 800000 in
theorem rLook_any (v : Value) (l : List Ch.Span) (c : Int) (w : World) (h : SRow w v l) : Calls Try.prog 20 #[v, .int .i64 c] w fun e w' => e = .returned (.int .i64 (Ch.Look l c)) ∧ Lo w w' := by
  have HI := Lib.hid (fun W hW => ris_any v l W hW)
  have HR := Lib.hid h
  clear h
  unfold Ch.Look
  cases hl : Ch.isL l with
  | false =>
    rw [hl] at HI
    rw [if_neg (by simp)]
    clear hl
    go_enter Try.func20, Try.ntmps20
    go_wp2_with fail
    refine (HI.out _ HR.out).mono ?_
    rintro e w1 ⟨rfl, lo⟩
    have HL := Lib.hid lo
    clear lo HI
    go_wp2_with fail
    go_ret
    exact ⟨rfl, HL.out⟩
  | true =>
    have HK := Lib.hid (fun W hW => rlook_any v l c W hW hl)
    rw [hl] at HI
    rw [if_pos rfl]
    generalize Ch.look l c = y at *
    clear hl
    go_enter Try.func20, Try.ntmps20
    go_wp2_with fail
    refine (HI.out _ HR.out).mono ?_
    rintro e w1 ⟨rfl, lo⟩
    have HL := Lib.hid lo
    have HR := Lib.hid (RowK.lo HR.out lo)
    clear lo HI
    go_wp2_with fail
    refine (HK.out _ HR.out).mono ?_
    rintro e w2 ⟨rfl, lo⟩
    have HL := Lib.hid (HL.out.trans lo)
    clear lo HK
    go_wp2_with fail
    go_ret
    exact ⟨rfl, HL.out⟩
end Go.Proofs.Ytjfobpbnofjjdaa
