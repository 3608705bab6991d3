/-
  Contracts of chart.search and chart.Look: a rune's glyph. No conditions beyond those stated.
-/
import Derived.Test.YtnlifmedkkboaaaChLook
namespace Go.Proofs.Ytnlifmedkkboaaa
open Go.RowKit

set_option maxHeartbeats 800000 in
theorem csearch_any (l : List Ch.Span) (v : Value) (c : Int) (w : World) (hr : SRow w v l) (hn : l.length ≤ 65536) :
    Calls Try.prog 32 #[v, .int .i64 c, .func (.func 33) #[] #[]] w fun e w' => ∃ k : Nat, e = .returned (.int .i64 (k : Int)) ∧ k ≤ l.length ∧ (k = 0 ∨ (l.getD (k - 1) Ch.zs).to < c) ∧ (k = l.length ∨ c ≤ (l.getD k Ch.zs).to) ∧ Lo w w' := by
  have hmf : ∀ (fn : Fn) (first cap : Array Value) (w : World), (Instr.makeFunc fn first cap).run Try.prog w = .ok (.func fn first cap) w := fun _ _ _ _ => rfl
  obtain ⟨p, cp, rfl, hlen⟩ := RowK.form hr
  have HS := Lib.hid (fun (W : World) (b0 b1 b2 : Nat) (q0 : W.cell? ⟨b0, 0, none⟩ = some (.func (.func 33) #[] #[])) (q1 : W.cell? ⟨b1, 0, none⟩ = some (.slice p l.length cp)) (q2 : W.cell? ⟨b2, 0, none⟩ = some (.int .i64 c)) (hr : SRow W (.slice p l.length cp) l) =>
    search_any 50 #[.pointer (some ⟨b0, 0, none⟩), .pointer (some ⟨b1, 0, none⟩), .pointer (some ⟨b2, 0, none⟩)] l.length (fun k => decide (c ≤ (l.getD k Ch.zs).to)) W (fun _ _ => rfl) hn (fun i W' hi hW =>
      place_any b0 b1 b2 i l _ c W' ((hW.cell (World.block_lt_of_cell? W _ q0)).trans q0) ((hW.cell (World.block_lt_of_cell? W _ q1)).trans q1) ((hW.cell (World.block_lt_of_cell? W _ q2)).trans q2) (RowK.lo hr hW) hi))
  have HR := Lib.hid hr
  generalize hnn : l.length = n at *
  have HN := Lib.hid hnn
  clear hnn hr
  go_enter Try.func32, Try.ntmps32
  go_wp2_with fail
  have HL : Hid (Lo w (((w.alloc (.cells #[.slice p n cp] 22)).alloc (.cells #[.int .i64 c] 3)).alloc (.cells #[.func (.func 33) #[] #[]] 56))) := Lib.hid ((((Lo.refl w).alloc _).alloc _).alloc _)
  refine (HS.out _ _ _ _ (by simp [go_sem]) (by simp [go_sem]) (by simp [go_sem]) (RowK.lo HR.out HL.out)).mono ?_
  rintro e w1 ⟨k, rfl, hk, h1, h2, lo⟩
  have H1 := Lib.hid h1
  have H2 := Lib.hid h2
  have HL1 := Lib.hid (HL.out.trans lo)
  clear h1 h2 lo HS
  go_wp2_with fail
  go_ret
  refine ⟨k, rfl, hk, ?_, ?_, HL1.out⟩
  · rcases H1.out with h | h
    · exact .inl h
    · right
      have := of_decide_eq_false h
      omega
  · rcases H2.out with h | h
    · exact .inl h
    · exact .inr (of_decide_eq_true h)

set_option maxHeartbeats 1600000 in
theorem clook_any (v : Value) (l : List Ch.Span) (c : Int) (w : World) (h : SRow w v l) : Calls Try.prog 16 #[v, .int .i64 c] w fun e w' => e = .returned (.int .i64 (Ch.Look l c)) ∧ Lo w w' := by
  have HI := Lib.hid (fun W hW => cis_any v l W hW)
  cases hl : Ch.isL l with
  | false =>
    have HE : Hid (Ch.Look l c = 0) := Lib.hid (by unfold Ch.Look; rw [hl]; rfl)
    rw [hl] at HI
    generalize Ch.Look l c = y at *
    clear hl
    go_enter Try.func16, Try.ntmps16
    go_wp2_with fail
    refine (HI.out _ h).mono ?_
    rintro e w1 ⟨rfl, l1⟩
    have HL := Lib.hid l1
    clear l1 HI h
    go_wp2_with fail
    go_ret
    exact ⟨ret_int HE.out.symm, HL.out⟩
  | true =>
    have hlen := (Ch.isL_chain hl).2
    have HF := Lib.hid (fun (i : Nat) hi hlo hhi => Ch.look_found hl (c := c) (i := i) hi hlo hhi)
    have HS := Lib.hid (fun W hW => csearch_any l v c W hW hlen)
    have HM := Lib.hid (fun (i : Nat) (hi : i < l.length) => (Ch.chain_mem (Ch.isL_chain hl).1 _ (Ch.getD_mem hi)).1)
    have HG := Lib.hid (fun (x : Ch.Span) (hx : Ch.okSpan x = true) h7 h8 (W : World) => glyph_ok hx c W h7 h8)
    unfold aggS at HG
    rw [hl] at HI
    generalize Ch.Look l c = y at *
    clear hl
    obtain ⟨p, cp, rfl, _⟩ := RowK.form h
    have HR := Lib.hid h
    generalize hnn : l.length = n at *
    have HN := Lib.hid hnn
    clear hnn h
    go_enter Try.func16, Try.ntmps16
    go_wp2_with fail
    refine (HI.out _ HR.out).mono ?_
    rintro e w1 ⟨rfl, l1⟩
    have HL := Lib.hid l1
    have HR := Lib.hid (RowK.lo HR.out l1)
    clear l1 HI
    go_wp2_with fail
    refine (HS.out _ HR.out).mono ?_
    rintro e w2 ⟨k, rfl, hk, h1, h2, l1⟩
    have HL := Lib.hid (HL.out.trans l1)
    have HR := Lib.hid (RowK.lo HR.out l1)
    have HF1 := Lib.hid (HF.out k hk h1 h2)
    have H2 := Lib.hid h2
    clear l1 HS HF h1 h2
    by_cases hkn : k = n
    · subst hkn
      have HE : Hid (y = 0) := Lib.hid (HF1.out.1 (.inl rfl))
      clear HF1
      go_wp2_with fail
      go_ret
      exact ⟨ret_int HE.out.symm, HL.out⟩
    · have hk' : k < l.length := by rw [HN.out]; omega
      have hkz : ¬ (k : Int) = (n : Int) := by omega
      have hkb : ((k : Int) == (n : Int)) = false := by rw [beq_eq_false_iff_ne]; omega
      have hkl : k < n := by omega
      have HK := Lib.hid (HM.out k hkl)
      obtain ⟨b, off, rfl, r0, r1, r2, r3⟩ := SRow.at4 HR.out (Ch.getD_some hk')
      clear hk'
      have H2 : Hid (c ≤ (l.getD k Ch.zs).to) := Lib.hid (H2.out.resolve_left hkn)
      have HF2 : Hid ((c < (l.getD k Ch.zs).fr → y = 0) ∧ (¬ c < (l.getD k Ch.zs).fr → y = Ch.glyphOf (l.getD k Ch.zs) c)) := Lib.hid ⟨fun h => HF1.out.1 (.inr h), fun h => HF1.out.2 (by rintro (h1 | h1); exact hkn h1; exact h h1)⟩
      clear HF1
      generalize l.getD k Ch.zs = x at *
      by_cases hc : c < x.fr
      · have HE := Lib.hid (HF2.out.1 hc)
        clear HF2 HG
        go_wp2_with fail
        go_ret
        exact ⟨ret_int HE.out.symm, HL.out⟩
      · have HE := Lib.hid (HF2.out.2 hc)
        have hok := (Ch.okSpan_iff x).1 HK.out
        have HG1 := Lib.hid (HG.out x HK.out (by omega) (by have := H2.out; omega))
        have hcd : decide (c < x.fr) = false := decide_eq_false hc
        clear HF2 HG hok
        go_wp2_with fail
        refine (HG1.out _).mono ?_
        rintro e w3 ⟨rfl, l1⟩
        have HL := Lib.hid (HL.out.trans l1)
        clear l1 HG1
        go_wp2_with fail
        go_ret
        exact ⟨ret_int HE.out.symm, HL.out⟩
end Go.Proofs.Ytnlifmedkkboaaa
