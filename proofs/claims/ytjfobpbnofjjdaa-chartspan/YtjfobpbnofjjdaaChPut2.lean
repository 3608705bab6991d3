/-
  Contracts of chart.PutSmall and PutTrimmed. No conditions beyond those stated.
-/
import Derived.Test.YtjfobpbnofjjdaaChPut
namespace Go.Proofs.Ytjfobpbnofjjdaa
open Go.RowKit

theorem small_arr (w : World) (B : Nat) (hB : B = w.heap.size) (ty : Nat) : ArrAt (w.alloc (.cells Try.zeroCells51 ty)) B ty (Ch.laid [] 0 256) := by
  subst hB
  unfold ArrAt
  rw [new_block, Ch.laid_nil, small_noughts]
theorem trimmed_arr (a : Int) (w : World) (B : Nat) (hB : B = w.heap.size) (ty : Nat) : ArrAt (w.alloc (.cells Try.zeroCells57 ty)) B ty (Ch.laid [] a 32762) := by
  subst hB
  unfold ArrAt
  rw [new_block, Ch.laid_nil, trimmed_noughts]
theorem small_row {w : World} {B ty : Nat} {k : List Ch.Span} (h : ArrAt w B ty (Ch.laid k 0 256)) : Row w (.slice (some ⟨B, 0, none⟩) 256 256) (Ch.laid k 0 256) := by
  have := h.row (n := 256) (cap := 256) (by rw [Ch.laid_len]; omega) (by omega) (by omega)
  rw [List.take_of_length_le (by rw [Ch.laid_len]; omega)] at this
  exact this
theorem laid_take (k : List Ch.Span) (a : Int) {n m : Nat} (h : n ≤ m) : (Ch.laid k a m).take n = Ch.laid k a n := by
  unfold Ch.laid
  rw [← List.map_take, List.take_range, Nat.min_eq_left h]
theorem trimmed_row {w : World} {B ty : Nat} {k : List Ch.Span} {a : Int} {n : Nat} (h : ArrAt w B ty (Ch.laid k a 32762)) (hn : n ≤ 32762) : Row w (.slice (some ⟨B, 0, none⟩) n 32762) (Ch.laid k a n) := by
  have := h.row (n := n) (cap := 32762) (by rw [Ch.laid_len]; omega) (by omega) (by omega)
  rw [laid_take k a hn] at this
  exact this

theorem row5 (w : World) (B : Nat) (hB : B = w.heap.size) (a b c d e : Int) : Row (w.alloc (.cells #[.int .i64 a, .int .i64 b, .int .i64 c, .int .i64 d, .int .i64 e] 3)) (.slice (some ⟨B, 0, none⟩) 5 5) [a, b, c, d, e] :=
  hB ▸ .inr ⟨w.heap.size, 0, 5, rfl, by simp, by simp, by simp, fun i hi => by
    obtain rfl | rfl | rfl | rfl | rfl : i = 0 ∨ i = 1 ∨ i = 2 ∨ i = 3 ∨ i = 4 := by simp at hi; omega
    all_goals simp [go_sem]⟩

set_option maxRecDepth 100000 in
set_option maxHeartbeats 1600000 in
theorem putSmall_any (v : Value) (l : List Ch.Span) (w : World) (h : SRow w v l) : Calls Try.prog 11 #[v] w fun e w' => e = strErr (Ch.putSmall l) ∧ Lo w w' := by
  have HI := Lib.hid (fun W hW => cis_any v l W hW)
  have HR := Lib.hid h
  clear h
  unfold strErr
  cases hl : Ch.isL l with
  | false =>
    have HE := Lib.hid (Ch.put0_arg hl)
    rw [hl] at HI
    generalize Ch.putSmall l = y at *
    clear hl
    go_enter Try.func11, Try.ntmps11
    go_wp2_with fail
    refine (HI.out _ HR.out).mono ?_
    rintro e w1 ⟨rfl, lo⟩
    have HL := Lib.hid lo
    clear lo HI
    go_wp2_with fail
    go_ret2
    exact ⟨by rw [HE.out]; rfl, HL.out⟩
  | true =>
    rw [hl] at HI
    have HU := Lib.hid (fun W hW => used_any v l W hW hl)
    unfold GotSpans at HU
    have hcu := Ch.chain_used (Ch.isL_chain hl).1
    have hlu : (Ch.used l).length ≤ 65536 := Nat.le_trans (Ch.used_len l) (Ch.isL_chain hl).2
    have HC := Lib.hid (fun (u : Value) (W : World) hW => contains_any u (Ch.used l) W hW (fun x hx => (Ch.chain_mem hcu x hx).1))
    cases hs : (Ch.used l).any Ch.leaves with
    | true =>
      have HE := Lib.hid (Ch.put0_long hl hs)
      rw [hs] at HC
      generalize Ch.putSmall l = y at *
      generalize Ch.used l = k at *
      clear hl hs hcu
      go_enter Try.func11, Try.ntmps11
      go_wp2_with fail
      refine (HI.out _ HR.out).mono ?_
      rintro e w1 ⟨rfl, lo⟩
      have HL := Lib.hid lo
      have HR := Lib.hid (RowK.lo HR.out lo)
      clear lo HI
      go_wp2_with fail
      refine (HU.out _ HR.out).mono ?_
      rintro e w2 ⟨p, c, rfl, hr, lo⟩
      have HL := Lib.hid (HL.out.trans lo)
      have HR := Lib.hid hr
      clear lo hr HU
      go_wp2_with fail
      refine (HC.out _ _ HR.out).mono ?_
      rintro e w3 ⟨rfl, lo⟩
      have HL := Lib.hid (HL.out.trans lo)
      clear lo HC
      go_wp2_with fail
      go_ret2
      exact ⟨by rw [HE.out]; rfl, HL.out⟩
    | false =>
      have HE := Lib.hid (Ch.small_put hl hs)
      have HZ : Hid ((Ch.putSmall l).2 = 0) := Lib.hid (by rw [Ch.put0_right hl hs])
      have hin := (Ch.small_in hl hs).1
      have HLay := Lib.hid (fun (B cap ty : Nat) (u : Value) (w0 W : World) h0 hB hr harr => lay_any (Ch.used l) 0 B 256 cap 256 ty u w0 W h0 hB hr harr (Nat.le_refl _) (by omega) hcu (fun x hx => by have := hin x hx; omega) hlu (by omega))
      have HW := Lib.hid (fun (u t : Value) (W : World) h1 h2 => written_any [0, 262, 0] (Ch.laid (Ch.used l) 0 256) 1 u t W h1 h2 (by simp) (by rw [Ch.laid_len]; omega))
      rw [Ch.laid_len, show [(0 : Int), 262, 0].length = 3 from rfl, HE.out] at HW
      rw [hs] at HC
      generalize Ch.putSmall l = y at *
      generalize Ch.used l = k at *
      clear hl hs hcu hin
      go_enter Try.func11, Try.ntmps11
      go_wp2_with fail
      refine (HI.out _ HR.out).mono ?_
      rintro e w1 ⟨rfl, lo⟩
      have HL := Lib.hid lo
      have HR := Lib.hid (RowK.lo HR.out lo)
      clear lo HI
      go_wp2_with fail
      refine (HU.out _ HR.out).mono ?_
      rintro e w2 ⟨p, c, rfl, hr, lo⟩
      have HL := Lib.hid (HL.out.trans lo)
      have HR := Lib.hid hr
      clear lo hr HU
      go_wp2_with fail
      refine (HC.out _ _ HR.out).mono ?_
      rintro e w3 ⟨rfl, lo⟩
      have HL := Lib.hid (HL.out.trans lo)
      have HR := Lib.hid (RowK.lo HR.out lo)
      clear lo HC
      go_wp2_with fail
      refine (HLay.out _ _ _ _ w3 _ ((Lo.refl _).alloc _) (Nat.le_refl _) HR.out (small_arr w3 _ rfl _)).mono ?_
      rintro e w4 ⟨rfl, harr, lo⟩
      have HL := Lib.hid (HL.out.trans lo)
      have HA := Lib.hid harr
      clear lo HLay harr HR
      go_wp2_with fail
      refine (HW.out _ _ _ (row3 w4 _ rfl 0 262 0) ((small_row HA.out).lo ((Lo.refl _).alloc _))).mono ?_
      rintro e w5 ⟨rfl, lo⟩
      have HL := Lib.hid ((HL.out.alloc _).trans lo)
      clear lo HW HA
      go_wp2_with fail
      go_ret2
      exact ⟨by rw [HZ.out]; rfl, HL.out⟩
set_option maxRecDepth 100000 in
set_option maxHeartbeats 3200000 in
theorem putTrimmed_any (v : Value) (l : List Ch.Span) (w : World) (h : SRow w v l) : Calls Try.prog 13 #[v] w fun e w' => e = strErr (Ch.putTrimmed l) ∧ Lo w w' := by
  have HI := Lib.hid (fun W hW => cis_any v l W hW)
  have HR := Lib.hid h
  clear h
  unfold strErr
  cases hl : Ch.isL l with
  | false =>
    have HE := Lib.hid (Ch.put6_arg hl)
    rw [hl] at HI
    generalize Ch.putTrimmed l = y at *
    clear hl
    go_enter Try.func13, Try.ntmps13
    go_wp2_with fail
    refine (HI.out _ HR.out).mono ?_
    rintro e w1 ⟨rfl, lo⟩
    have HL := Lib.hid lo
    clear lo HI
    go_wp2_with fail
    go_ret2
    exact ⟨by rw [HE.out]; rfl, HL.out⟩
  | true =>
    rw [hl] at HI
    have HU := Lib.hid (fun W hW => used_any v l W hW hl)
    unfold GotSpans at HU
    have hcu := Ch.chain_used (Ch.isL_chain hl).1
    have hlu : (Ch.used l).length ≤ 65536 := Nat.le_trans (Ch.used_len l) (Ch.isL_chain hl).2
    have HT := Lib.hid (fun (u : Value) (W : World) hW => trimmed_any u l W hW hl)
    have hb := Ch.fc_bound hl
    by_cases hc : 65536 < Ch.first l + Ch.count l ∨ 32762 < Ch.count l
    · have HE := Lib.hid (Ch.put6_long hl hc)
      generalize Ch.putTrimmed l = y at *
      generalize Ch.used l = k at *
      generalize Ch.first l = a at *
      generalize Ch.count l = m at *
      clear hl hcu
      by_cases hc1 : 65536 < a + m
      · clear hc
        go_enter Try.func13, Try.ntmps13
        go_wp2_with fail
        refine (HI.out _ HR.out).mono ?_
        rintro e w1 ⟨rfl, lo⟩
        have HL := Lib.hid lo
        have HR := Lib.hid (RowK.lo HR.out lo)
        clear lo HI
        go_wp2_with fail
        refine (HU.out _ HR.out).mono ?_
        rintro e w2 ⟨p, c, rfl, hr, lo⟩
        have HL := Lib.hid (HL.out.trans lo)
        have HR := Lib.hid hr
        clear lo hr HU
        go_wp2_with fail
        refine (HT.out _ _ HR.out).mono ?_
        rintro e w3 ⟨rfl, lo⟩
        have HL := Lib.hid (HL.out.trans lo)
        clear lo HT
        go_wp2_with fail
        go_ret2
        exact ⟨by rw [HE.out]; rfl, HL.out⟩
      · have hc2 : 32762 < m := by omega
        clear hc
        go_enter Try.func13, Try.ntmps13
        go_wp2_with fail
        refine (HI.out _ HR.out).mono ?_
        rintro e w1 ⟨rfl, lo⟩
        have HL := Lib.hid lo
        have HR := Lib.hid (RowK.lo HR.out lo)
        clear lo HI
        go_wp2_with fail
        refine (HU.out _ HR.out).mono ?_
        rintro e w2 ⟨p, c, rfl, hr, lo⟩
        have HL := Lib.hid (HL.out.trans lo)
        have HR := Lib.hid hr
        clear lo hr HU
        go_wp2_with fail
        refine (HT.out _ _ HR.out).mono ?_
        rintro e w3 ⟨rfl, lo⟩
        have HL := Lib.hid (HL.out.trans lo)
        clear lo HT
        go_wp2_with fail
        go_ret2
        exact ⟨by rw [HE.out]; rfl, HL.out⟩
    · have HE := Lib.hid (Ch.trimmed_put hl hc)
      have HZ : Hid ((Ch.putTrimmed l).2 = 0) := Lib.hid (by rw [Ch.put6_right hl hc])
      have hin := fun x (hx : x ∈ Ch.used l) => Ch.trimmed_in hl hx
      obtain ⟨m, hm⟩ := Int.eq_ofNat_of_zero_le hb.2.2.1
      have hmt : (Ch.count l).toNat = m := by omega
      have HLay := Lib.hid (fun (B cap ty : Nat) (u : Value) (w0 W : World) h0 hB hr harr => lay_any (Ch.used l) (Ch.first l) B m cap 32762 ty u w0 W h0 hB hr harr (by omega) hb.1 hcu (fun x hx => by have := (hin x hx).1; omega) hlu (by omega))
      have HW := Lib.hid (fun (u t : Value) (W : World) h1 h2 => written_any [6, 10 + 2 * Ch.count l, 0, Ch.first l, Ch.count l] (Ch.laid (Ch.used l) (Ch.first l) m) 2 u t W h1 h2 (by simp) (by rw [Ch.laid_len]; omega))
      rw [hmt] at HE
      rw [Ch.laid_len, show [6, 10 + 2 * Ch.count l, 0, Ch.first l, Ch.count l].length = 5 from rfl, HE.out] at HW
      rw [hm] at HW HT hb hc
      generalize Ch.putTrimmed l = y at *
      generalize Ch.used l = k at *
      generalize Ch.first l = a at *
      clear hl hcu hin hmt hm HE
      have hc1 : ¬ 65536 < a + (m : Int) := by omega
      have hc2 : ¬ 32762 < (m : Int) := by omega
      have hc3 : m ≤ 32762 := by omega
      clear hc
      go_enter Try.func13, Try.ntmps13
      go_wp2_with fail
      refine (HI.out _ HR.out).mono ?_
      rintro e w1 ⟨rfl, lo⟩
      have HL := Lib.hid lo
      have HR := Lib.hid (RowK.lo HR.out lo)
      clear lo HI
      go_wp2_with fail
      refine (HU.out _ HR.out).mono ?_
      rintro e w2 ⟨p, c, rfl, hr, lo⟩
      have HL := Lib.hid (HL.out.trans lo)
      have HR := Lib.hid hr
      clear lo hr HU
      go_wp2_with fail
      refine (HT.out _ _ HR.out).mono ?_
      rintro e w3 ⟨rfl, lo⟩
      have HL := Lib.hid (HL.out.trans lo)
      have HR := Lib.hid (RowK.lo HR.out lo)
      clear lo HT
      go_wp2_with fail
      refine (HLay.out _ _ _ _ w3 _ ((Lo.refl _).alloc _) (Nat.le_refl _) HR.out (trimmed_arr a w3 _ rfl _)).mono ?_
      rintro e w4 ⟨rfl, harr, lo⟩
      have HL := Lib.hid (HL.out.trans lo)
      have HA := Lib.hid harr
      clear lo HLay harr HR
      go_wp2_with fail
      refine (HW.out _ _ _ (row5 w4 _ rfl 6 (10 + 2 * (m : Int)) 0 a (m : Int)) ((trimmed_row HA.out hc3).lo ((Lo.refl _).alloc _))).mono ?_
      rintro e w5 ⟨rfl, lo⟩
      have HL := Lib.hid ((HL.out.alloc _).trans lo)
      clear lo HW HA
      go_wp2_with fail
      go_ret2
      exact ⟨by rw [HZ.out]; rfl, HL.out⟩
end Go.Proofs.Ytjfobpbnofjjdaa
