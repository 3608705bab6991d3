/-
  Contracts of the document's functions on spans (layer 8), further: ends, Few, Short, Same of rows that are alike. No conditions beyond those stated.
-/
import Derived.Test.YtjfobpbnofjjdaaChRef
namespace Ch
/-- The first and the last rune of the first k spans. -/
def endsTo (l : List Span) (k : Nat) : Int × Int := (l.take k).foldl endStep (-1, -1)
theorem endsTo_step {l : List Span} {k : Nat} (h : k < l.length) : endsTo l (k + 1) = endStep (endsTo l k) (l.getD k zs) := by
  unfold endsTo
  rw [take_snoc h, List.foldl_append]; rfl
theorem endsTo_all (l : List Span) : endsTo l l.length = ends l := by
  unfold endsTo ends
  rw [List.take_length]
theorem step_no {p : Int × Int} {x : Span} (h : x.gl = 0 ∧ x.st = 0 ∨ x.gl = 0 ∧ x.to < x.fr + 1) : endStep p x = p := by
  unfold endStep
  rw [if_pos]
  rcases h with h | h
  · exact .inl h
  · right; rw [if_pos h.1]; exact h.2
theorem step_zero {p : Int × Int} {x : Span} (h : x.gl = 0) (h2 : x.st ≠ 0) (h3 : ¬ x.to < x.fr + 1) : endStep p x = (if p.1 < 0 then x.fr + 1 else p.1, x.to) := by
  unfold endStep
  rw [if_pos h, if_neg (by omega)]
theorem step_some {p : Int × Int} {x : Span} (h : x.gl ≠ 0) (h3 : x.fr ≤ x.to) : endStep p x = (if p.1 < 0 then x.fr else p.1, x.to) := by
  unfold endStep
  rw [if_neg h, if_neg (by omega)]
def short (l : List Span) : Bool := !(isL l) || (decide ((ends l).1 < 0) || decide ((ends l).2 - (ends l).1 < 2000) || decide (65535 < (ends l).2) || decide (32762 < (ends l).2 - (ends l).1))
end Ch
namespace Go.Proofs.Ytjfobpbnofjjdaa
open Go.RowKit

set_option maxRecDepth 100000 in
set_option maxHeartbeats 6400000 in
theorem rends_any (v : Value) (l : List Ch.Span) (w : World) (h : SRow w v l) (hl : Ch.isL l = true) : Calls Try.prog 21 #[v] w fun e w' => e = .returned (.tuple #[.int .i64 (Ch.ends l).1, .int .i64 (Ch.ends l).2, .bool (decide (0 ≤ (Ch.ends l).1))]) ∧ Lo w w' := by
  obtain ⟨p, c, rfl, hlen⟩ := RowK.form h
  have HR := Lib.hid h
  have hm := (Ch.isL_chain hl).2
  have HM := Lib.hid (fun (i : Nat) (hi : i < l.length) => (Ch.okSpan_iff _).1 (Ch.chain_mem (Ch.isL_chain hl).1 _ (Ch.getD_mem hi)).1)
  have HSt := Lib.hid (fun (k : Nat) (h : k < l.length) => Ch.endsTo_step h)
  have HAll := Lib.hid (Ch.endsTo_all l)
  generalize Ch.ends l = y at *
  generalize hn : l.length = n at *
  have HN := Lib.hid hn
  clear hn h hl
  go_enter Try.func21, Try.ntmps21
  go_wp2_with fail
  go_loopw [5, 6, 7, 8] (fun s5 s6 s7 _ W => ∃ (k : Nat) (a z : Int), k ≤ n ∧ s7 = .int .i64 k ∧ s5 = .int .i64 a ∧ s6 = .int .i64 z ∧ Hid (Ch.endsTo l k = (a, z)) ∧ Hid (Lo w W)) (fun _ _ s7 _ _ => n - (intOf s7).toNat)
  case atStart => exact ⟨0, -1, -1, Nat.zero_le _, rfl, rfl, rfl, Lib.hid rfl, Lib.hid (Lo.refl _)⟩
  case round =>
    obtain ⟨k, a, z, hk, rfl, rfl, rfl, HE, HL⟩ := hrel
    by_cases hlt : k < n
    · have hk' : k < l.length := by rw [HN.out]; exact hlt
      obtain ⟨b, off, rfl, r0, r1, r2, r3⟩ := SRow.at4 (RowK.lo HR.out HL.out) (Ch.getD_some hk')
      clear hk'
      obtain ⟨x1, x2, x3, x4, x5, x6, x7, x8⟩ := HM.out k hlt
      have HS := Lib.hid (HSt.out k hlt)
      rw [HE.out] at HS
      generalize l.getD k Ch.zs = x at *
      obtain ⟨fr, tt, gl, st⟩ := x
      dsimp only at r0 r1 r2 r3 x1 x2 x3 x4 x5 x6 x7 x8
      clear x8 HE
      by_cases hg : gl = 0
      · subst hg
        by_cases hs : st = 0
        · subst hs
          have HE2 : Hid (Ch.endsTo l (k + 1) = (a, z)) := Lib.hid (by rw [HS.out, Ch.step_no (.inl ⟨rfl, rfl⟩)])
          clear HS
          go_wp2_with fail
          go_roundw
          case rel => exact ⟨k + 1, a, z, by omega, by go_num, rfl, rfl, HE2, HL⟩
          case measure => simp [intOf]; omega
        · by_cases ht : tt < fr + 1
          · have HE2 : Hid (Ch.endsTo l (k + 1) = (a, z)) := Lib.hid (by rw [HS.out, Ch.step_no (.inr ⟨rfl, ht⟩)])
            clear HS
            go_wp2_with fail
            go_roundw
            case rel => exact ⟨k + 1, a, z, by omega, by go_num, rfl, rfl, HE2, HL⟩
            case measure => simp [intOf]; omega
          · by_cases ha : a < 0
            · have HE2 : Hid (Ch.endsTo l (k + 1) = (fr + 1, tt)) := Lib.hid (by rw [HS.out, Ch.step_zero rfl hs ht, if_pos ha])
              clear HS
              go_wp2_with fail
              go_roundw
              case rel => exact ⟨k + 1, fr + 1, tt, by omega, by go_num, by go_num, rfl, HE2, HL⟩
              case measure => simp [intOf]; omega
            · have HE2 : Hid (Ch.endsTo l (k + 1) = (a, tt)) := Lib.hid (by rw [HS.out, Ch.step_zero rfl hs ht, if_neg ha])
              clear HS
              go_wp2_with fail
              go_roundw
              case rel => exact ⟨k + 1, a, tt, by omega, by go_num, rfl, rfl, HE2, HL⟩
              case measure => simp [intOf]; omega
      · by_cases ha : a < 0
        · have HE2 : Hid (Ch.endsTo l (k + 1) = (fr, tt)) := Lib.hid (by rw [HS.out, Ch.step_some hg x2, if_pos ha])
          clear HS
          go_wp2_with fail
          go_roundw
          case rel => exact ⟨k + 1, fr, tt, by omega, by go_num, rfl, rfl, HE2, HL⟩
          case measure => simp [intOf]; omega
        · have HE2 : Hid (Ch.endsTo l (k + 1) = (a, tt)) := Lib.hid (by rw [HS.out, Ch.step_some hg x2, if_neg ha])
          clear HS
          go_wp2_with fail
          go_roundw
          case rel => exact ⟨k + 1, a, tt, by omega, by go_num, rfl, rfl, HE2, HL⟩
          case measure => simp [intOf]; omega
    · obtain rfl : k = n := by omega
      have HF : Hid (y = (a, z)) := Lib.hid (by rw [← HAll.out, HE.out])
      go_wp2_with fail
      go_ret3
      exact ⟨by rw [HF.out]; rfl, HL.out⟩

set_option maxHeartbeats 400000 in
theorem few_any (v : Value) (l : List Ch.Span) (w : World) (h : SRow w v l) : Calls Try.prog 7 #[v] w fun e w' => e = .returned (.bool (decide (l.length ≤ 60))) ∧ Lo w w' := by
  obtain ⟨p, c, rfl, hlen⟩ := RowK.form h
  clear h
  generalize l.length = n at *
  go_enter Try.func7, Try.ntmps7
  go_wp2_with fail
  go_ret
  exact ⟨ret_bool (by rw [Bool.eq_iff_iff, decide_eq_true_eq, decide_eq_true_eq]; omega), Lo.refl _⟩

set_option maxHeartbeats 1600000 in
theorem short_any (v : Value) (l : List Ch.Span) (w : World) (h : SRow w v l) : Calls Try.prog 8 #[v] w fun e w' => e = .returned (.bool (Ch.short l)) ∧ Lo w w' := by
  have HI := Lib.hid (fun W hW => ris_any v l W hW)
  have HR := Lib.hid h
  clear h
  unfold Ch.short
  cases hl : Ch.isL l with
  | false =>
    rw [hl] at HI
    clear hl
    go_enter Try.func8, Try.ntmps8
    go_wp2_with fail
    refine (HI.out _ HR.out).mono ?_
    rintro e w1 ⟨rfl, lo⟩
    have HL := Lib.hid lo
    clear lo HI
    go_wp2_with fail
    go_ret
    exact ⟨rfl, HL.out⟩
  | true =>
    have HE := Lib.hid (fun W hW => rends_any v l W hW hl)
    obtain ⟨e1, _⟩ := Ch.ends_spec hl
    rw [hl] at HI
    clear hl
    generalize Ch.ends l = y at *
    obtain ⟨a, z⟩ := y
    dsimp only at *
    rw [Bool.not_true, Bool.false_or]
    by_cases ha : 0 ≤ a
    · obtain ⟨f1, f2⟩ := e1 ha
      have had : decide (0 ≤ a) = true := decide_eq_true ha
      rw [had] at HE
      clear e1
      have hw : -9223372036854775808 ≤ z - a ∧ z - a ≤ 9223372036854775807 := by omega
      rw [decide_eq_false (show ¬ a < 0 by omega), Bool.false_or]
      by_cases c1 : z - a < 2000
      · rw [decide_eq_true c1, Bool.true_or, Bool.true_or]
        go_enter Try.func8, Try.ntmps8
        go_wp2_with fail
        refine (HI.out _ HR.out).mono ?_
        rintro e w1 ⟨rfl, lo⟩
        have HL := Lib.hid lo
        have HR := Lib.hid (RowK.lo HR.out lo)
        clear lo HI
        go_wp2_with fail
        refine (HE.out _ HR.out).mono ?_
        rintro e w2 ⟨rfl, lo⟩
        have HL := Lib.hid (HL.out.trans lo)
        clear lo HE
        go_wp2_with fail
        go_ret
        exact ⟨ret_bool (by rfl), HL.out⟩
      · rw [decide_eq_false c1, Bool.false_or]
        by_cases c2 : 65535 < z
        · rw [decide_eq_true c2, Bool.true_or]
          go_enter Try.func8, Try.ntmps8
          go_wp2_with fail
          refine (HI.out _ HR.out).mono ?_
          rintro e w1 ⟨rfl, lo⟩
          have HL := Lib.hid lo
          have HR := Lib.hid (RowK.lo HR.out lo)
          clear lo HI
          go_wp2_with fail
          refine (HE.out _ HR.out).mono ?_
          rintro e w2 ⟨rfl, lo⟩
          have HL := Lib.hid (HL.out.trans lo)
          clear lo HE
          go_wp2_with fail
          go_ret
          exact ⟨ret_bool (by rfl), HL.out⟩
        · rw [decide_eq_false c2, Bool.false_or]
          go_enter Try.func8, Try.ntmps8
          go_wp2_with fail
          refine (HI.out _ HR.out).mono ?_
          rintro e w1 ⟨rfl, lo⟩
          have HL := Lib.hid lo
          have HR := Lib.hid (RowK.lo HR.out lo)
          clear lo HI
          go_wp2_with fail
          refine (HE.out _ HR.out).mono ?_
          rintro e w2 ⟨rfl, lo⟩
          have HL := Lib.hid (HL.out.trans lo)
          clear lo HE
          go_wp2_with fail
          go_ret
          exact ⟨ret_bool (by rw [decide_eq_false (by omega), decide_eq_false (by omega)]; rfl), HL.out⟩
    · have had : decide (0 ≤ a) = false := decide_eq_false ha
      rw [had] at HE
      rw [decide_eq_true (show a < 0 by omega), Bool.true_or, Bool.true_or, Bool.true_or]
      clear e1
      go_enter Try.func8, Try.ntmps8
      go_wp2_with fail
      refine (HI.out _ HR.out).mono ?_
      rintro e w1 ⟨rfl, lo⟩
      have HL := Lib.hid lo
      have HR := Lib.hid (RowK.lo HR.out lo)
      clear lo HI
      go_wp2_with fail
      refine (HE.out _ HR.out).mono ?_
      rintro e w2 ⟨rfl, lo⟩
      have HL := Lib.hid (HL.out.trans lo)
      clear lo HE
      go_wp2_with fail
      go_ret
      exact ⟨ret_bool (by rfl), HL.out⟩

set_option maxHeartbeats 1600000 in
theorem ssame_any (l : List Ch.Span) (v u : Value) (w : World) (h : SRow w v l) (h2 : SRow w u l) : Calls Try.prog 16 #[v, u] w fun e w' => e = .returned (.bool true) ∧ Lo w w' := by
  obtain ⟨p, c, rfl, hlen⟩ := RowK.form h
  obtain ⟨p2, c2, rfl, _⟩ := RowK.form h2
  have HR := Lib.hid h
  have HR2 := Lib.hid h2
  generalize hn : l.length = n at *
  have HN := Lib.hid hn
  clear hn h h2
  go_enter Try.func16, Try.ntmps16
  go_wp2_with fail
  go_loopw [5] (fun i W => ∃ k : Nat, k ≤ n ∧ i = .int .i64 k ∧ Hid (Lo w W)) (fun i _ => n - (intOf i).toNat)
  case atStart => exact ⟨0, Nat.zero_le _, rfl, Lib.hid (Lo.refl _)⟩
  case round =>
    obtain ⟨k, hk, rfl, HL⟩ := hrel
    by_cases hlt : k < n
    · have hx : l[k]? = some (l.getD k Ch.zs) := Ch.getD_some (by rw [HN.out]; exact hlt)
      obtain ⟨b, off, rfl, r0, r1, r2, r3⟩ := SRow.at4 (RowK.lo HR.out HL.out) hx
      obtain ⟨b2, off2, rfl, s0, s1, s2, s3⟩ := SRow.at4 (RowK.lo HR2.out HL.out) hx
      clear hx
      generalize l.getD k Ch.zs = x at *
      go_wp2_with fail
      go_quiet (fail)
      have HL2 := Lib.hid (HL.out.drewN nq)
      go_wp2_with fail
      go_roundw
      case rel => exact ⟨k + 1, by omega, by go_num, HL2⟩
      case measure => simp [intOf]; omega
    · go_wp2_with fail
      go_ret
      exact ⟨rfl, HL.out⟩
end Go.Proofs.Ytjfobpbnofjjdaa
