/-
  Facts that the walks rest on: ChRefSame, ChRef2, SgShort, GrShort, CmMapped, BnRefP. No conditions beyond those stated.
-/
import Derived.Test.YtppihpjcdieeoaaGreatDoorPart04
import Derived.Deep.RegionHeld3
import Derived.WalkMore
import Derived.Test.YtppihpjcdieeoaaGreatDoorPart23
import Derived.Test.YtppihpjcdieeoaaGreatDoorPart17
import Derived.Test.YtppihpjcdieeoaaGreatDoorPart19
/-
  Contract of the document's Same of spans (layer 8), of rows that are alike. No conditions beyond those stated.
-/
namespace Go.Proofs.YtppihpjcdieeoaaGreatDoor
open Go.RowKit

set_option maxHeartbeats 1600000 in
theorem ssame_any (l : List Ch.Span) (v u : Value) (w : World) (h : SRow w v l) (h2 : SRow w u l) : Calls Tryz.prog 17 #[v, u] w fun e w' => e = .returned (.bool true) ∧ Lo w w' := by
  obtain ⟨p, c, rfl, hlen⟩ := RowK.form h
  obtain ⟨p2, c2, rfl, _⟩ := RowK.form h2
  have HR := Lib.hid h
  have HR2 := Lib.hid h2
  generalize hn : l.length = n at *
  have HN := Lib.hid hn
  clear hn h h2
  go_enter Tryz.func17, Tryz.ntmps17
  go_wp2_with fail
  go_loopw [5] (fun i W => ∃ k : Nat, k ≤ n ∧ i = .int .i64 k ∧ Hid (Lo w W)) (fun i _ => n - (intOf i).toNat)
  case atStart => exact ⟨0, Nat.zero_le _, rfl, Lib.hid (Lo.refl _)⟩
  case round =>
    obtain ⟨k, hk, rfl, HL⟩ := hrel
    by_cases hlt : k < n
    · have hx : l[k]? = some (l.getD k Ch.zs) := Ch.getD_some (by rw [HN.out]; exact hlt)
      obtain ⟨b, off, rfl, r0, r1, r2, r3⟩ := SRow.at4 (RowK.lo HR.out HL.out) hx
      obtain ⟨b2, off2, rfl, s0, s1, s2, s3⟩ := SRow.at4 (RowK.lo HR2.out HL.out) hx
      clear hx
      generalize l.getD k Ch.zs = x at *
      go_wp2_with fail
      go_quiet (fail)
      have HL2 := Lib.hid (HL.out.drewN nq)
      go_wp2_with fail
      go_roundw
      case rel => exact ⟨k + 1, by omega, by go_num, HL2⟩
      case measure => simp [intOf]; omega
    · go_wp2_with fail
      go_ret
      exact ⟨rfl, HL.out⟩
end Go.Proofs.YtppihpjcdieeoaaGreatDoor
/-
  Contracts of the document's functions on spans (layer 8), further: ends, Short, Same of rows that are alike. No conditions beyond those stated.
-/
namespace Ch
/-- The first and the last rune of the first k spans. -/
def endsTo (l : List Span) (k : Nat) : Int × Int := (l.take k).foldl endStep (-1, -1)
theorem endsTo_step {l : List Span} {k : Nat} (h : k < l.length) : endsTo l (k + 1) = endStep (endsTo l k) (l.getD k zs) := by
  unfold endsTo
  rw [take_snoc h, List.foldl_append]; rfl
theorem endsTo_all (l : List Span) : endsTo l l.length = ends l := by
  unfold endsTo ends
  rw [List.take_length]
theorem step_no {p : Int × Int} {x : Span} (h : x.gl = 0 ∧ x.st = 0 ∨ x.gl = 0 ∧ x.to < x.fr + 1) : endStep p x = p := by
  unfold endStep
  rw [if_pos]
  rcases h with h | h
  · exact .inl h
  · right; rw [if_pos h.1]; exact h.2
theorem step_zero {p : Int × Int} {x : Span} (h : x.gl = 0) (h2 : x.st ≠ 0) (h3 : ¬ x.to < x.fr + 1) : endStep p x = (if p.1 < 0 then x.fr + 1 else p.1, x.to) := by
  unfold endStep
  rw [if_pos h, if_neg (by omega)]
theorem step_some {p : Int × Int} {x : Span} (h : x.gl ≠ 0) (h3 : x.fr ≤ x.to) : endStep p x = (if p.1 < 0 then x.fr else p.1, x.to) := by
  unfold endStep
  rw [if_neg h, if_neg (by omega)]
def short (l : List Span) : Bool := !(isL l) || (decide ((ends l).1 < 0) || decide ((ends l).2 - (ends l).1 < 2000) || decide (65535 < (ends l).2) || decide (32762 < (ends l).2 - (ends l).1))
end Ch
namespace Go.Proofs.YtppihpjcdieeoaaGreatDoor
open Go.RowKit

set_option maxRecDepth 100000 in
set_option maxHeartbeats 6400000 in
theorem rends_any (v : Value) (l : List Ch.Span) (w : World) (h : SRow w v l) (hl : Ch.isL l = true) : Calls Tryz.prog 46 #[v] w fun e w' => e = .returned (.tuple #[.int .i64 (Ch.ends l).1, .int .i64 (Ch.ends l).2, .bool (decide (0 ≤ (Ch.ends l).1))]) ∧ Lo w w' := by
  obtain ⟨p, c, rfl, hlen⟩ := RowK.form h
  have HR := Lib.hid h
  have hm := (Ch.isL_chain hl).2
  have HM := Lib.hid (fun (i : Nat) (hi : i < l.length) => (Ch.okSpan_iff _).1 (Ch.chain_mem (Ch.isL_chain hl).1 _ (Ch.getD_mem hi)).1)
  have HSt := Lib.hid (fun (k : Nat) (h : k < l.length) => Ch.endsTo_step h)
  have HAll := Lib.hid (Ch.endsTo_all l)
  generalize Ch.ends l = y at *
  generalize hn : l.length = n at *
  have HN := Lib.hid hn
  clear hn h hl
  go_enter Tryz.func46, Tryz.ntmps46
  go_wp2_with fail
  go_loopw [5, 6, 7, 8] (fun s5 s6 s7 _ W => ∃ (k : Nat) (a z : Int), k ≤ n ∧ s7 = .int .i64 k ∧ s5 = .int .i64 a ∧ s6 = .int .i64 z ∧ Hid (Ch.endsTo l k = (a, z)) ∧ Hid (Lo w W)) (fun _ _ s7 _ _ => n - (intOf s7).toNat)
  case atStart => exact ⟨0, -1, -1, Nat.zero_le _, rfl, rfl, rfl, Lib.hid rfl, Lib.hid (Lo.refl _)⟩
  case round =>
    obtain ⟨k, a, z, hk, rfl, rfl, rfl, HE, HL⟩ := hrel
    by_cases hlt : k < n
    · have hk' : k < l.length := by rw [HN.out]; exact hlt
      obtain ⟨b, off, rfl, r0, r1, r2, r3⟩ := SRow.at4 (RowK.lo HR.out HL.out) (Ch.getD_some hk')
      clear hk'
      obtain ⟨x1, x2, x3, x4, x5, x6, x7, x8⟩ := HM.out k hlt
      have HS := Lib.hid (HSt.out k hlt)
      rw [HE.out] at HS
      generalize l.getD k Ch.zs = x at *
      obtain ⟨fr, tt, gl, st⟩ := x
      dsimp only at r0 r1 r2 r3 x1 x2 x3 x4 x5 x6 x7 x8
      clear x8 HE
      by_cases hg : gl = 0
      · subst hg
        by_cases hs : st = 0
        · subst hs
          have HE2 : Hid (Ch.endsTo l (k + 1) = (a, z)) := Lib.hid (by rw [HS.out, Ch.step_no (.inl ⟨rfl, rfl⟩)])
          clear HS
          go_wp2_with fail
          go_roundw
          case rel => exact ⟨k + 1, a, z, by omega, by go_num, rfl, rfl, HE2, HL⟩
          case measure => simp [intOf]; omega
        · by_cases ht : tt < fr + 1
          · have HE2 : Hid (Ch.endsTo l (k + 1) = (a, z)) := Lib.hid (by rw [HS.out, Ch.step_no (.inr ⟨rfl, ht⟩)])
            clear HS
            go_wp2_with fail
            go_roundw
            case rel => exact ⟨k + 1, a, z, by omega, by go_num, rfl, rfl, HE2, HL⟩
            case measure => simp [intOf]; omega
          · by_cases ha : a < 0
            · have HE2 : Hid (Ch.endsTo l (k + 1) = (fr + 1, tt)) := Lib.hid (by rw [HS.out, Ch.step_zero rfl hs ht, if_pos ha])
              clear HS
              go_wp2_with fail
              go_roundw
              case rel => exact ⟨k + 1, fr + 1, tt, by omega, by go_num, by go_num, rfl, HE2, HL⟩
              case measure => simp [intOf]; omega
            · have HE2 : Hid (Ch.endsTo l (k + 1) = (a, tt)) := Lib.hid (by rw [HS.out, Ch.step_zero rfl hs ht, if_neg ha])
              clear HS
              go_wp2_with fail
              go_roundw
              case rel => exact ⟨k + 1, a, tt, by omega, by go_num, rfl, rfl, HE2, HL⟩
              case measure => simp [intOf]; omega
      · by_cases ha : a < 0
        · have HE2 : Hid (Ch.endsTo l (k + 1) = (fr, tt)) := Lib.hid (by rw [HS.out, Ch.step_some hg x2, if_pos ha])
          clear HS
          go_wp2_with fail
          go_roundw
          case rel => exact ⟨k + 1, fr, tt, by omega, by go_num, rfl, rfl, HE2, HL⟩
          case measure => simp [intOf]; omega
        · have HE2 : Hid (Ch.endsTo l (k + 1) = (a, tt)) := Lib.hid (by rw [HS.out, Ch.step_some hg x2, if_neg ha])
          clear HS
          go_wp2_with fail
          go_roundw
          case rel => exact ⟨k + 1, a, tt, by omega, by go_num, rfl, rfl, HE2, HL⟩
          case measure => simp [intOf]; omega
    · obtain rfl : k = n := by omega
      have HF : Hid (y = (a, z)) := Lib.hid (by rw [← HAll.out, HE.out])
      go_wp2_with fail
      go_ret3
      exact ⟨by rw [HF.out]; rfl, HL.out⟩

set_option maxHeartbeats 1600000 in
theorem short_any (v : Value) (l : List Ch.Span) (w : World) (h : SRow w v l) : Calls Tryz.prog 23 #[v] w fun e w' => e = .returned (.bool (Ch.short l)) ∧ Lo w w' := by
  have HI := Lib.hid (fun W hW => ris_any v l W hW)
  have HR := Lib.hid h
  clear h
  unfold Ch.short
  cases hl : Ch.isL l with
  | false =>
    rw [hl] at HI
    clear hl
    go_enter Tryz.func23, Tryz.ntmps23
    go_wp2_with fail
    refine (HI.out _ HR.out).mono ?_
    rintro e w1 ⟨rfl, lo⟩
    have HL := Lib.hid lo
    clear lo HI
    go_wp2_with fail
    go_ret
    exact ⟨rfl, HL.out⟩
  | true =>
    have HE := Lib.hid (fun W hW => rends_any v l W hW hl)
    obtain ⟨e1, _⟩ := Ch.ends_spec hl
    rw [hl] at HI
    clear hl
    generalize Ch.ends l = y at *
    obtain ⟨a, z⟩ := y
    dsimp only at *
    rw [Bool.not_true, Bool.false_or]
    by_cases ha : 0 ≤ a
    · obtain ⟨f1, f2⟩ := e1 ha
      have had : decide (0 ≤ a) = true := decide_eq_true ha
      rw [had] at HE
      clear e1
      have hw : -9223372036854775808 ≤ z - a ∧ z - a ≤ 9223372036854775807 := by omega
      rw [decide_eq_false (show ¬ a < 0 by omega), Bool.false_or]
      by_cases c1 : z - a < 2000
      · rw [decide_eq_true c1, Bool.true_or, Bool.true_or]
        go_enter Tryz.func23, Tryz.ntmps23
        go_wp2_with fail
        refine (HI.out _ HR.out).mono ?_
        rintro e w1 ⟨rfl, lo⟩
        have HL := Lib.hid lo
        have HR := Lib.hid (RowK.lo HR.out lo)
        clear lo HI
        go_wp2_with fail
        refine (HE.out _ HR.out).mono ?_
        rintro e w2 ⟨rfl, lo⟩
        have HL := Lib.hid (HL.out.trans lo)
        clear lo HE
        go_wp2_with fail
        go_ret
        exact ⟨ret_bool (by rfl), HL.out⟩
      · rw [decide_eq_false c1, Bool.false_or]
        by_cases c2 : 65535 < z
        · rw [decide_eq_true c2, Bool.true_or]
          go_enter Tryz.func23, Tryz.ntmps23
          go_wp2_with fail
          refine (HI.out _ HR.out).mono ?_
          rintro e w1 ⟨rfl, lo⟩
          have HL := Lib.hid lo
          have HR := Lib.hid (RowK.lo HR.out lo)
          clear lo HI
          go_wp2_with fail
          refine (HE.out _ HR.out).mono ?_
          rintro e w2 ⟨rfl, lo⟩
          have HL := Lib.hid (HL.out.trans lo)
          clear lo HE
          go_wp2_with fail
          go_ret
          exact ⟨ret_bool (by rfl), HL.out⟩
        · rw [decide_eq_false c2, Bool.false_or]
          go_enter Tryz.func23, Tryz.ntmps23
          go_wp2_with fail
          refine (HI.out _ HR.out).mono ?_
          rintro e w1 ⟨rfl, lo⟩
          have HL := Lib.hid lo
          have HR := Lib.hid (RowK.lo HR.out lo)
          clear lo HI
          go_wp2_with fail
          refine (HE.out _ HR.out).mono ?_
          rintro e w2 ⟨rfl, lo⟩
          have HL := Lib.hid (HL.out.trans lo)
          clear lo HE
          go_wp2_with fail
          go_ret
          exact ⟨ret_bool (by rw [decide_eq_false (by omega), decide_eq_false (by omega)]; rfl), HL.out⟩
    · have had : decide (0 ≤ a) = false := decide_eq_false ha
      rw [had] at HE
      rw [decide_eq_true (show a < 0 by omega), Bool.true_or, Bool.true_or, Bool.true_or]
      clear e1
      go_enter Tryz.func23, Tryz.ntmps23
      go_wp2_with fail
      refine (HI.out _ HR.out).mono ?_
      rintro e w1 ⟨rfl, lo⟩
      have HL := Lib.hid lo
      have HR := Lib.hid (RowK.lo HR.out lo)
      clear lo HI
      go_wp2_with fail
      refine (HE.out _ HR.out).mono ?_
      rintro e w2 ⟨rfl, lo⟩
      have HL := Lib.hid (HL.out.trans lo)
      clear lo HE
      go_wp2_with fail
      go_ret
      exact ⟨ret_bool (by rfl), HL.out⟩
end Go.Proofs.YtppihpjcdieeoaaGreatDoor
/-
  Contract of the document's Short (layer 9): a bool, true only for 60 spans at the most. No conditions beyond those stated.
-/
namespace Go.Proofs.YtppihpjcdieeoaaGreatDoor
open Go.RowKit

/-- A bool told, true only for so few. -/
def GotShort9 (n : Nat) (w : World) (e : Ending) (w' : World) : Prop := ∃ b : Bool, e = .returned (.bool b) ∧ (b = true → n ≤ 60) ∧ Lo w w'

set_option maxRecDepth 100000 in
set_option maxHeartbeats 1600000 in
theorem short9_any (v : Value) (l : List Ch.Span) (w : World) (h : SRow w v l) : Calls Tryz.prog 24 #[v] w (GotShort9 l.length w) := by
  obtain ⟨p, c, rfl, hlen⟩ := RowK.form h
  have HR := Lib.hid h
  generalize hn : l.length = n at *
  have HN := Lib.hid hn
  clear hn h
  by_cases hm : n ≤ 60
  · go_enter Tryz.func24, Tryz.ntmps24
    go_wp2_with fail
    go_loopw [3, 4] (fun s3 s4 W => ∃ (k : Nat) (z : Int), k ≤ n ∧ s4 = .int .i64 k ∧ s3 = .int .i64 z ∧ Hid (Lo w W)) (fun _ s4 _ => n - (intOf s4).toNat)
    case atStart => exact ⟨0, 0, Nat.zero_le _, rfl, rfl, Lib.hid (Lo.refl _)⟩
    case round =>
      obtain ⟨k, z, hk, rfl, rfl, HL⟩ := hrel
      by_cases hlt : k < n
      · have hx : l[k]? = some (l.getD k Ch.zs) := Ch.getD_some (by rw [HN.out]; exact hlt)
        obtain ⟨b, off, rfl, r0, r1, r2, r3⟩ := SRow.at4 (RowK.lo HR.out HL.out) hx
        clear hx
        generalize l.getD k Ch.zs = x at *
        obtain ⟨fr, tt, gl, st⟩ := x
        dsimp only at r0 r1 r2 r3
        go_wp2_with fail
        go_quiet (fail)
        have HL2 := Lib.hid (HL.out.drewN nq)
        by_cases hb : 40000 < wrap64 (tt - fr)
        · clear r0 r1 r2 r3
          go_wp2_with fail
          go_roundw
          case rel => exact ⟨k + 1, z, by omega, by go_num, rfl, HL2⟩
          case measure => simp [intOf]; omega
        · go_wp2_with fail
          go_quiet (fail)
          clear r0 r1 r2 r3
          go_wp2_with fail
          go_roundw
          case rel => exact ⟨k + 1, _, by omega, by go_num, rfl, Lib.hid (HL.out.drewN _)⟩
          case measure => simp [intOf]; omega
      · obtain rfl : k = n := by omega
        by_cases hz : z ≤ 3000
        · go_wp2_with fail
          go_ret
          exact ⟨true, rfl, fun _ => hm, HL.out⟩
        · go_wp2_with fail
          go_ret
          exact ⟨false, rfl, fun h => (by cases h), HL.out⟩
  · go_enter Tryz.func24, Tryz.ntmps24
    go_wp2_with fail
    go_loopw [3, 4] (fun s3 s4 W => s4 = .int .i64 0 ∧ s3 = .int .i64 0 ∧ Hid (Lo w W)) (fun _ _ _ => 0)
    case atStart => exact ⟨rfl, rfl, Lib.hid (Lo.refl _)⟩
    case round =>
      obtain ⟨rfl, rfl, HL⟩ := hrel
      go_wp2_with fail
      go_ret
      exact ⟨false, rfl, fun h => (by cases h), HL.out⟩
end Go.Proofs.YtppihpjcdieeoaaGreatDoor
/-
  Contract of the document's Short (layer 10): a bool, true only for 60 spans at the most. No conditions beyond those stated.
-/
namespace Go.Proofs.YtppihpjcdieeoaaGreatDoor
open Go.RowKit

/-- A bool told, true only for so few. -/
def GotShort10 (n : Nat) (w : World) (e : Ending) (w' : World) : Prop := ∃ b : Bool, e = .returned (.bool b) ∧ (b = true → n ≤ 60) ∧ Lo w w'

set_option maxRecDepth 100000 in
set_option maxHeartbeats 1600000 in
theorem short10_any (v : Value) (l : List Ch.Span) (w : World) (h : SRow w v l) : Calls Tryz.prog 25 #[v] w (GotShort10 l.length w) := by
  obtain ⟨p, c, rfl, hlen⟩ := RowK.form h
  have HR := Lib.hid h
  generalize hn : l.length = n at *
  have HN := Lib.hid hn
  clear hn h
  by_cases hm : n ≤ 60
  · go_enter Tryz.func25, Tryz.ntmps25
    go_wp2_with fail
    go_loopw [3] (fun s3 W => ∃ (k : Nat), k ≤ n ∧ s3 = .int .i64 k ∧ Hid (Lo w W)) (fun s3 _ => n - (intOf s3).toNat)
    case atStart => exact ⟨0, Nat.zero_le _, rfl, Lib.hid (Lo.refl _)⟩
    case round =>
      obtain ⟨k, hk, rfl, HL⟩ := hrel
      by_cases hlt : k < n
      · have hx : l[k]? = some (l.getD k Ch.zs) := Ch.getD_some (by rw [HN.out]; exact hlt)
        obtain ⟨b, off, rfl, r0, r1, r2, r3⟩ := SRow.at4 (RowK.lo HR.out HL.out) hx
        clear hx
        generalize l.getD k Ch.zs = x at *
        obtain ⟨fr, tt, gl, st⟩ := x
        dsimp only at r0 r1 r2 r3
        go_wp2_with fail
        go_quiet (fail)
        have HL2 := Lib.hid (HL.out.drewN nq)
        clear r0 r1 r2 r3
        by_cases hb : 1000 < wrap64 (tt - fr)
        · by_cases hc : wrap64 (tt - fr) < 70000
          · go_wp2_with fail
            go_ret
            exact ⟨false, rfl, fun h => (by cases h), HL2.out⟩
          · go_wp2_with fail
            go_roundw
            case rel => exact ⟨k + 1, by omega, by go_num, HL2⟩
            case measure => simp [intOf]; omega
        · go_wp2_with fail
          go_roundw
          case rel => exact ⟨k + 1, by omega, by go_num, HL2⟩
          case measure => simp [intOf]; omega
      · obtain rfl : k = n := by omega
        go_wp2_with fail
        go_ret
        exact ⟨_, rfl, fun _ => hm, HL.out⟩
  · go_enter Tryz.func25, Tryz.ntmps25
    go_wp2_with fail
    go_loopw [3] (fun s3 W => s3 = .int .i64 0 ∧ Hid (Lo w W)) (fun _ _ => 0)
    case atStart => exact ⟨rfl, Lib.hid (Lo.refl _)⟩
    case round =>
      obtain ⟨rfl, HL⟩ := hrel
      by_cases h0 : (0 : Int) < (n : Int)
      · go_wp2_with fail
        go_ret
        exact ⟨_, rfl, fun h => absurd (of_decide_eq_true h) (by omega), HL.out⟩
      · exact absurd h0 (by omega)
end Go.Proofs.YtppihpjcdieeoaaGreatDoor
/-
  The contracts of the document's Short (layer 11) and of the laws' closed rows 'mapped'. Condition of the second: the row of ranked ids lies as it was laid.
-/
namespace Go.Proofs.YtppihpjcdieeoaaGreatDoor
open Go.RowKit Go.Shelf

theorem cm_wf {n : Int} (h : (Lit.int .i64 n).wf = true) : -9223372036854775808 ≤ n ∧ n ≤ 9223372036854775807 := by
  have h1 : (decide (IntKind.i64.min ≤ n) && decide (n ≤ IntKind.i64.max)) = true := h
  rw [show IntKind.i64.min = -9223372036854775808 by decide, show IntKind.i64.max = 9223372036854775807 by decide] at h1
  simpa using h1

def GotShort11 (n : Nat) (w : World) (e : Ending) (w' : World) : Prop := ∃ b : Bool, e = .returned (.bool b) ∧ (b = true → n ≤ 60) ∧ Lo w w'

set_option maxRecDepth 100000 in
set_option maxHeartbeats 1600000 in
theorem short11_any (v : Value) (l : List Ch.Span) (w : World) (h : SRow w v l) : Calls Tryz.prog 7 #[v] w (GotShort11 l.length w) := by
  have H1 := Lib.hid (short_any v l w h)
  have H2 := Lib.hid (fun W (hW : Lo w W) => short9_any v l W (RowK.lo h hW))
  have H3 := Lib.hid (fun W (hW : Lo w W) => short10_any v l W (RowK.lo h hW))
  obtain ⟨p, c, rfl, _⟩ := RowK.form h
  unfold GotShort9 at H2
  unfold GotShort10 at H3
  clear h
  generalize l.length = n at *
  cases hs : Ch.short l with
  | false =>
    rw [hs] at H1
    clear hs H2 H3
    go_enter Tryz.func7, Tryz.ntmps7
    go_wp2_with fail
    refine (H1.out).mono ?_
    rintro e w1 ⟨rfl, lo⟩
    have HL := Lib.hid lo
    clear lo H1
    go_wp2_with fail
    go_ret
    exact ⟨false, rfl, (fun h => by cases h), HL.out⟩
  | true =>
    rw [hs] at H1
    clear hs
    go_enter Tryz.func7, Tryz.ntmps7
    go_wp2_with fail
    refine (H1.out).mono ?_
    rintro e w1 ⟨rfl, lo⟩
    have HL := Lib.hid lo
    clear lo H1
    go_wp2_with fail
    refine (H2.out _ HL.out).mono ?_
    rintro e w2 ⟨b2, rfl, hb2, lo⟩
    have HL2 := Lib.hid (HL.out.trans lo)
    have HB2 := Lib.hid hb2
    clear lo H2 hb2
    cases b2 with
    | false =>
      clear H3
      go_wp2_with fail
      go_ret
      exact ⟨false, rfl, (fun h => by cases h), HL2.out⟩
    | true =>
      go_wp2_with fail
      refine (H3.out _ HL2.out).mono ?_
      rintro e w3 ⟨b3, rfl, hb3, lo⟩
      have HL3 := Lib.hid (HL2.out.trans lo)
      have HB3 := Lib.hid hb3
      clear lo H3 hb3
      cases b3 with
      | false =>
        go_wp2_with fail
        go_ret
        exact ⟨false, rfl, (fun h => by cases h), HL3.out⟩
      | true =>
        go_wp2_with fail
        go_ret
        exact ⟨true, rfl, (fun _ => by have h := HB3.out; simpa using h), HL3.out⟩

def cm1 : List Ch.Span := [⟨65, 66, 3, 1⟩]
def cmS : List UInt8 := (Cm.put cm1 4).1
def cm2 : List Ch.Span := (Cm.get cmS).1
theorem cm_put : Cm.put cm1 4 = (cmS, 0) := by kernel_rfl
theorem cm_get : Cm.get cmS = (cm2, 0) := by kernel_rfl
theorem cm_g1 : Cm.glyph cm2 66 5 = (4, 0) := by kernel_rfl
theorem cm_g2 : Cm.glyph cm2 67 5 = (0, 10) := by kernel_rfl
theorem cm_g3 : Cm.glyph cm2 66 4 = (0, 10) := by kernel_rfl
theorem cm_none : Cm.get [0, 0, 0, 0] = ([], 6) := by kernel_rfl
theorem cm_b1 : Cm.best 3 10 = 9 := by kernel_rfl
theorem cm_b2 : Cm.best 2 0 = 0 := by kernel_rfl
theorem cm_len : cmS.length ≤ 800012 := Cm.len_put _ _

set_option maxRecDepth 100000 in
set_option maxHeartbeats 3200000 in
theorem mapped_any (w : World) (ht : RTab w) : Calls Tryz.prog 16 #[] w fun e w' => e = .returned (.bool true) ∧ Lo w w' := by
  have HP := Lib.hid (fun (v : Value) (W : World) (h : SRow W v cm1) => cmput_any v cm1 4 W h (by omega) (by omega))
  have HG := Lib.hid (fun (W : World) (l : Lo w W) => cmget_any cmS W (by have := cm_len; omega) (ht.lo l))
  have HN := Lib.hid (fun (W : World) (l : Lo w W) => cmget_any [0, 0, 0, 0] W (by simp) (ht.lo l))
  have HY1 := Lib.hid (fun (v : Value) (W : World) (h : SRow W v cm2) => cglyph_any v cm2 66 5 W h)
  have HY2 := Lib.hid (fun (v : Value) (W : World) (h : SRow W v cm2) => cglyph_any v cm2 67 5 W h)
  have HY3 := Lib.hid (fun (v : Value) (W : World) (h : SRow W v cm2) => cglyph_any v cm2 66 4 W h)
  have HB1 := Lib.hid (fun (W : World) (l : Lo w W) => best_any 3 10 W (ht.lo l))
  have HB2 := Lib.hid (fun (W : World) (l : Lo w W) => best_any 2 0 W (ht.lo l))
  rw [cm_put] at HP
  rw [cm_get] at HG
  rw [cm_none] at HN
  rw [cm_g1] at HY1
  rw [cm_g2] at HY2
  rw [cm_g3] at HY3
  rw [cm_b1] at HB1
  rw [cm_b2] at HB2
  unfold strErr at HP
  unfold GotSp at HG HN
  dsimp only at HP HG HN HY1 HY2 HY3
  rw [show (([0, 0, 0, 0] : List UInt8).toArray) = #[0, 0, 0, 0] from rfl] at HN
  clear ht
  generalize cmS = S at *
  generalize cm2 = M at *
  generalize M.length = n at *
  go_enter Tryz.func16, Tryz.ntmps16
  go_wp2_with fail
  have HR : Hid (SRow (w.alloc (.cells #[.int .i64 65, .int .i64 66, .int .i64 3, .int .i64 1] 63)) (.slice (some ⟨w.heap.size, 0, none⟩) 1 1) cm1) := Lib.hid (srow1 w _ rfl ⟨65, 66, 3, 1⟩ _)
  have HL : Hid (Lo w (w.alloc (.cells #[.int .i64 65, .int .i64 66, .int .i64 3, .int .i64 1] 63))) := Lib.hid ((Lo.refl w).alloc _)
  refine (HP.out _ _ HR.out).mono ?_
  rintro e w1 ⟨rfl, lo⟩
  have HL := Lib.hid (HL.out.trans lo)
  clear lo HP
  go_wp2_with fail
  refine (HG.out _ HL.out).mono ?_
  rintro e w2 ⟨p, c, rfl, hrow, lo⟩
  have HL := Lib.hid (HL.out.trans lo)
  have HM := Lib.hid hrow
  clear lo hrow HG
  go_wp2_with fail
  refine (HY1.out _ _ HM.out).mono ?_
  rintro e w3 ⟨rfl, lo⟩
  have HL := Lib.hid (HL.out.trans lo)
  have HM := Lib.hid (RowK.lo HM.out lo)
  clear lo HY1
  go_wp2_with fail
  refine (HY2.out _ _ HM.out).mono ?_
  rintro e w4 ⟨rfl, lo⟩
  have HL := Lib.hid (HL.out.trans lo)
  have HM := Lib.hid (RowK.lo HM.out lo)
  clear lo HY2
  go_wp2_with fail
  refine (HY3.out _ _ HM.out).mono ?_
  rintro e w5 ⟨rfl, lo⟩
  have HL := Lib.hid (HL.out.trans lo)
  clear lo HY3 HM
  go_wp2_with fail
  refine (HN.out _ HL.out).mono ?_
  rintro e w6 ⟨p6, c6, rfl, _, lo⟩
  have HL := Lib.hid (HL.out.trans lo)
  clear lo HN
  go_wp2_with fail
  refine (HB1.out _ HL.out).mono ?_
  rintro e w7 ⟨rfl, lo⟩
  have HL := Lib.hid (HL.out.trans lo)
  clear lo HB1
  go_wp2_with fail
  refine (HB2.out _ HL.out).mono ?_
  rintro e w8 ⟨rfl, lo⟩
  have HL := Lib.hid (HL.out.trans lo)
  clear lo HB2
  go_wp2_with fail
  go_ret
  exact ⟨rfl, HL.out⟩
end Go.Proofs.YtppihpjcdieeoaaGreatDoor
/-
  Contracts of the document's answers for layer 3: Power and One. No conditions beyond those stated.
-/
namespace Go.Proofs.YtppihpjcdieeoaaGreatDoor
open Go.RowKit

set_option maxHeartbeats 400000 in
theorem rpower_any (n : Nat) (w : World) (hn : n ≤ 4) : Calls Tryz.prog 45 #[.int .i64 n] w fun e w' => e = .returned (.int .i64 (256 ^ n : Nat)) ∧ w = w' := by
  go_enter Tryz.func45, Tryz.ntmps45
  go_wp2_with fail
  go_loop [3, 4] (fun s i => ∃ k v : Nat, k ≤ n ∧ i = .int .i64 k ∧ s = .int .i64 v ∧ Hid (v = 256 ^ k)) (fun _ i => n - (intOf i).toNat)
  case atStart => exact ⟨0, 1, Nat.zero_le _, rfl, rfl, Lib.hid rfl⟩
  case round =>
    obtain ⟨k, v, hk, rfl, rfl, HV⟩ := hrel
    have hv : v ≤ 4294967296 := by
      rw [HV.out]
      exact Nat.le_trans (Nat.pow_le_pow_right (by omega) (show k ≤ 4 by omega)) (by decide)
    by_cases hlt : k < n
    · go_wp2_with fail
      go_round
      case rel => exact ⟨k + 1, 256 * v, by omega, by go_num, by go_num, Lib.hid (by rw [Nat.pow_succ, HV.out, Nat.mul_comm])⟩
      case measure => simp [intOf]; omega
    · obtain rfl : k = n := by omega
      go_wp2_with fail
      go_ret
      exact ⟨ret_int (by rw [HV.out]; simp), rfl⟩

set_option maxHeartbeats 800000 in
theorem rone_any (l : List UInt8) (size : Int) (w : World) (hl : l.length ≤ 4) :
    Calls Tryz.prog 31 #[.string ⟨l.toArray⟩, .int .i64 size] w fun e w' => e = .returned (.int .i64 (Bn.one l size)) ∧ w = w' := by
  generalize hy : Bn.one l size = y
  have HY := Lib.hid hy
  clear hy
  have HP := Lib.hid (fun W => rpower_any l.length W hl)
  have hP1 : 256 ^ l.length ≤ 4294967296 := Nat.le_trans (Nat.pow_le_pow_right (by omega) hl) (by decide)
  have HBE := Lib.hid (Bn.be_lt l)
  have HYD : Hid (y = if size < 0 ∧ 256 ^ l.length / 2 ≤ Bn.be l then (Bn.be l : Int) - ((256 ^ l.length : Nat) : Int) else (Bn.be l : Int)) := Lib.hid (by rw [← HY.out]; rfl)
  clear HY
  generalize 256 ^ l.length = P at *
  go_enter Tryz.func31, Tryz.ntmps31
  go_wp2_with fail
  go_loop [5, 6] (fun s i => ∃ k v : Nat, k ≤ l.length ∧ i = .int .i64 k ∧ s = .int .i64 v ∧ Hid (v = Bn.be (l.take k))) (fun _ i => l.length - (intOf i).toNat)
  case atStart => exact ⟨0, 0, Nat.zero_le _, rfl, rfl, Lib.hid rfl⟩
  case round =>
    obtain ⟨k, v, hk, rfl, rfl, HV⟩ := hrel
    have hv : v < 1099511627776 := by
      rw [HV.out]
      refine Nat.lt_of_lt_of_le (Bn.be_take_lt l k) (Nat.le_trans (Nat.pow_le_pow_right (by omega) (show k ≤ 5 by omega)) (by decide))
    by_cases hlt : k < l.length
    · have hc := ba_get l k
      have HB := Lib.hid (Bn.be_take l k hlt)
      generalize l.getD k 0 = c at *
      have hc2 : c.toNat < 256 := UInt8.toNat_lt c
      go_wp2_with fail
      go_round
      case rel => exact ⟨k + 1, 256 * v + c.toNat, by omega, by go_num, by go_num, Lib.hid (by rw [HB.out, HV.out])⟩
      case measure => simp [intOf]; omega
    · have HV2 : Hid (Bn.be l = v) := Lib.hid (by rw [HV.out, List.take_of_length_le (by omega)])
      have hy := HYD.out
      rw [HV2.out] at hy
      by_cases hs : size < 0
      · by_cases hc : P / 2 ≤ v
        · rw [if_pos ⟨hs, hc⟩] at hy
          have HY := Lib.hid hy
          clear hy HYD
          go_wp2_with fail
          refine (HP.out _).mono ?_
          rintro e w1 ⟨rfl, rfl⟩
          go_wp2_with fail
          refine (HP.out _).mono ?_
          rintro e w1 ⟨rfl, rfl⟩
          go_wp2_with fail
          go_ret
          exact ⟨ret_int (by rw [HY.out]), rfl⟩
        · rw [if_neg (fun h => hc h.2)] at hy
          have HY := Lib.hid hy
          clear hy HYD
          go_wp2_with fail
          refine (HP.out _).mono ?_
          rintro e w1 ⟨rfl, rfl⟩
          go_wp2_with fail
          go_ret
          exact ⟨ret_int (by rw [HY.out]), rfl⟩
      · rw [if_neg (fun h => hs h.1)] at hy
        have HY := Lib.hid hy
        clear hy HYD
        go_wp2_with fail
        go_ret
        exact ⟨ret_int (by rw [HY.out]), rfl⟩
end Go.Proofs.YtppihpjcdieeoaaGreatDoor
