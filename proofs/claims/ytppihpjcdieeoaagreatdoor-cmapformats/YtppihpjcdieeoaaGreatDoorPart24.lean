/-
  Facts that the walks rest on: ChRefSame, ChRef2, SgShort, GrShort, CmMapped, CmLawFormats, CmLaid. No conditions beyond those stated.
-/
import Derived.Test.YtppihpjcdieeoaaGreatDoorPart04
import Derived.Deep.RegionHeld3
import Derived.WalkMore
import Derived.Test.YtppihpjcdieeoaaGreatDoorPart23
import Derived.Test.YtppihpjcdieeoaaGreatDoorPart17
import Derived.Test.YtppihpjcdieeoaaGreatDoorRows
import Derived.Test.YtppihpjcdieeoaaGreatDoorPart11
import Derived.Lib.LaidTab
import Derived.LaidMore
import Derived.ChangeSame
/-
  Contract of the document's Same of spans (layer 8), of rows that are alike. No conditions beyond those stated.
-/
namespace Go.Proofs.YtppihpjcdieeoaaGreatDoor
open Go.RowKit

set_option maxHeartbeats 1600000 in
theorem ssame_any (l : List Ch.Span) (v u : Value) (w : World) (h : SRow w v l) (h2 : SRow w u l) : Calls Tryz.prog 17 #[v, u] w fun e w' => e = .returned (.bool true) ∧ Lo w w' := by
  obtain ⟨p, c, rfl, hlen⟩ := RowK.form h
  obtain ⟨p2, c2, rfl, _⟩ := RowK.form h2
  have HR := Lib.hid h
  have HR2 := Lib.hid h2
  generalize hn : l.length = n at *
  have HN := Lib.hid hn
  clear hn h h2
  go_enter Tryz.func17, Tryz.ntmps17
  go_wp2_with fail
  go_loopw [5] (fun i W => ∃ k : Nat, k ≤ n ∧ i = .int .i64 k ∧ Hid (Lo w W)) (fun i _ => n - (intOf i).toNat)
  case atStart => exact ⟨0, Nat.zero_le _, rfl, Lib.hid (Lo.refl _)⟩
  case round =>
    obtain ⟨k, hk, rfl, HL⟩ := hrel
    by_cases hlt : k < n
    · have hx : l[k]? = some (l.getD k Ch.zs) := Ch.getD_some (by rw [HN.out]; exact hlt)
      obtain ⟨b, off, rfl, r0, r1, r2, r3⟩ := SRow.at4 (RowK.lo HR.out HL.out) hx
      obtain ⟨b2, off2, rfl, s0, s1, s2, s3⟩ := SRow.at4 (RowK.lo HR2.out HL.out) hx
      clear hx
      generalize l.getD k Ch.zs = x at *
      go_wp2_with fail
      go_quiet (fail)
      have HL2 := Lib.hid (HL.out.drewN nq)
      go_wp2_with fail
      go_roundw
      case rel => exact ⟨k + 1, by omega, by go_num, HL2⟩
      case measure => simp [intOf]; omega
    · go_wp2_with fail
      go_ret
      exact ⟨rfl, HL.out⟩
end Go.Proofs.YtppihpjcdieeoaaGreatDoor
/-
  Contracts of the document's functions on spans (layer 8), further: ends, Short, Same of rows that are alike. No conditions beyond those stated.
-/
namespace Ch
/-- The first and the last rune of the first k spans. -/
def endsTo (l : List Span) (k : Nat) : Int × Int := (l.take k).foldl endStep (-1, -1)
theorem endsTo_step {l : List Span} {k : Nat} (h : k < l.length) : endsTo l (k + 1) = endStep (endsTo l k) (l.getD k zs) := by
  unfold endsTo
  rw [take_snoc h, List.foldl_append]; rfl
theorem endsTo_all (l : List Span) : endsTo l l.length = ends l := by
  unfold endsTo ends
  rw [List.take_length]
theorem step_no {p : Int × Int} {x : Span} (h : x.gl = 0 ∧ x.st = 0 ∨ x.gl = 0 ∧ x.to < x.fr + 1) : endStep p x = p := by
  unfold endStep
  rw [if_pos]
  rcases h with h | h
  · exact .inl h
  · right; rw [if_pos h.1]; exact h.2
theorem step_zero {p : Int × Int} {x : Span} (h : x.gl = 0) (h2 : x.st ≠ 0) (h3 : ¬ x.to < x.fr + 1) : endStep p x = (if p.1 < 0 then x.fr + 1 else p.1, x.to) := by
  unfold endStep
  rw [if_pos h, if_neg (by omega)]
theorem step_some {p : Int × Int} {x : Span} (h : x.gl ≠ 0) (h3 : x.fr ≤ x.to) : endStep p x = (if p.1 < 0 then x.fr else p.1, x.to) := by
  unfold endStep
  rw [if_neg h, if_neg (by omega)]
def short (l : List Span) : Bool := !(isL l) || (decide ((ends l).1 < 0) || decide ((ends l).2 - (ends l).1 < 2000) || decide (65535 < (ends l).2) || decide (32762 < (ends l).2 - (ends l).1))
end Ch
namespace Go.Proofs.YtppihpjcdieeoaaGreatDoor
open Go.RowKit

set_option maxRecDepth 100000 in
set_option maxHeartbeats 6400000 in
theorem rends_any (v : Value) (l : List Ch.Span) (w : World) (h : SRow w v l) (hl : Ch.isL l = true) : Calls Tryz.prog 46 #[v] w fun e w' => e = .returned (.tuple #[.int .i64 (Ch.ends l).1, .int .i64 (Ch.ends l).2, .bool (decide (0 ≤ (Ch.ends l).1))]) ∧ Lo w w' := by
  obtain ⟨p, c, rfl, hlen⟩ := RowK.form h
  have HR := Lib.hid h
  have hm := (Ch.isL_chain hl).2
  have HM := Lib.hid (fun (i : Nat) (hi : i < l.length) => (Ch.okSpan_iff _).1 (Ch.chain_mem (Ch.isL_chain hl).1 _ (Ch.getD_mem hi)).1)
  have HSt := Lib.hid (fun (k : Nat) (h : k < l.length) => Ch.endsTo_step h)
  have HAll := Lib.hid (Ch.endsTo_all l)
  generalize Ch.ends l = y at *
  generalize hn : l.length = n at *
  have HN := Lib.hid hn
  clear hn h hl
  go_enter Tryz.func46, Tryz.ntmps46
  go_wp2_with fail
  go_loopw [5, 6, 7, 8] (fun s5 s6 s7 _ W => ∃ (k : Nat) (a z : Int), k ≤ n ∧ s7 = .int .i64 k ∧ s5 = .int .i64 a ∧ s6 = .int .i64 z ∧ Hid (Ch.endsTo l k = (a, z)) ∧ Hid (Lo w W)) (fun _ _ s7 _ _ => n - (intOf s7).toNat)
  case atStart => exact ⟨0, -1, -1, Nat.zero_le _, rfl, rfl, rfl, Lib.hid rfl, Lib.hid (Lo.refl _)⟩
  case round =>
    obtain ⟨k, a, z, hk, rfl, rfl, rfl, HE, HL⟩ := hrel
    by_cases hlt : k < n
    · have hk' : k < l.length := by rw [HN.out]; exact hlt
      obtain ⟨b, off, rfl, r0, r1, r2, r3⟩ := SRow.at4 (RowK.lo HR.out HL.out) (Ch.getD_some hk')
      clear hk'
      obtain ⟨x1, x2, x3, x4, x5, x6, x7, x8⟩ := HM.out k hlt
      have HS := Lib.hid (HSt.out k hlt)
      rw [HE.out] at HS
      generalize l.getD k Ch.zs = x at *
      obtain ⟨fr, tt, gl, st⟩ := x
      dsimp only at r0 r1 r2 r3 x1 x2 x3 x4 x5 x6 x7 x8
      clear x8 HE
      by_cases hg : gl = 0
      · subst hg
        by_cases hs : st = 0
        · subst hs
          have HE2 : Hid (Ch.endsTo l (k + 1) = (a, z)) := Lib.hid (by rw [HS.out, Ch.step_no (.inl ⟨rfl, rfl⟩)])
          clear HS
          go_wp2_with fail
          go_roundw
          case rel => exact ⟨k + 1, a, z, by omega, by go_num, rfl, rfl, HE2, HL⟩
          case measure => simp [intOf]; omega
        · by_cases ht : tt < fr + 1
          · have HE2 : Hid (Ch.endsTo l (k + 1) = (a, z)) := Lib.hid (by rw [HS.out, Ch.step_no (.inr ⟨rfl, ht⟩)])
            clear HS
            go_wp2_with fail
            go_roundw
            case rel => exact ⟨k + 1, a, z, by omega, by go_num, rfl, rfl, HE2, HL⟩
            case measure => simp [intOf]; omega
          · by_cases ha : a < 0
            · have HE2 : Hid (Ch.endsTo l (k + 1) = (fr + 1, tt)) := Lib.hid (by rw [HS.out, Ch.step_zero rfl hs ht, if_pos ha])
              clear HS
              go_wp2_with fail
              go_roundw
              case rel => exact ⟨k + 1, fr + 1, tt, by omega, by go_num, by go_num, rfl, HE2, HL⟩
              case measure => simp [intOf]; omega
            · have HE2 : Hid (Ch.endsTo l (k + 1) = (a, tt)) := Lib.hid (by rw [HS.out, Ch.step_zero rfl hs ht, if_neg ha])
              clear HS
              go_wp2_with fail
              go_roundw
              case rel => exact ⟨k + 1, a, tt, by omega, by go_num, rfl, rfl, HE2, HL⟩
              case measure => simp [intOf]; omega
      · by_cases ha : a < 0
        · have HE2 : Hid (Ch.endsTo l (k + 1) = (fr, tt)) := Lib.hid (by rw [HS.out, Ch.step_some hg x2, if_pos ha])
          clear HS
          go_wp2_with fail
          go_roundw
          case rel => exact ⟨k + 1, fr, tt, by omega, by go_num, rfl, rfl, HE2, HL⟩
          case measure => simp [intOf]; omega
        · have HE2 : Hid (Ch.endsTo l (k + 1) = (a, tt)) := Lib.hid (by rw [HS.out, Ch.step_some hg x2, if_neg ha])
          clear HS
          go_wp2_with fail
          go_roundw
          case rel => exact ⟨k + 1, a, tt, by omega, by go_num, rfl, rfl, HE2, HL⟩
          case measure => simp [intOf]; omega
    · obtain rfl : k = n := by omega
      have HF : Hid (y = (a, z)) := Lib.hid (by rw [← HAll.out, HE.out])
      go_wp2_with fail
      go_ret3
      exact ⟨by rw [HF.out]; rfl, HL.out⟩

set_option maxHeartbeats 1600000 in
theorem short_any (v : Value) (l : List Ch.Span) (w : World) (h : SRow w v l) : Calls Tryz.prog 23 #[v] w fun e w' => e = .returned (.bool (Ch.short l)) ∧ Lo w w' := by
  have HI := Lib.hid (fun W hW => ris_any v l W hW)
  have HR := Lib.hid h
  clear h
  unfold Ch.short
  cases hl : Ch.isL l with
  | false =>
    rw [hl] at HI
    clear hl
    go_enter Tryz.func23, Tryz.ntmps23
    go_wp2_with fail
    refine (HI.out _ HR.out).mono ?_
    rintro e w1 ⟨rfl, lo⟩
    have HL := Lib.hid lo
    clear lo HI
    go_wp2_with fail
    go_ret
    exact ⟨rfl, HL.out⟩
  | true =>
    have HE := Lib.hid (fun W hW => rends_any v l W hW hl)
    obtain ⟨e1, _⟩ := Ch.ends_spec hl
    rw [hl] at HI
    clear hl
    generalize Ch.ends l = y at *
    obtain ⟨a, z⟩ := y
    dsimp only at *
    rw [Bool.not_true, Bool.false_or]
    by_cases ha : 0 ≤ a
    · obtain ⟨f1, f2⟩ := e1 ha
      have had : decide (0 ≤ a) = true := decide_eq_true ha
      rw [had] at HE
      clear e1
      have hw : -9223372036854775808 ≤ z - a ∧ z - a ≤ 9223372036854775807 := by omega
      rw [decide_eq_false (show ¬ a < 0 by omega), Bool.false_or]
      by_cases c1 : z - a < 2000
      · rw [decide_eq_true c1, Bool.true_or, Bool.true_or]
        go_enter Tryz.func23, Tryz.ntmps23
        go_wp2_with fail
        refine (HI.out _ HR.out).mono ?_
        rintro e w1 ⟨rfl, lo⟩
        have HL := Lib.hid lo
        have HR := Lib.hid (RowK.lo HR.out lo)
        clear lo HI
        go_wp2_with fail
        refine (HE.out _ HR.out).mono ?_
        rintro e w2 ⟨rfl, lo⟩
        have HL := Lib.hid (HL.out.trans lo)
        clear lo HE
        go_wp2_with fail
        go_ret
        exact ⟨ret_bool (by rfl), HL.out⟩
      · rw [decide_eq_false c1, Bool.false_or]
        by_cases c2 : 65535 < z
        · rw [decide_eq_true c2, Bool.true_or]
          go_enter Tryz.func23, Tryz.ntmps23
          go_wp2_with fail
          refine (HI.out _ HR.out).mono ?_
          rintro e w1 ⟨rfl, lo⟩
          have HL := Lib.hid lo
          have HR := Lib.hid (RowK.lo HR.out lo)
          clear lo HI
          go_wp2_with fail
          refine (HE.out _ HR.out).mono ?_
          rintro e w2 ⟨rfl, lo⟩
          have HL := Lib.hid (HL.out.trans lo)
          clear lo HE
          go_wp2_with fail
          go_ret
          exact ⟨ret_bool (by rfl), HL.out⟩
        · rw [decide_eq_false c2, Bool.false_or]
          go_enter Tryz.func23, Tryz.ntmps23
          go_wp2_with fail
          refine (HI.out _ HR.out).mono ?_
          rintro e w1 ⟨rfl, lo⟩
          have HL := Lib.hid lo
          have HR := Lib.hid (RowK.lo HR.out lo)
          clear lo HI
          go_wp2_with fail
          refine (HE.out _ HR.out).mono ?_
          rintro e w2 ⟨rfl, lo⟩
          have HL := Lib.hid (HL.out.trans lo)
          clear lo HE
          go_wp2_with fail
          go_ret
          exact ⟨ret_bool (by rw [decide_eq_false (by omega), decide_eq_false (by omega)]; rfl), HL.out⟩
    · have had : decide (0 ≤ a) = false := decide_eq_false ha
      rw [had] at HE
      rw [decide_eq_true (show a < 0 by omega), Bool.true_or, Bool.true_or, Bool.true_or]
      clear e1
      go_enter Tryz.func23, Tryz.ntmps23
      go_wp2_with fail
      refine (HI.out _ HR.out).mono ?_
      rintro e w1 ⟨rfl, lo⟩
      have HL := Lib.hid lo
      have HR := Lib.hid (RowK.lo HR.out lo)
      clear lo HI
      go_wp2_with fail
      refine (HE.out _ HR.out).mono ?_
      rintro e w2 ⟨rfl, lo⟩
      have HL := Lib.hid (HL.out.trans lo)
      clear lo HE
      go_wp2_with fail
      go_ret
      exact ⟨ret_bool (by rfl), HL.out⟩
end Go.Proofs.YtppihpjcdieeoaaGreatDoor
/-
  Contract of the document's Short (layer 9): a bool, true only for 60 spans at the most. No conditions beyond those stated.
-/
namespace Go.Proofs.YtppihpjcdieeoaaGreatDoor
open Go.RowKit

/-- A bool told, true only for so few. -/
def GotShort9 (n : Nat) (w : World) (e : Ending) (w' : World) : Prop := ∃ b : Bool, e = .returned (.bool b) ∧ (b = true → n ≤ 60) ∧ Lo w w'

set_option maxRecDepth 100000 in
set_option maxHeartbeats 1600000 in
theorem short9_any (v : Value) (l : List Ch.Span) (w : World) (h : SRow w v l) : Calls Tryz.prog 24 #[v] w (GotShort9 l.length w) := by
  obtain ⟨p, c, rfl, hlen⟩ := RowK.form h
  have HR := Lib.hid h
  generalize hn : l.length = n at *
  have HN := Lib.hid hn
  clear hn h
  by_cases hm : n ≤ 60
  · go_enter Tryz.func24, Tryz.ntmps24
    go_wp2_with fail
    go_loopw [3, 4] (fun s3 s4 W => ∃ (k : Nat) (z : Int), k ≤ n ∧ s4 = .int .i64 k ∧ s3 = .int .i64 z ∧ Hid (Lo w W)) (fun _ s4 _ => n - (intOf s4).toNat)
    case atStart => exact ⟨0, 0, Nat.zero_le _, rfl, rfl, Lib.hid (Lo.refl _)⟩
    case round =>
      obtain ⟨k, z, hk, rfl, rfl, HL⟩ := hrel
      by_cases hlt : k < n
      · have hx : l[k]? = some (l.getD k Ch.zs) := Ch.getD_some (by rw [HN.out]; exact hlt)
        obtain ⟨b, off, rfl, r0, r1, r2, r3⟩ := SRow.at4 (RowK.lo HR.out HL.out) hx
        clear hx
        generalize l.getD k Ch.zs = x at *
        obtain ⟨fr, tt, gl, st⟩ := x
        dsimp only at r0 r1 r2 r3
        go_wp2_with fail
        go_quiet (fail)
        have HL2 := Lib.hid (HL.out.drewN nq)
        by_cases hb : 40000 < wrap64 (tt - fr)
        · clear r0 r1 r2 r3
          go_wp2_with fail
          go_roundw
          case rel => exact ⟨k + 1, z, by omega, by go_num, rfl, HL2⟩
          case measure => simp [intOf]; omega
        · go_wp2_with fail
          go_quiet (fail)
          clear r0 r1 r2 r3
          go_wp2_with fail
          go_roundw
          case rel => exact ⟨k + 1, _, by omega, by go_num, rfl, Lib.hid (HL.out.drewN _)⟩
          case measure => simp [intOf]; omega
      · obtain rfl : k = n := by omega
        by_cases hz : z ≤ 3000
        · go_wp2_with fail
          go_ret
          exact ⟨true, rfl, fun _ => hm, HL.out⟩
        · go_wp2_with fail
          go_ret
          exact ⟨false, rfl, fun h => (by cases h), HL.out⟩
  · go_enter Tryz.func24, Tryz.ntmps24
    go_wp2_with fail
    go_loopw [3, 4] (fun s3 s4 W => s4 = .int .i64 0 ∧ s3 = .int .i64 0 ∧ Hid (Lo w W)) (fun _ _ _ => 0)
    case atStart => exact ⟨rfl, rfl, Lib.hid (Lo.refl _)⟩
    case round =>
      obtain ⟨rfl, rfl, HL⟩ := hrel
      go_wp2_with fail
      go_ret
      exact ⟨false, rfl, fun h => (by cases h), HL.out⟩
end Go.Proofs.YtppihpjcdieeoaaGreatDoor
/-
  Contract of the document's Short (layer 10): a bool, true only for 60 spans at the most. No conditions beyond those stated.
-/
namespace Go.Proofs.YtppihpjcdieeoaaGreatDoor
open Go.RowKit

/-- A bool told, true only for so few. -/
def GotShort10 (n : Nat) (w : World) (e : Ending) (w' : World) : Prop := ∃ b : Bool, e = .returned (.bool b) ∧ (b = true → n ≤ 60) ∧ Lo w w'

set_option maxRecDepth 100000 in
set_option maxHeartbeats 1600000 in
theorem short10_any (v : Value) (l : List Ch.Span) (w : World) (h : SRow w v l) : Calls Tryz.prog 25 #[v] w (GotShort10 l.length w) := by
  obtain ⟨p, c, rfl, hlen⟩ := RowK.form h
  have HR := Lib.hid h
  generalize hn : l.length = n at *
  have HN := Lib.hid hn
  clear hn h
  by_cases hm : n ≤ 60
  · go_enter Tryz.func25, Tryz.ntmps25
    go_wp2_with fail
    go_loopw [3] (fun s3 W => ∃ (k : Nat), k ≤ n ∧ s3 = .int .i64 k ∧ Hid (Lo w W)) (fun s3 _ => n - (intOf s3).toNat)
    case atStart => exact ⟨0, Nat.zero_le _, rfl, Lib.hid (Lo.refl _)⟩
    case round =>
      obtain ⟨k, hk, rfl, HL⟩ := hrel
      by_cases hlt : k < n
      · have hx : l[k]? = some (l.getD k Ch.zs) := Ch.getD_some (by rw [HN.out]; exact hlt)
        obtain ⟨b, off, rfl, r0, r1, r2, r3⟩ := SRow.at4 (RowK.lo HR.out HL.out) hx
        clear hx
        generalize l.getD k Ch.zs = x at *
        obtain ⟨fr, tt, gl, st⟩ := x
        dsimp only at r0 r1 r2 r3
        go_wp2_with fail
        go_quiet (fail)
        have HL2 := Lib.hid (HL.out.drewN nq)
        clear r0 r1 r2 r3
        by_cases hb : 1000 < wrap64 (tt - fr)
        · by_cases hc : wrap64 (tt - fr) < 70000
          · go_wp2_with fail
            go_ret
            exact ⟨false, rfl, fun h => (by cases h), HL2.out⟩
          · go_wp2_with fail
            go_roundw
            case rel => exact ⟨k + 1, by omega, by go_num, HL2⟩
            case measure => simp [intOf]; omega
        · go_wp2_with fail
          go_roundw
          case rel => exact ⟨k + 1, by omega, by go_num, HL2⟩
          case measure => simp [intOf]; omega
      · obtain rfl : k = n := by omega
        go_wp2_with fail
        go_ret
        exact ⟨_, rfl, fun _ => hm, HL.out⟩
  · go_enter Tryz.func25, Tryz.ntmps25
    go_wp2_with fail
    go_loopw [3] (fun s3 W => s3 = .int .i64 0 ∧ Hid (Lo w W)) (fun _ _ => 0)
    case atStart => exact ⟨rfl, Lib.hid (Lo.refl _)⟩
    case round =>
      obtain ⟨rfl, HL⟩ := hrel
      by_cases h0 : (0 : Int) < (n : Int)
      · go_wp2_with fail
        go_ret
        exact ⟨_, rfl, fun h => absurd (of_decide_eq_true h) (by omega), HL.out⟩
      · exact absurd h0 (by omega)
end Go.Proofs.YtppihpjcdieeoaaGreatDoor
/-
  The contracts of the document's Short (layer 11) and of the laws' closed rows 'mapped'. Condition of the second: the row of ranked ids lies as it was laid.
-/
namespace Go.Proofs.YtppihpjcdieeoaaGreatDoor
open Go.RowKit Go.Shelf

theorem cm_wf {n : Int} (h : (Lit.int .i64 n).wf = true) : -9223372036854775808 ≤ n ∧ n ≤ 9223372036854775807 := by
  have h1 : (decide (IntKind.i64.min ≤ n) && decide (n ≤ IntKind.i64.max)) = true := h
  rw [show IntKind.i64.min = -9223372036854775808 by decide, show IntKind.i64.max = 9223372036854775807 by decide] at h1
  simpa using h1

def GotShort11 (n : Nat) (w : World) (e : Ending) (w' : World) : Prop := ∃ b : Bool, e = .returned (.bool b) ∧ (b = true → n ≤ 60) ∧ Lo w w'

set_option maxRecDepth 100000 in
set_option maxHeartbeats 1600000 in
theorem short11_any (v : Value) (l : List Ch.Span) (w : World) (h : SRow w v l) : Calls Tryz.prog 7 #[v] w (GotShort11 l.length w) := by
  have H1 := Lib.hid (short_any v l w h)
  have H2 := Lib.hid (fun W (hW : Lo w W) => short9_any v l W (RowK.lo h hW))
  have H3 := Lib.hid (fun W (hW : Lo w W) => short10_any v l W (RowK.lo h hW))
  obtain ⟨p, c, rfl, _⟩ := RowK.form h
  unfold GotShort9 at H2
  unfold GotShort10 at H3
  clear h
  generalize l.length = n at *
  cases hs : Ch.short l with
  | false =>
    rw [hs] at H1
    clear hs H2 H3
    go_enter Tryz.func7, Tryz.ntmps7
    go_wp2_with fail
    refine (H1.out).mono ?_
    rintro e w1 ⟨rfl, lo⟩
    have HL := Lib.hid lo
    clear lo H1
    go_wp2_with fail
    go_ret
    exact ⟨false, rfl, (fun h => by cases h), HL.out⟩
  | true =>
    rw [hs] at H1
    clear hs
    go_enter Tryz.func7, Tryz.ntmps7
    go_wp2_with fail
    refine (H1.out).mono ?_
    rintro e w1 ⟨rfl, lo⟩
    have HL := Lib.hid lo
    clear lo H1
    go_wp2_with fail
    refine (H2.out _ HL.out).mono ?_
    rintro e w2 ⟨b2, rfl, hb2, lo⟩
    have HL2 := Lib.hid (HL.out.trans lo)
    have HB2 := Lib.hid hb2
    clear lo H2 hb2
    cases b2 with
    | false =>
      clear H3
      go_wp2_with fail
      go_ret
      exact ⟨false, rfl, (fun h => by cases h), HL2.out⟩
    | true =>
      go_wp2_with fail
      refine (H3.out _ HL2.out).mono ?_
      rintro e w3 ⟨b3, rfl, hb3, lo⟩
      have HL3 := Lib.hid (HL2.out.trans lo)
      have HB3 := Lib.hid hb3
      clear lo H3 hb3
      cases b3 with
      | false =>
        go_wp2_with fail
        go_ret
        exact ⟨false, rfl, (fun h => by cases h), HL3.out⟩
      | true =>
        go_wp2_with fail
        go_ret
        exact ⟨true, rfl, (fun _ => by have h := HB3.out; simpa using h), HL3.out⟩

def cm1 : List Ch.Span := [⟨65, 66, 3, 1⟩]
def cmS : List UInt8 := (Cm.put cm1 4).1
def cm2 : List Ch.Span := (Cm.get cmS).1
theorem cm_put : Cm.put cm1 4 = (cmS, 0) := by kernel_rfl
theorem cm_get : Cm.get cmS = (cm2, 0) := by kernel_rfl
theorem cm_g1 : Cm.glyph cm2 66 5 = (4, 0) := by kernel_rfl
theorem cm_g2 : Cm.glyph cm2 67 5 = (0, 10) := by kernel_rfl
theorem cm_g3 : Cm.glyph cm2 66 4 = (0, 10) := by kernel_rfl
theorem cm_none : Cm.get [0, 0, 0, 0] = ([], 6) := by kernel_rfl
theorem cm_b1 : Cm.best 3 10 = 9 := by kernel_rfl
theorem cm_b2 : Cm.best 2 0 = 0 := by kernel_rfl
theorem cm_len : cmS.length ≤ 800012 := Cm.len_put _ _

set_option maxRecDepth 100000 in
set_option maxHeartbeats 3200000 in
theorem mapped_any (w : World) (ht : RTab w) : Calls Tryz.prog 16 #[] w fun e w' => e = .returned (.bool true) ∧ Lo w w' := by
  have HP := Lib.hid (fun (v : Value) (W : World) (h : SRow W v cm1) => cmput_any v cm1 4 W h (by omega) (by omega))
  have HG := Lib.hid (fun (W : World) (l : Lo w W) => cmget_any cmS W (by have := cm_len; omega) (ht.lo l))
  have HN := Lib.hid (fun (W : World) (l : Lo w W) => cmget_any [0, 0, 0, 0] W (by simp) (ht.lo l))
  have HY1 := Lib.hid (fun (v : Value) (W : World) (h : SRow W v cm2) => cglyph_any v cm2 66 5 W h)
  have HY2 := Lib.hid (fun (v : Value) (W : World) (h : SRow W v cm2) => cglyph_any v cm2 67 5 W h)
  have HY3 := Lib.hid (fun (v : Value) (W : World) (h : SRow W v cm2) => cglyph_any v cm2 66 4 W h)
  have HB1 := Lib.hid (fun (W : World) (l : Lo w W) => best_any 3 10 W (ht.lo l))
  have HB2 := Lib.hid (fun (W : World) (l : Lo w W) => best_any 2 0 W (ht.lo l))
  rw [cm_put] at HP
  rw [cm_get] at HG
  rw [cm_none] at HN
  rw [cm_g1] at HY1
  rw [cm_g2] at HY2
  rw [cm_g3] at HY3
  rw [cm_b1] at HB1
  rw [cm_b2] at HB2
  unfold strErr at HP
  unfold GotSp at HG HN
  dsimp only at HP HG HN HY1 HY2 HY3
  rw [show (([0, 0, 0, 0] : List UInt8).toArray) = #[0, 0, 0, 0] from rfl] at HN
  clear ht
  generalize cmS = S at *
  generalize cm2 = M at *
  generalize M.length = n at *
  go_enter Tryz.func16, Tryz.ntmps16
  go_wp2_with fail
  have HR : Hid (SRow (w.alloc (.cells #[.int .i64 65, .int .i64 66, .int .i64 3, .int .i64 1] 63)) (.slice (some ⟨w.heap.size, 0, none⟩) 1 1) cm1) := Lib.hid (srow1 w _ rfl ⟨65, 66, 3, 1⟩ _)
  have HL : Hid (Lo w (w.alloc (.cells #[.int .i64 65, .int .i64 66, .int .i64 3, .int .i64 1] 63))) := Lib.hid ((Lo.refl w).alloc _)
  refine (HP.out _ _ HR.out).mono ?_
  rintro e w1 ⟨rfl, lo⟩
  have HL := Lib.hid (HL.out.trans lo)
  clear lo HP
  go_wp2_with fail
  refine (HG.out _ HL.out).mono ?_
  rintro e w2 ⟨p, c, rfl, hrow, lo⟩
  have HL := Lib.hid (HL.out.trans lo)
  have HM := Lib.hid hrow
  clear lo hrow HG
  go_wp2_with fail
  refine (HY1.out _ _ HM.out).mono ?_
  rintro e w3 ⟨rfl, lo⟩
  have HL := Lib.hid (HL.out.trans lo)
  have HM := Lib.hid (RowK.lo HM.out lo)
  clear lo HY1
  go_wp2_with fail
  refine (HY2.out _ _ HM.out).mono ?_
  rintro e w4 ⟨rfl, lo⟩
  have HL := Lib.hid (HL.out.trans lo)
  have HM := Lib.hid (RowK.lo HM.out lo)
  clear lo HY2
  go_wp2_with fail
  refine (HY3.out _ _ HM.out).mono ?_
  rintro e w5 ⟨rfl, lo⟩
  have HL := Lib.hid (HL.out.trans lo)
  clear lo HY3 HM
  go_wp2_with fail
  refine (HN.out _ HL.out).mono ?_
  rintro e w6 ⟨p6, c6, rfl, _, lo⟩
  have HL := Lib.hid (HL.out.trans lo)
  clear lo HN
  go_wp2_with fail
  refine (HB1.out _ HL.out).mono ?_
  rintro e w7 ⟨rfl, lo⟩
  have HL := Lib.hid (HL.out.trans lo)
  clear lo HB1
  go_wp2_with fail
  refine (HB2.out _ HL.out).mono ?_
  rintro e w8 ⟨rfl, lo⟩
  have HL := Lib.hid (HL.out.trans lo)
  clear lo HB2
  go_wp2_with fail
  go_ret
  exact ⟨rfl, HL.out⟩
end Go.Proofs.YtppihpjcdieeoaaGreatDoor
/-
  The walk of the law CmapFormats. Condition: the row of ranked ids lies as it was laid.
-/
namespace Cm
open Ch
theorem glyph_answer {l : List Span} (hl : isL l = true) (c g : Int) : ((glyph l c g).2 = 0 ∧ 0 < (glyph l c g).1 ∧ (glyph l c g).1 < g) ∨ ((glyph l c g).2 = 10 ∧ (glyph l c g).1 = 0) := by
  have hb := look_b hl c
  unfold glyph
  rw [if_neg (by rw [hl]; simp)]
  by_cases h : look l c = 0 ∨ g ≤ look l c
  · rw [if_pos h]; right; exact ⟨rfl, rfl⟩
  · rw [if_neg h]; left
    have h1 : ¬ look l c = 0 := fun e => h (.inl e)
    have h2 : ¬ g ≤ look l c := fun e => h (.inr e)
    exact ⟨rfl, by show 0 < look l c; omega, by show look l c < g; omega⟩
end Cm
namespace Go.Proofs.YtppihpjcdieeoaaGreatDoor
open Go.RowKit Go.Shelf

set_option maxRecDepth 100000 in
set_option maxHeartbeats 3200000 in
theorem cmapFormats_walk (v : Value) (l : List Ch.Span) (a b ch g : Int) (w : World) (ht : RTab w) (hr : SRow w v l) (wa : (Lit.int .i64 a).wf = true) (wb : (Lit.int .i64 b).wf = true) (_wc : (Lit.int .i64 ch).wf = true) (_wg : (Lit.int .i64 g).wf = true) : Calls Tryz.prog 5 #[v, .int .i64 a, .int .i64 b, .int .i64 ch, .int .i64 g] w fun e w' => e = .returned (.bool true) ∧ Lo w w' := by
  obtain ⟨wa1, wa2⟩ := cm_wf wa
  obtain ⟨wb1, wb2⟩ := cm_wf wb
  have HS := Lib.hid (short11_any v l w hr)
  have HP := Lib.hid (fun (W : World) (h : SRow W v l) => cmput_any v l a W h wa1 wa2)
  have HQ := Lib.hid (fun (W : World) (h : SRow W v l) => cmput_any v l b W h wb1 wb2)
  have HD := Lib.hid (fun W (hW : Lo w W) => mapped_any W (ht.lo hW))
  have HR := Lib.hid hr
  obtain ⟨p, c, rfl, _⟩ := RowK.form hr
  unfold GotShort11 at HS
  clear hr wa wb _wc _wg wa1 wa2 wb1 wb2
  by_cases hp : (Cm.put l a).2 = 0
  · by_cases hq : (Cm.put l b).2 = 0
    · obtain ⟨g1, g2, g3, g4, g5⟩ := Cm.get_put hp
      obtain ⟨k1, k2, k3, k4, k5⟩ := Cm.get_put hq
      have hi := Cm.put_is hp
      have hpl := Cm.len_put l a
      have hql := Cm.len_put l b
      have HG := Lib.hid (fun W (hW : Lo w W) => cmget_any (Cm.put l a).1 W (by omega) (ht.lo hW))
      have HK := Lib.hid (fun W (hW : Lo w W) => cmget_any (Cm.put l b).1 W (by omega) (ht.lo hW))
      have ga := Cm.glyph_same g4 hi g5 ch g
      have gb := Cm.glyph_same k4 hi k5 ch g
      have gans := Cm.glyph_answer hi ch g
      unfold strErr at HP HQ
      unfold GotSp at HG HK
      rw [hp] at HP
      rw [hq] at HQ
      rw [g2, g3] at HG
      rw [k2, k3] at HK
      have HGl := Lib.hid (fun (v : Value) (W : World) (h : SRow W v (Cm.read ((Cm.put l a).1.drop 12)).1) => cglyph_any v _ ch g W h)
      have HGm := Lib.hid (fun (v : Value) (W : World) (h : SRow W v (Cm.read ((Cm.put l b).1.drop 12)).1) => cglyph_any v _ ch g W h)
      rw [ga] at HGl
      rw [gb] at HGm
      clear hp hq g1 g2 g3 g4 g5 k1 k2 k3 k4 k5 hi ga gb hpl hql ht
      generalize (Cm.read ((Cm.put l a).1.drop 12)).1 = M at *
      generalize (Cm.read ((Cm.put l b).1.drop 12)).1 = N at *
      generalize (Cm.put l a).1 = S at *
      generalize (Cm.put l b).1 = T at *
      generalize (Cm.glyph l ch g).1 = n at *
      generalize (Cm.glyph l ch g).2 = k at *
      generalize M.length = ml at *
      generalize N.length = nl at *
      go_enter Tryz.func5, Tryz.ntmps5
      go_wp2_with fail
      refine HS.out.mono ?_
      rintro e w1 ⟨b0, rfl, _, lo⟩
      have HL := Lib.hid lo
      have HR1 := Lib.hid (RowK.lo HR.out lo)
      clear lo HS HR
      cases b0 with
      | false =>
        clear HP HQ HD HG HK HGl HGm
        go_wp2_with fail
        go_ret
        exact ⟨rfl, HL.out⟩
      | true =>
        go_wp2_with fail
        refine (HP.out _ HR1.out).mono ?_
        rintro e w2 ⟨rfl, lo⟩
        have HL := Lib.hid (HL.out.trans lo)
        have HR := Lib.hid (RowK.lo HR1.out lo)
        clear lo HP HR1
        go_wp2_with fail
        refine (HQ.out _ HR.out).mono ?_
        rintro e w3 ⟨rfl, lo⟩
        have HL := Lib.hid (HL.out.trans lo)
        clear lo HQ HR
        go_wp2_with fail
        refine (HG.out _ HL.out).mono ?_
        rintro e w4 ⟨p4, c4, rfl, hrow, lo⟩
        have HL := Lib.hid (HL.out.trans lo)
        have HM := Lib.hid hrow
        clear lo hrow HG
        go_wp2_with fail
        refine (HK.out _ HL.out).mono ?_
        rintro e w5 ⟨p5, c5, rfl, hrow, lo⟩
        have HL := Lib.hid (HL.out.trans lo)
        have HM := Lib.hid (RowK.lo HM.out lo)
        have HN := Lib.hid hrow
        clear lo hrow HK
        go_wp2_with fail
        refine (HGl.out _ _ HM.out).mono ?_
        rintro e w6 ⟨rfl, lo⟩
        have HL := Lib.hid (HL.out.trans lo)
        have HN := Lib.hid (RowK.lo HN.out lo)
        clear lo HGl HM
        go_wp2_with fail
        refine (HGm.out _ _ HN.out).mono ?_
        rintro e w7 ⟨rfl, lo⟩
        have HL := Lib.hid (HL.out.trans lo)
        clear lo HGm HN
        go_wp2_with fail
        refine (HD.out _ HL.out).mono ?_
        rintro e w8 ⟨rfl, lo⟩
        have HL := Lib.hid (HL.out.trans lo)
        clear lo HD
        rcases gans with ⟨rfl, n1, n2⟩ | ⟨rfl, rfl⟩
        · have e1 : decide (0 < n) = true := by simpa using n1
          have e2 : decide (n < g) = true := by simpa using n2
          go_wp2_with fail
          go_ret
          exact ⟨ret_bool (by simp), HL.out⟩
        · go_wp2_with fail
          go_ret
          exact ⟨ret_bool (by simp), HL.out⟩
    · have hn := Cm.put_no hq
      unfold strErr at HP HQ
      rw [hn] at HQ
      rw [show (([] : List UInt8).toArray) = #[] from rfl] at HQ
      rw [hp] at HP
      generalize (Cm.put l b).2 = k at *
      have hne : (k != 0) = true := by simpa using hq
      clear hn hp hq ht
      generalize (Cm.put l a).1 = S at *
      go_enter Tryz.func5, Tryz.ntmps5
      go_wp2_with fail
      refine HS.out.mono ?_
      rintro e w1 ⟨b0, rfl, _, lo⟩
      have HL := Lib.hid lo
      have HR1 := Lib.hid (RowK.lo HR.out lo)
      clear lo HS HR
      cases b0 with
      | false =>
        clear HP HQ HD 
        go_wp2_with fail
        go_ret
        exact ⟨rfl, HL.out⟩
      | true =>
        go_wp2_with fail
        refine (HP.out _ HR1.out).mono ?_
        rintro e w2 ⟨rfl, lo⟩
        have HL := Lib.hid (HL.out.trans lo)
        have HR := Lib.hid (RowK.lo HR1.out lo)
        clear lo HP HR1
        go_wp2_with fail
        refine (HQ.out _ HR.out).mono ?_
        rintro e w3 ⟨rfl, lo⟩
        have HL := Lib.hid (HL.out.trans lo)
        clear lo HQ HR
        go_wp2_with fail
        refine (HD.out _ HL.out).mono ?_
        rintro e w5 ⟨rfl, lo⟩
        have HL := Lib.hid (HL.out.trans lo)
        clear lo HD
        go_wp2_with fail
        go_ret
        exact ⟨rfl, HL.out⟩
  · have hn := Cm.put_no hp
    unfold strErr at HP HQ
    rw [hn] at HP
    rw [show (([] : List UInt8).toArray) = #[] from rfl] at HP
    generalize (Cm.put l a).2 = k at *
    have hne : (k != 0) = true := by simpa using hp
    clear hn hp ht
    generalize (Cm.put l b).2 = j at *
    generalize (Cm.put l b).1 = T at *
    go_enter Tryz.func5, Tryz.ntmps5
    go_wp2_with fail
    refine HS.out.mono ?_
    rintro e w1 ⟨b0, rfl, _, lo⟩
    have HL := Lib.hid lo
    have HR1 := Lib.hid (RowK.lo HR.out lo)
    clear lo HS HR
    cases b0 with
    | false =>
      clear HP HQ HD 
      go_wp2_with fail
      go_ret
      exact ⟨rfl, HL.out⟩
    | true =>
      go_wp2_with fail
      refine (HP.out _ HR1.out).mono ?_
      rintro e w2 ⟨rfl, lo⟩
      have HL := Lib.hid (HL.out.trans lo)
      have HR := Lib.hid (RowK.lo HR1.out lo)
      clear lo HP HR1
      go_wp2_with fail
      refine (HQ.out _ HR.out).mono ?_
      rintro e w3 ⟨rfl, lo⟩
      have HL := Lib.hid (HL.out.trans lo)
      clear lo HQ HR
      go_wp2_with fail
      refine (HD.out _ HL.out).mono ?_
      rintro e w5 ⟨rfl, lo⟩
      have HL := Lib.hid (HL.out.trans lo)
      clear lo HD
      go_wp2_with fail
      go_ret
      exact ⟨rfl, HL.out⟩
end Go.Proofs.YtppihpjcdieeoaaGreatDoor
/-
  A row that lists the program's row of ranked ids as it is laid gives RTab. No other conditions.
-/
namespace Go.Proofs.YtppihpjcdieeoaaGreatDoor
open Go.ChangeShapes Go.WideShapes Go.RowKit

theorem pairs_flat (cs : List Value) (zs : List (Int × Int)) (hl : cs.length = 2 * zs.length) (h : ∀ i z, zs[i]? = some z → (cs.drop (i * 2)).take 2 = [.int .i64 z.1, .int .i64 z.2]) :
    cs = zs.flatMap fun z => [.int .i64 z.1, .int .i64 z.2] := by
  induction zs generalizing cs with
  | nil => simpa using hl
  | cons z zs ih =>
    have h0 := h 0 z (by simp)
    match cs, hl with
    | a :: b :: r, hl =>
      simp at h0
      obtain ⟨rfl, rfl⟩ := h0
      have := ih r (by simp at hl; omega) (fun i y hy => by
        have := h (i + 1) y (by simpa using hy)
        rw [show (i + 1) * 2 = i * 2 + 2 by omega] at this
        simpa using this)
      simp [List.flatMap_cons, ← this]

def rankPairs : List (Int × Int) := [(1, 0), (0, 0), (0, 1), (0, 2), (0, 3), (3, 1), (0, 4), (0, 6), (3, 10)]

theorem cells_of_ranks {H : Type} {enc : TypeId × Value → H} {w : World} {base : Nat} {sp : Nat → Bool} {held : Bool} {fuel : Nat} {cs : List Value} {p : List MemPlace}
    (h : DataW.trod enc Tryz.prog w base sp held fuel 64 cs = some (.agg (rankPairs.map fun z => .agg [.lit (.int .i64 z.1), .lit (.int .i64 z.2)]), p)) :
    cs = rankPairs.flatMap fun z => [.int .i64 z.1, .int .i64 z.2] := by
  have ce : Tryz.prog.cellsOf 57 = 2 := by kernel_rfl
  have ci : Tryz.prog.cellsOf 3 = 1 := by kernel_rfl
  have ct : Tryz.prog.cellsOf 64 = 18 := by kernel_rfl
  cases fuel with
  | zero => simp [DataW.trod] at h
  | succ fuel =>
    simp only [DataW.trod, Tryz.underlying64, ce, ct] at h
    split at h
    · rename_i hl
      obtain ⟨xs, hm, hx⟩ := Option.map_eq_some_iff.1 h
      have hxs : xs.map (·.1) = rankPairs.map fun z => (DataW.agg [.lit (.int .i64 z.1), .lit (.int .i64 z.2)] : DataW H) := by
        have := congrArg Prod.fst hx
        simpa using this
      refine pairs_flat cs rankPairs (by simpa [rankPairs] using hl) fun i z hz => ?_
      have hi : i < 9 := by
        have := (List.getElem?_eq_some_iff.1 hz).1
        simpa [rankPairs] using this
      obtain ⟨b, hb, hf⟩ := Lib.mapM_at hm i i (by simp [hi])
      obtain ⟨y0, y1, n, hy, hl2, h0, h1⟩ := trod_struct2 Tryz.underlying57 hf
      obtain ⟨z0, hc0, rfl, _⟩ := DataW.trod_int Tryz.underlying3 h0
      obtain ⟨z1, hc1, rfl, _⟩ := DataW.trod_int Tryz.underlying3 h1
      have h2 : (xs.map (·.1))[i]? = some (DataW.agg [.lit (.int .i64 z0), .lit (.int .i64 z1)] : DataW H) := by simp [hb, hy]
      rw [hxs] at h2
      simp only [List.getElem?_map, hz, Option.map_some, Option.some.injEq, DataW.agg.injEq, List.cons.injEq, DataW.lit.injEq, Lit.int.injEq, true_and, and_true] at h2
      obtain ⟨rfl, rfl⟩ := h2
      rw [ci] at hc0 hc1
      rw [ce] at hl2
      match hq : (cs.drop (i * 2)).take 2, hl2 with
      | [u, v], _ =>
        rw [hq] at hc0 hc1
        simp at hc0 hc1
        rw [hc0, hc1]
    · cases h

theorem rtab_of_laid {W : World} (h : laidMet Tryz.prog [("vinculum/cmap.ranked", Rows.laid_vinculum_cmap_ranked)] W) : RTab W := by
  obtain ⟨ps, ⟨g', t', cs, fuel, p, q, hg', ht', hvar, hd, _, _⟩, _⟩ := h
  obtain rfl := Option.some.inj ((show Tryz.prog.globalNamed "vinculum/cmap.ranked" = some 0 by kernel_rfl).symm.trans hg')
  obtain rfl := Option.some.inj ((show (Tryz.prog.globals[0]?).map (·.type) = some 64 by kernel_rfl).symm.trans ht')
  unfold RTab Lib.TabIs
  have hc : cs = (ranks.map fun z => Value.int .i64 z).toArray := by
    apply Array.ext'
    rw [cells_of_ranks hd]
    rfl
  rw [hvar, hc]
end Go.Proofs.YtppihpjcdieeoaaGreatDoor
