/-
  Facts that the walks rest on: ChRefLook, ChRefPut. No conditions beyond those stated.
-/
import Derived.Test.YtppihpjcdieeoaaGreatDoorPart23
import Derived.Test.YtppihpjcdieeoaaGreatDoorPart24
import Derived.Test.YtppihpjcdieeoaaGreatDoorPart27
/-
  Contracts of the document's look and Look (layer 8). No conditions beyond those stated.
-/
namespace Ch
theorem drop_cons {l : List Span} {k : Nat} (h : k < l.length) : l.drop k = l.getD k zs :: l.drop (k + 1) := by
  rw [List.drop_eq_getElem_cons h, List.getD_eq_getElem?_getD, List.getElem?_eq_getElem h]; rfl
theorem look_in {l : List Span} {k : Nat} {c : Int} (h : k < l.length) (h1 : (l.getD k zs).fr ≤ c) (h2 : c ≤ (l.getD k zs).to) : look (l.drop k) c = glyphOf (l.getD k zs) c := by
  rw [drop_cons h, look, if_pos ⟨h1, h2⟩]
theorem look_next {l : List Span} {k : Nat} {c : Int} (h : k < l.length) (h1 : ¬ ((l.getD k zs).fr ≤ c ∧ c ≤ (l.getD k zs).to)) : look (l.drop k) c = look (l.drop (k + 1)) c := by
  rw [drop_cons h, look, if_neg h1]
end Ch
namespace Go.Proofs.YtppihpjcdieeoaaGreatDoor
open Go.RowKit

set_option maxRecDepth 100000 in
set_option maxHeartbeats 3200000 in
theorem rlook_any (v : Value) (l : List Ch.Span) (c : Int) (w : World) (h : SRow w v l) (hl : Ch.isL l = true) : Calls Tryz.prog 78 #[v, .int .i64 c] w fun e w' => e = .returned (.int .i64 (Ch.look l c)) ∧ Lo w w' := by
  obtain ⟨p, cp, rfl, hlen⟩ := RowK.form h
  have HR := Lib.hid h
  have hm := (Ch.isL_chain hl).2
  have HM := Lib.hid (fun (i : Nat) (hi : i < l.length) => (Ch.chain_mem (Ch.isL_chain hl).1 _ (Ch.getD_mem hi)).1)
  have H1 := Lib.hid (fun (k : Nat) (h : k < l.length) h1 h2 => Ch.look_in (c := c) h h1 h2)
  have H2 := Lib.hid (fun (k : Nat) (h : k < l.length) h1 => Ch.look_next (c := c) h h1)
  have HZ : Hid (Ch.look (l.drop l.length) c = 0) := Lib.hid (by rw [List.drop_length]; rfl)
  have HS : Hid (Ch.look (l.drop 0) c = Ch.look l c) := Lib.hid (by rw [List.drop_zero])
  generalize Ch.look l c = y at *
  generalize hn : l.length = n at *
  have HN := Lib.hid hn
  clear hn h hl
  go_enter Tryz.func78, Tryz.ntmps78
  go_wp2_with fail
  go_loopw [5] (fun s5 W => ∃ k : Nat, k ≤ n ∧ s5 = .int .i64 k ∧ Hid (Ch.look (l.drop k) c = y) ∧ Hid (Lo w W)) (fun s5 _ => n - (intOf s5).toNat)
  case atStart => exact ⟨0, Nat.zero_le _, rfl, HS, Lib.hid (Lo.refl _)⟩
  case round =>
    obtain ⟨k, hk, rfl, HE, HL⟩ := hrel
    by_cases hlt : k < n
    · have hk' : k < l.length := by rw [HN.out]; exact hlt
      obtain ⟨b, off, rfl, r0, r1, r2, r3⟩ := SRow.at4 (RowK.lo HR.out HL.out) (Ch.getD_some hk')
      clear hk'
      have HOk := Lib.hid (HM.out k hlt)
      have HA := Lib.hid (H1.out k hlt)
      have HB := Lib.hid (H2.out k hlt)
      generalize l.getD k Ch.zs = x at *
      by_cases c1 : x.fr ≤ c
      · by_cases c2 : c ≤ x.to
        · have HG := Lib.hid ((HA.out c1 c2).symm.trans HE.out)
          have hok := (Ch.okSpan_iff x).1 HOk.out
          have hgb := Ch.glyphOf_bound HOk.out c1 c2
          obtain ⟨m, hmul⟩ : ∃ m, m = x.st * (c - x.fr) := ⟨_, rfl⟩
          have hmb : 0 ≤ m ∧ m ≤ 1114111 := by
            rw [hmul]
            rcases (show x.st = 0 ∨ x.st = 1 by omega) with e | e
            · rw [e]; omega
            · rw [e]; omega
          have hg : Ch.glyphOf x c = x.gl + m := by unfold Ch.glyphOf; rw [hmul]
          rw [hg] at HG hgb
          obtain ⟨fr, tt, gl, st⟩ := x
          dsimp only at *
          have j1 : IntKind.i64.wrap (c - fr) = c - fr := IntWalk.i64_in _ (by omega)
          have j2 : IntKind.i64.wrap (st * (c - fr)) = m := by rw [← hmul]; exact IntWalk.i64_in _ (by omega)
          have j3 : IntKind.i64.wrap (gl + m) = gl + m := IntWalk.i64_in _ (by omega)
          clear HA HB HE hmul hg hok
          go_wp2_with fail
          go_quiet (fail)
          have HL2 := Lib.hid (HL.out.drewN nq)
          go_wp2_with fail
          go_ret
          exact ⟨ret_int (by first | exact HG.out | (rw [← HG.out]; done)), HL2.out⟩
        · have HE2 : Hid (Ch.look (l.drop (k + 1)) c = y) := Lib.hid ((HB.out (fun h => c2 h.2)).symm.trans HE.out)
          clear HA HB HE
          go_wp2_with fail
          go_roundw
          case rel => exact ⟨k + 1, by omega, by go_num, HE2, HL⟩
          case measure => simp [intOf]; omega
      · have HE2 : Hid (Ch.look (l.drop (k + 1)) c = y) := Lib.hid ((HB.out (fun h => c1 h.1)).symm.trans HE.out)
        clear HA HB HE
        go_wp2_with fail
        go_roundw
        case rel => exact ⟨k + 1, by omega, by go_num, HE2, HL⟩
        case measure => simp [intOf]; omega
    · obtain rfl : k = n := by omega
      have HF : Hid (y = 0) := Lib.hid (HE.out.symm.trans HZ.out)
      go_wp2_with fail
      go_ret
      exact ⟨ret_int HF.out.symm, HL.out⟩

set_option maxHeartbeats 800000 in
theorem rLook_any (v : Value) (l : List Ch.Span) (c : Int) (w : World) (h : SRow w v l) : Calls Tryz.prog 40 #[v, .int .i64 c] w fun e w' => e = .returned (.int .i64 (Ch.Look l c)) ∧ Lo w w' := by
  have HI := Lib.hid (fun W hW => ris_any v l W hW)
  have HR := Lib.hid h
  clear h
  unfold Ch.Look
  cases hl : Ch.isL l with
  | false =>
    rw [hl] at HI
    rw [if_neg (by simp)]
    clear hl
    go_enter Tryz.func40, Tryz.ntmps40
    go_wp2_with fail
    refine (HI.out _ HR.out).mono ?_
    rintro e w1 ⟨rfl, lo⟩
    have HL := Lib.hid lo
    clear lo HI
    go_wp2_with fail
    go_ret
    exact ⟨rfl, HL.out⟩
  | true =>
    have HK := Lib.hid (fun W hW => rlook_any v l c W hW hl)
    rw [hl] at HI
    rw [if_pos rfl]
    generalize Ch.look l c = y at *
    clear hl
    go_enter Tryz.func40, Tryz.ntmps40
    go_wp2_with fail
    refine (HI.out _ HR.out).mono ?_
    rintro e w1 ⟨rfl, lo⟩
    have HL := Lib.hid lo
    have HR := Lib.hid (RowK.lo HR.out lo)
    clear lo HI
    go_wp2_with fail
    refine (HK.out _ HR.out).mono ?_
    rintro e w2 ⟨rfl, lo⟩
    have HL := Lib.hid (HL.out.trans lo)
    clear lo HK
    go_wp2_with fail
    go_ret
    exact ⟨rfl, HL.out⟩
end Go.Proofs.YtppihpjcdieeoaaGreatDoor
/-
  Contracts of the document's PutSmall and PutTrimmed (layer 8). No conditions beyond those stated.
-/
namespace Ch
open Bn He
def smallTo (l : List Span) (k : Nat) : List UInt8 := [0, 0, 1, 6, 0, 0] ++ (List.range k).map fun c : Nat => UInt8.ofNat (look l (c : Int)).toNat
theorem smallTo_step (l : List Span) (k : Nat) : smallTo l (k + 1) = smallTo l k ++ [UInt8.ofNat (look l (k : Int)).toNat] := by
  unfold smallTo
  rw [List.range_succ, List.map_append, ← List.append_assoc]; rfl
theorem smallTo_len (l : List Span) (k : Nat) : (smallTo l k).length = 6 + k := by simp [smallTo]; omega
theorem small_wide {l : List Span} (h : isL l = true) (h1 : 0 ≤ (ends l).1 ∧ 255 < (ends l).2) : putSmall l = ([], 7) := by
  unfold putSmall
  rw [if_neg (by rw [h]; simp), if_pos h1]
theorem small_great {l : List Span} (h : isL l = true) (h1 : ¬ (0 ≤ (ends l).1 ∧ 255 < (ends l).2)) {k : Nat} (hk : k < 256) (h2 : 255 < look l (k : Int)) : putSmall l = ([], 7) := by
  unfold putSmall
  rw [if_neg (by rw [h]; simp), if_neg h1, if_pos]
  rw [List.any_eq_true]
  exact ⟨k, List.mem_range.2 hk, decide_eq_true h2⟩
theorem small_fit {l : List Span} (h : isL l = true) (h1 : ¬ (0 ≤ (ends l).1 ∧ 255 < (ends l).2)) (h2 : ∀ k : Nat, k < 256 → look l (k : Int) ≤ 255) : putSmall l = (smallTo l 256, 0) := by
  unfold putSmall
  rw [if_neg (by rw [h]; simp), if_neg h1, if_neg]
  · rfl
  · rw [Bool.not_eq_true, List.any_eq_false]
    intro k hk
    have := h2 k (List.mem_range.1 hk)
    rw [decide_eq_true_eq]; omega
def trimTo (l : List Span) (f : Int) (m k : Nat) : List UInt8 := [0, 6] ++ bytes (10 + 2 * (m : Int)) 2 ++ [0, 0] ++ bytes f 2 ++ bytes (m : Int) 2 ++ flat 2 ((List.range k).map fun i : Nat => look l (f + (i : Int)))
theorem trimTo_step (l : List Span) (f : Int) (m k : Nat) : trimTo l f m (k + 1) = trimTo l f m k ++ bytes (look l (f + (k : Int))) 2 := by
  unfold trimTo
  rw [List.range_succ, List.map_append, flat_append, ← List.append_assoc]
  congr 1
theorem trimTo_zero (l : List Span) (f : Int) (m : Nat) : trimTo l f m 0 = [0, 6] ++ bytes (10 + 2 * (m : Int)) 2 ++ [0, 0] ++ bytes f 2 ++ bytes (m : Int) 2 := by
  unfold trimTo
  exact List.append_nil _
theorem trimTo_len (l : List Span) (f : Int) (m k : Nat) : (trimTo l f m k).length = 10 + 2 * k := by
  unfold trimTo
  simp only [List.length_append, bytes_len, flat_len, List.length_map, List.length_range]
  rfl
theorem trimTo_all {l : List Span} {m : Nat} (h : count l = (m : Int)) : trimmed l = trimTo l (first l) m m := by
  unfold trimmed trimTo
  rw [h, Int.toNat_natCast]
end Ch
namespace Go.Proofs.YtppihpjcdieeoaaGreatDoor
open Go.RowKit

theorem cat5 (a b c : List UInt8) : ((((⟨#[0, 6]⟩ ++ ⟨a.toArray⟩) ++ ⟨#[0, 0]⟩) ++ ⟨b.toArray⟩) ++ ⟨c.toArray⟩ : ByteArray) = ⟨([0, 6] ++ a ++ [0, 0] ++ b ++ c).toArray⟩ := by
  rw [show (⟨#[0, 6]⟩ : ByteArray) = ⟨[0, 6].toArray⟩ from rfl, show (⟨#[0, 0]⟩ : ByteArray) = ⟨[0, 0].toArray⟩ from rfl, Gk.cat_list, Gk.cat_list, Gk.cat_list, Gk.cat_list]

set_option maxRecDepth 100000 in
set_option maxHeartbeats 3200000 in
theorem rputSmall_any (v : Value) (l : List Ch.Span) (w : World) (h : SRow w v l) : Calls Tryz.prog 73 #[v] w fun e w' => e = strErr (Ch.putSmall l) ∧ Lo w w' := by
  have HI := Lib.hid (fun W hW => ris_any v l W hW)
  have HR := Lib.hid h
  clear h
  unfold strErr
  cases hl : Ch.isL l with
  | false =>
    have HE := Lib.hid (Ch.put0_arg hl)
    rw [hl] at HI
    generalize Ch.putSmall l = y at *
    clear hl
    go_enter Tryz.func73, Tryz.ntmps73
    go_wp2_with fail
    refine (HI.out _ HR.out).mono ?_
    rintro e w1 ⟨rfl, lo⟩
    have HL := Lib.hid lo
    have HR := Lib.hid (RowK.lo HR.out lo)
    clear lo HI
    go_wp2_with fail
    go_ret2
    exact ⟨by rw [HE.out]; rfl, HL.out⟩
  | true =>
    have HN := Lib.hid (fun W hW => rends_any v l W hW hl)
    have HK := Lib.hid (fun (c : Int) (W : World) hW => rlook_any v l c W hW hl)
    have HLb := Lib.hid (fun (c : Int) => Ch.look_b hl c)
    have HW := Lib.hid (fun h1 => Ch.small_wide hl h1)
    have HG := Lib.hid (fun h1 (k : Nat) hk h2 => Ch.small_great hl h1 (k := k) hk h2)
    have HF := Lib.hid (fun h1 h2 => Ch.small_fit hl h1 h2)
    rw [hl] at HI
    clear hl
    generalize Ch.ends l = q at *
    obtain ⟨a, z⟩ := q
    dsimp only at HN HW HG HF
    generalize Ch.putSmall l = y at *
    by_cases c1 : 0 ≤ a
    · have had : decide (0 ≤ a) = true := decide_eq_true c1
      rw [had] at HN
      by_cases c2 : 255 < z
      · have HE := Lib.hid (HW.out ⟨c1, c2⟩)
        clear HG HF HW HK
        go_enter Tryz.func73, Tryz.ntmps73
        go_wp2_with fail
        refine (HI.out _ HR.out).mono ?_
        rintro e w1 ⟨rfl, lo⟩
        have HL := Lib.hid lo
        have HR := Lib.hid (RowK.lo HR.out lo)
        clear lo HI
        go_wp2_with fail
        refine (HN.out _ HR.out).mono ?_
        rintro e w2 ⟨rfl, lo⟩
        have HL := Lib.hid (HL.out.trans lo)
        have HR := Lib.hid (RowK.lo HR.out lo)
        clear lo HN
        go_wp2_with fail
        go_ret2
        exact ⟨by rw [HE.out]; rfl, HL.out⟩
      · have HG1 := Lib.hid (HG.out (fun h => c2 h.2))
        have HF1 := Lib.hid (HF.out (fun h => c2 h.2))
        clear HG HF HW
        go_enter Tryz.func73, Tryz.ntmps73
        go_wp2_with fail
        refine (HI.out _ HR.out).mono ?_
        rintro e w1 ⟨rfl, lo⟩
        have HL := Lib.hid lo
        have HR := Lib.hid (RowK.lo HR.out lo)
        clear lo HI
        go_wp2_with fail
        refine (HN.out _ HR.out).mono ?_
        rintro e w2 ⟨rfl, lo⟩
        have HL := Lib.hid (HL.out.trans lo)
        have HR := Lib.hid (RowK.lo HR.out lo)
        clear lo HN
        go_wp2_with fail
        go_loopw [7, 8, 9] (fun s7 s8 _ W => ∃ (k : Nat) (s : List UInt8), k ≤ 256 ∧ s8 = .int .i64 k ∧ s7 = .string ⟨s.toArray⟩ ∧ Hid (s = Ch.smallTo l k) ∧ Hid (∀ j : Nat, j < k → Ch.look l (j : Int) ≤ 255) ∧ Hid (Lo w W) ∧ Hid (SRow W v l)) (fun _ s8 _ _ => 256 - (intOf s8).toNat)
        case atStart => exact ⟨0, [0, 0, 1, 6, 0, 0], Nat.zero_le _, rfl, rfl, Lib.hid rfl, Lib.hid (fun j hj => absurd hj (Nat.not_lt_zero _)), HL, HR⟩
        case round =>
          obtain ⟨k, s, hk, rfl, rfl, HT, HSm, HL, HR⟩ := hrel
          by_cases hlt : k < 256
          · have HK1 := Lib.hid (HK.out (k : Int))
            have hb := HLb.out (k : Int)
            have HSt := Lib.hid (Ch.smallTo_step l k)
            have hsl : s.length ≤ 262 := by rw [HT.out, Ch.smallTo_len]; omega
            rw [← HT.out] at HSt
            have HG2 := Lib.hid (HG1.out k hlt)
            have HSm2 : Hid (Ch.look l (k : Int) ≤ 255 → ∀ j : Nat, j < k + 1 → Ch.look l (j : Int) ≤ 255) := Lib.hid (fun h j hj => by
              rcases Nat.lt_or_ge j k with h1 | h1
              · exact HSm.out j h1
              · obtain rfl : j = k := by omega
                exact h)
            clear HT
            generalize Ch.look l (k : Int) = g at *
            by_cases hg : 255 < g
            · have HE := Lib.hid (HG2.out hg)
              clear HG2 HSm2 HSt
              go_wp2_with fail
              refine (HK1.out _ HR.out).mono ?_
              rintro e w3 ⟨rfl, lo⟩
              have HL := Lib.hid (HL.out.trans lo)
              clear lo HK1
              go_wp2_with fail
              go_ret2
              exact ⟨by rw [HE.out]; rfl, HL.out⟩
            · have HSm3 := Lib.hid (HSm2.out (by omega))
              have hone : ∀ W : World, (convert 70 9 (.slice (some ⟨W.heap.size, 0, none⟩) 1 1)).run Tryz.prog (W.alloc (.cells #[.int .u8 (g % 256)] 5)) = .ok (.string ⟨[UInt8.ofNat g.toNat].toArray⟩) (W.alloc (.cells #[.int .u8 (g % 256)] 5)) := fun W => by
                have := one_byte W (g % 256) (by omega) (by omega)
                rw [show (g % 256).toNat = g.toNat by omega] at this
                exact this
              have hone2 : ∀ W : World, (convert 70 9 (.slice (some ⟨W.heap.size, 0, none⟩) 1 1)).run Tryz.prog (W.alloc (.cells #[.int .u8 g] 5)) = .ok (.string ⟨[UInt8.ofNat g.toNat].toArray⟩) (W.alloc (.cells #[.int .u8 g] 5)) := fun W => one_byte W g (by omega) (by omega)
              clear HG2 HSm2
              go_wp2_with fail
              refine (HK1.out _ HR.out).mono ?_
              rintro e w3 ⟨rfl, lo⟩
              have HL := Lib.hid (HL.out.trans lo)
              have HR := Lib.hid (RowK.lo HR.out lo)
              clear lo HK1
              go_wp2_with fail
              go_roundw
              case rel => exact ⟨k + 1, s ++ [UInt8.ofNat g.toNat], by omega, by go_num, congrArg Value.string (Gk.cat_list s [UInt8.ofNat g.toNat]), Lib.hid HSt.out.symm, HSm3, Lib.hid (HL.out.alloc _), Lib.hid (RowK.lo HR.out ((Lo.refl _).alloc _))⟩
              case measure => simp [intOf]; omega
          · obtain rfl : k = 256 := by omega
            have HE := Lib.hid (HF1.out HSm.out)
            rw [← HT.out] at HE
            go_wp2_with fail
            go_ret2
            exact ⟨by rw [HE.out]; rfl, HL.out⟩
    · have had : decide (0 ≤ a) = false := decide_eq_false c1
      rw [had] at HN
      have HG1 := Lib.hid (HG.out (fun h => c1 h.1))
      have HF1 := Lib.hid (HF.out (fun h => c1 h.1))
      clear HG HF HW
      go_enter Tryz.func73, Tryz.ntmps73
      go_wp2_with fail
      refine (HI.out _ HR.out).mono ?_
      rintro e w1 ⟨rfl, lo⟩
      have HL := Lib.hid lo
      have HR := Lib.hid (RowK.lo HR.out lo)
      clear lo HI
      go_wp2_with fail
      refine (HN.out _ HR.out).mono ?_
      rintro e w2 ⟨rfl, lo⟩
      have HL := Lib.hid (HL.out.trans lo)
      have HR := Lib.hid (RowK.lo HR.out lo)
      clear lo HN
      go_wp2_with fail
      go_loopw [7, 8, 9] (fun s7 s8 _ W => ∃ (k : Nat) (s : List UInt8), k ≤ 256 ∧ s8 = .int .i64 k ∧ s7 = .string ⟨s.toArray⟩ ∧ Hid (s = Ch.smallTo l k) ∧ Hid (∀ j : Nat, j < k → Ch.look l (j : Int) ≤ 255) ∧ Hid (Lo w W) ∧ Hid (SRow W v l)) (fun _ s8 _ _ => 256 - (intOf s8).toNat)
      case atStart => exact ⟨0, [0, 0, 1, 6, 0, 0], Nat.zero_le _, rfl, rfl, Lib.hid rfl, Lib.hid (fun j hj => absurd hj (Nat.not_lt_zero _)), HL, HR⟩
      case round =>
        obtain ⟨k, s, hk, rfl, rfl, HT, HSm, HL, HR⟩ := hrel
        by_cases hlt : k < 256
        · have HK1 := Lib.hid (HK.out (k : Int))
          have hb := HLb.out (k : Int)
          have HSt := Lib.hid (Ch.smallTo_step l k)
          have hsl : s.length ≤ 262 := by rw [HT.out, Ch.smallTo_len]; omega
          rw [← HT.out] at HSt
          have HG2 := Lib.hid (HG1.out k hlt)
          have HSm2 : Hid (Ch.look l (k : Int) ≤ 255 → ∀ j : Nat, j < k + 1 → Ch.look l (j : Int) ≤ 255) := Lib.hid (fun h j hj => by
            rcases Nat.lt_or_ge j k with h1 | h1
            · exact HSm.out j h1
            · obtain rfl : j = k := by omega
              exact h)
          clear HT
          generalize Ch.look l (k : Int) = g at *
          by_cases hg : 255 < g
          · have HE := Lib.hid (HG2.out hg)
            clear HG2 HSm2 HSt
            go_wp2_with fail
            refine (HK1.out _ HR.out).mono ?_
            rintro e w3 ⟨rfl, lo⟩
            have HL := Lib.hid (HL.out.trans lo)
            clear lo HK1
            go_wp2_with fail
            go_ret2
            exact ⟨by rw [HE.out]; rfl, HL.out⟩
          · have HSm3 := Lib.hid (HSm2.out (by omega))
            have hone : ∀ W : World, (convert 70 9 (.slice (some ⟨W.heap.size, 0, none⟩) 1 1)).run Tryz.prog (W.alloc (.cells #[.int .u8 (g % 256)] 5)) = .ok (.string ⟨[UInt8.ofNat g.toNat].toArray⟩) (W.alloc (.cells #[.int .u8 (g % 256)] 5)) := fun W => by
              have := one_byte W (g % 256) (by omega) (by omega)
              rw [show (g % 256).toNat = g.toNat by omega] at this
              exact this
            have hone2 : ∀ W : World, (convert 70 9 (.slice (some ⟨W.heap.size, 0, none⟩) 1 1)).run Tryz.prog (W.alloc (.cells #[.int .u8 g] 5)) = .ok (.string ⟨[UInt8.ofNat g.toNat].toArray⟩) (W.alloc (.cells #[.int .u8 g] 5)) := fun W => one_byte W g (by omega) (by omega)
            clear HG2 HSm2
            go_wp2_with fail
            refine (HK1.out _ HR.out).mono ?_
            rintro e w3 ⟨rfl, lo⟩
            have HL := Lib.hid (HL.out.trans lo)
            have HR := Lib.hid (RowK.lo HR.out lo)
            clear lo HK1
            go_wp2_with fail
            go_roundw
            case rel => exact ⟨k + 1, s ++ [UInt8.ofNat g.toNat], by omega, by go_num, congrArg Value.string (Gk.cat_list s [UInt8.ofNat g.toNat]), Lib.hid HSt.out.symm, HSm3, Lib.hid (HL.out.alloc _), Lib.hid (RowK.lo HR.out ((Lo.refl _).alloc _))⟩
            case measure => simp [intOf]; omega
        · obtain rfl : k = 256 := by omega
          have HE := Lib.hid (HF1.out HSm.out)
          rw [← HT.out] at HE
          go_wp2_with fail
          go_ret2
          exact ⟨by rw [HE.out]; rfl, HL.out⟩

set_option maxRecDepth 100000 in
set_option maxHeartbeats 6400000 in
theorem rputTrimmed_any (v : Value) (l : List Ch.Span) (w : World) (h : SRow w v l) : Calls Tryz.prog 74 #[v] w fun e w' => e = strErr (Ch.putTrimmed l) ∧ Lo w w' := by
  have HI := Lib.hid (fun W hW => ris_any v l W hW)
  have HR := Lib.hid h
  clear h
  unfold strErr
  cases hl : Ch.isL l with
  | false =>
    have HE := Lib.hid (Ch.put6_arg hl)
    rw [hl] at HI
    generalize Ch.putTrimmed l = y at *
    clear hl
    go_enter Tryz.func74, Tryz.ntmps74
    go_wp2_with fail
    refine (HI.out _ HR.out).mono ?_
    rintro e w1 ⟨rfl, lo⟩
    have HL := Lib.hid lo
    have HR := Lib.hid (RowK.lo HR.out lo)
    clear lo HI
    go_wp2_with fail
    go_ret2
    exact ⟨by rw [HE.out]; rfl, HL.out⟩
  | true =>
    have HN := Lib.hid (fun W hW => rends_any v l W hW hl)
    have HK := Lib.hid (fun (c : Int) (W : World) hW => rlook_any v l c W hW hl)
    have HLb := Lib.hid (fun (c : Int) => Ch.look_b hl c)
    have HLg := Lib.hid (fun h1 => Ch.put6_long hl h1)
    have HRt := Lib.hid (fun h1 => Ch.put6_right hl h1)
    have HTr := Lib.hid (fun (m : Nat) h1 => Ch.trimTo_all (l := l) (m := m) h1)
    have HBy := Lib.hid (fun (x : Int) (W : World) (h0 : 0 ≤ x) (h1 : x ≤ 65535) => rbytes_any x 2 W (by decide) (He.fits2 h0 h1))
    rw [show (2 : Int).natAbs = 2 from rfl] at HBy
    rw [hl] at HI
    have hsp := (Ch.ends_spec hl).1
    by_cases c1 : 0 ≤ (Ch.ends l).1
    · have hf : Ch.first l = (Ch.ends l).1 := by unfold Ch.first; rw [if_pos c1]
      have hc : Ch.count l = (Ch.ends l).2 - (Ch.ends l).1 + 1 := by unfold Ch.count; rw [if_pos c1]
      obtain ⟨p1, p2⟩ := hsp c1
      rw [hf, hc] at HLg HRt
      rw [hc, hf] at HTr
      clear hl hsp hf hc
      generalize Ch.trimmed l = tr at *
      generalize Ch.ends l = q at *
      obtain ⟨a, z⟩ := q
      dsimp only at *
      have had : decide (0 ≤ a) = true := decide_eq_true c1
      rw [had] at HN
      generalize Ch.putTrimmed l = y at *
      by_cases c2 : 65535 < z
      · have HE := Lib.hid (HLg.out (.inl (by omega)))
        clear HLg HRt HTr HBy HK
        go_enter Tryz.func74, Tryz.ntmps74
        go_wp2_with fail
        refine (HI.out _ HR.out).mono ?_
        rintro e w1 ⟨rfl, lo⟩
        have HL := Lib.hid lo
        have HR := Lib.hid (RowK.lo HR.out lo)
        clear lo HI
        go_wp2_with fail
        refine (HN.out _ HR.out).mono ?_
        rintro e w2 ⟨rfl, lo⟩
        have HL := Lib.hid (HL.out.trans lo)
        have HR := Lib.hid (RowK.lo HR.out lo)
        clear lo HN
        go_wp2_with fail
        go_ret2
        exact ⟨by rw [HE.out]; rfl, HL.out⟩
      · by_cases c3 : 32762 < z - a + 1
        · have HE := Lib.hid (HLg.out (.inr c3))
          clear HLg HRt HTr HBy HK
          go_enter Tryz.func74, Tryz.ntmps74
          go_wp2_with fail
          refine (HI.out _ HR.out).mono ?_
          rintro e w1 ⟨rfl, lo⟩
          have HL := Lib.hid lo
          have HR := Lib.hid (RowK.lo HR.out lo)
          clear lo HI
          go_wp2_with fail
          refine (HN.out _ HR.out).mono ?_
          rintro e w2 ⟨rfl, lo⟩
          have HL := Lib.hid (HL.out.trans lo)
          have HR := Lib.hid (RowK.lo HR.out lo)
          clear lo HN
          go_wp2_with fail
          go_ret2
          exact ⟨by rw [HE.out]; rfl, HL.out⟩
        · have HE := Lib.hid (HRt.out (by omega))
          obtain ⟨m, hm⟩ := Int.eq_ofNat_of_zero_le (show 0 ≤ z - a + 1 by omega)
          have HTr1 := Lib.hid (HTr.out m hm)
          rw [HTr1.out] at HE
          obtain rfl : z = a + (m : Int) - 1 := by omega
          have hm2 : a + (m : Int) - 1 - a + 1 = (m : Int) := by omega
          clear HLg HRt HTr HTr1
          have HB1 := Lib.hid (fun W => HBy.out (10 + 2 * (m : Int)) W (by omega) (by omega))
          have HB2 := Lib.hid (fun W => HBy.out a W (by omega) (by omega))
          have HB3 := Lib.hid (fun W => HBy.out (m : Int) W (by omega) (by omega))
          have HT0 := Lib.hid (Ch.trimTo_zero l a m).symm
          have l1 := Bn.bytes_len (10 + 2 * (m : Int)) 2
          have l2 := Bn.bytes_len a 2
          have l3 := Bn.bytes_len (m : Int) 2
          generalize Bn.bytes (10 + 2 * (m : Int)) 2 = b1 at *
          generalize Bn.bytes a 2 = b2 at *
          generalize Bn.bytes (m : Int) 2 = b3 at *
          go_enter Tryz.func74, Tryz.ntmps74
          go_wp2_with fail
          refine (HI.out _ HR.out).mono ?_
          rintro e w1 ⟨rfl, lo⟩
          have HL := Lib.hid lo
          have HR := Lib.hid (RowK.lo HR.out lo)
          clear lo HI
          go_wp2_with fail
          refine (HN.out _ HR.out).mono ?_
          rintro e w2 ⟨rfl, lo⟩
          have HL := Lib.hid (HL.out.trans lo)
          have HR := Lib.hid (RowK.lo HR.out lo)
          clear lo HN
          go_wp2_with fail
          refine (HB1.out _).mono ?_
          rintro e w3 ⟨rfl, lo⟩
          have HL := Lib.hid (HL.out.trans lo)
          have HR := Lib.hid (RowK.lo HR.out lo)
          clear lo HB1
          go_wp2_with fail
          refine (HB2.out _).mono ?_
          rintro e w4 ⟨rfl, lo⟩
          have HL := Lib.hid (HL.out.trans lo)
          have HR := Lib.hid (RowK.lo HR.out lo)
          clear lo HB2
          go_wp2_with fail
          refine (HB3.out _).mono ?_
          rintro e w5 ⟨rfl, lo⟩
          have HL := Lib.hid (HL.out.trans lo)
          have HR := Lib.hid (RowK.lo HR.out lo)
          clear lo HB3
          go_wp2_with fail
          go_loopw [8, 9] (fun s8 s9 W => ∃ (k : Nat) (s : List UInt8), k ≤ m ∧ s9 = .int .i64 k ∧ s8 = .string ⟨s.toArray⟩ ∧ Hid (s = Ch.trimTo l a m k) ∧ Hid (Lo w W) ∧ Hid (SRow W v l)) (fun _ s9 _ => m - (intOf s9).toNat)
          case atStart => exact ⟨0, _, Nat.zero_le _, rfl, congrArg Value.string (cat5 b1 b2 b3), HT0, HL, HR⟩
          case round =>
            obtain ⟨k, s, hk, rfl, rfl, HT, HL, HR⟩ := hrel
            by_cases hlt : k < m
            · have HK1 := Lib.hid (HK.out (a + (k : Int)))
              have hb := HLb.out (a + (k : Int))
              have HSt := Lib.hid (Ch.trimTo_step l a m k)
              have hsl : s.length ≤ 70000 := by rw [HT.out, Ch.trimTo_len]; omega
              rw [← HT.out] at HSt
              clear HT
              generalize Ch.look l (a + (k : Int)) = g at *
              have HB4 := Lib.hid (fun W => HBy.out g W hb.1 hb.2)
              have h4 := Bn.bytes_len g 2
              generalize Bn.bytes g 2 = b4 at *
              go_wp2_with fail
              refine (HK1.out _ HR.out).mono ?_
              rintro e w6 ⟨rfl, lo⟩
              have HL := Lib.hid (HL.out.trans lo)
              have HR := Lib.hid (RowK.lo HR.out lo)
              clear lo HK1
              go_wp2_with fail
              refine (HB4.out _).mono ?_
              rintro e w7 ⟨rfl, lo⟩
              have HL := Lib.hid (HL.out.trans lo)
              have HR := Lib.hid (RowK.lo HR.out lo)
              clear lo HB4
              go_wp2_with fail
              go_roundw
              case rel => exact ⟨k + 1, s ++ b4, by omega, by go_num, congrArg Value.string (Gk.cat_list s b4), Lib.hid HSt.out.symm, HL, HR⟩
              case measure => simp [intOf]; omega
            · obtain rfl : k = m := by omega
              rw [← HT.out] at HE
              go_wp2_with fail
              go_ret2
              exact ⟨by rw [HE.out]; rfl, HL.out⟩
    · have hf : Ch.first l = 0 := by unfold Ch.first; rw [if_neg c1]
      have hc : Ch.count l = ((0 : Nat) : Int) := by unfold Ch.count; rw [if_neg c1]; rfl
      have HE := Lib.hid (HRt.out (by rw [hf, hc]; omega))
      have HTr1 := Lib.hid (HTr.out 0 hc)
      rw [hf] at HTr1
      rw [HTr1.out] at HE
      obtain ⟨m, hm⟩ : ∃ m : Nat, m = 0 := ⟨0, rfl⟩
      rw [← hm] at HE
      clear hl hsp hf hc HTr1 HTr HRt HLg
      generalize Ch.ends l = q at *
      obtain ⟨a, z⟩ := q
      dsimp only at *
      have had : decide (0 ≤ a) = false := decide_eq_false c1
      rw [had] at HN
      generalize Ch.putTrimmed l = y at *
      subst hm
      have HB1 := Lib.hid (fun W => HBy.out (10 + 2 * ((0 : Nat) : Int)) W (by omega) (by omega))
      have HB2 := Lib.hid (fun W => HBy.out 0 W (by omega) (by omega))
      have HB3 := Lib.hid (fun W => HBy.out (0 : Int) W (by omega) (by omega))
      have HT0 : Hid ([0, 6] ++ Bn.bytes (10 + 2 * ((0 : Nat) : Int)) 2 ++ [0, 0] ++ Bn.bytes 0 2 ++ Bn.bytes 0 2 = Ch.trimTo l 0 0 0) := Lib.hid (Ch.trimTo_zero l 0 0).symm
      have l1 := Bn.bytes_len (10 + 2 * ((0 : Nat) : Int)) 2
      have l2 := Bn.bytes_len 0 2
      generalize Bn.bytes (10 + 2 * ((0 : Nat) : Int)) 2 = b1 at *
      generalize Bn.bytes 0 2 = b2 at *
      go_enter Tryz.func74, Tryz.ntmps74
      go_wp2_with fail
      refine (HI.out _ HR.out).mono ?_
      rintro e w1 ⟨rfl, lo⟩
      have HL := Lib.hid lo
      have HR := Lib.hid (RowK.lo HR.out lo)
      clear lo HI
      go_wp2_with fail
      refine (HN.out _ HR.out).mono ?_
      rintro e w2 ⟨rfl, lo⟩
      have HL := Lib.hid (HL.out.trans lo)
      have HR := Lib.hid (RowK.lo HR.out lo)
      clear lo HN
      go_wp2_with fail
      refine (HB1.out _).mono ?_
      rintro e w3 ⟨rfl, lo⟩
      have HL := Lib.hid (HL.out.trans lo)
      have HR := Lib.hid (RowK.lo HR.out lo)
      clear lo HB1
      go_wp2_with fail
      refine (HB2.out _).mono ?_
      rintro e w4 ⟨rfl, lo⟩
      have HL := Lib.hid (HL.out.trans lo)
      have HR := Lib.hid (RowK.lo HR.out lo)
      clear lo HB2
      go_wp2_with fail
      refine (HB3.out _).mono ?_
      rintro e w5 ⟨rfl, lo⟩
      have HL := Lib.hid (HL.out.trans lo)
      have HR := Lib.hid (RowK.lo HR.out lo)
      clear lo HB3
      go_wp2_with fail
      go_loopw [8, 9] (fun s8 s9 W => ∃ (k : Nat) (s : List UInt8), k ≤ 0 ∧ s9 = .int .i64 k ∧ s8 = .string ⟨s.toArray⟩ ∧ Hid (s = Ch.trimTo l 0 0 k) ∧ Hid (Lo w W) ∧ Hid (SRow W v l)) (fun _ s9 _ => 0 - (intOf s9).toNat)
      case atStart => exact ⟨0, _, Nat.zero_le _, rfl, congrArg Value.string (cat5 b1 b2 b2), HT0, HL, HR⟩
      case round =>
        obtain ⟨k, s, hk, rfl, rfl, HT, HL, HR⟩ := hrel
        by_cases hlt : k < 0
        · exact absurd hlt (Nat.not_lt_zero _)
        · obtain rfl : k = 0 := by omega
          rw [← HT.out] at HE
          go_wp2_with fail
          go_ret2
          exact ⟨by rw [HE.out]; rfl, HL.out⟩
end Go.Proofs.YtppihpjcdieeoaaGreatDoor
