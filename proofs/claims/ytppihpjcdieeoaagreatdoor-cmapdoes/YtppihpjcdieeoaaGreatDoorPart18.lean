/-
  Facts that the walks rest on: ChUsed, ChConcat, ChLay, ChArr, BnBuilder. No conditions beyond those stated.
-/
import Derived.Test.YtppihpjcdieeoaaGreatDoorPart10
import Derived.Test.YtppihpjcdieeoaaGreatDoorPart17
import Derived.Test.YtppihpjcdieeoaaGreatDoorPart04
import Derived.Test.YtppihpjcdieeoaaGreatDoorGround
import Derived.Test.YtppihpjcdieeoaaGreatDoorPart02
import Derived.Lib.AppendZeros
import Derived.Lib.AppendZerosOnto
import Derived.Lib.SliceRun
import Derived.Lib.MinMax
import Derived.Shelf.Strings.Builder1
import Derived.Shelf.Strings.BuilderK
import Derived.Test.YtppihpjcdieeoaaGreatDoorProg
/-
  Contracts of chart.used, of slices.IndexFunc and slices.ContainsFunc of spans, and of chart.trimmed. No conditions beyond those stated.
-/
namespace Go.Proofs.YtppihpjcdieeoaaGreatDoor
open Go.RowKit

set_option maxHeartbeats 1600000 in
theorem used_any (v : Value) (l : List Ch.Span) (w : World) (h : SRow w v l) (hl : Ch.isL l = true) : Calls Tryz.prog 83 #[v] w (GotSpans (Ch.used l) w) := by
  obtain ⟨p, c, rfl, hlen⟩ := RowK.form h
  have HR := Lib.hid h
  have hm := (Ch.isL_chain hl).2
  have HM := Lib.hid (fun (i : Nat) (hi : i < l.length) (W : World) => isUsed_any (Ch.chain_mem (Ch.isL_chain hl).1 _ (Ch.getD_mem hi)).1 W)
  have HSt := Lib.hid (fun (k : Nat) (h : k < l.length) => Ch.used_step h)
  have HLe : Hid (∀ k, (Ch.used (l.take k)).length ≤ k) := Lib.hid (fun k => Nat.le_trans (Ch.used_len _) (List.length_take_le _ _))
  have HAll : Hid (l.take l.length = l) := Lib.hid List.take_length
  generalize hnn : l.length = n at *
  have HN := Lib.hid hnn
  clear hnn h hl
  unfold GotSpans
  unfold aggS at HM
  go_enter Tryz.func83, Tryz.ntmps83
  go_wp2_with fail
  go_loopw [3, 5, 8] (fun s3 _ s8 W => ∃ (k : Nat) (L : List Ch.Span) (q : Option Addr) (d : Nat), k ≤ n ∧ s8 = .int .i64 k ∧ s3 = .slice q L.length d ∧ Hid (L = Ch.used (l.take k)) ∧ Hid (OwnK encS 66 4 W w.heap.size (.slice q L.length d) L) ∧ Hid (Lo w W)) (fun _ _ s8 _ => n - (intOf s8).toNat)
  case atStart => exact ⟨0, [], none, 0, Nat.zero_le _, rfl, rfl, Lib.hid rfl, Lib.hid (OwnK.none _ _ _ _ _), Lib.hid (Lo.refl _)⟩
  case round =>
    obtain ⟨k, L, q, d, hk, rfl, rfl, HT, HO, HL⟩ := hrel
    by_cases hlt : k < n
    · have hk' : k < l.length := by rw [HN.out]; exact hlt
      obtain ⟨b, off, rfl, r0, r1, r2, r3⟩ := SRow.at4 (RowK.lo HR.out HL.out) (Ch.getD_some hk')
      clear hk'
      have HM1 := Lib.hid (HM.out k hlt)
      have HS1 := Lib.hid (HSt.out k hlt)
      have HLk : Hid (L.length ≤ k) := Lib.hid (by rw [HT.out]; exact HLe.out k)
      rw [← HT.out] at HS1
      generalize l.getD k Ch.zs = x at *
      cases hu : Ch.isUsed x with
      | false =>
        have HT2 : Hid (L = Ch.used (l.take (k + 1))) := Lib.hid (by rw [HS1.out, hu, if_neg (by simp), List.append_nil])
        rw [hu] at HM1
        clear hu HS1 HT
        go_wp2_with fail
        refine (HM1.out _).mono ?_
        rintro e w3 ⟨rfl, lo⟩
        have HL3 := Lib.hid ((HL.out.alloc _).trans lo)
        have HO3 := Lib.hid (OwnK.lo HO.out (((Lo.refl _).alloc _).trans lo))
        clear lo HM1 r0 r1 r2 r3
        go_wp2_with fail
        go_roundw
        case rel => exact ⟨k + 1, L, q, d, by omega, by go_num, rfl, HT2, HO3, HL3⟩
        case measure => simp [intOf]; omega
      | true =>
        have HT2 : Hid (L ++ [x] = Ch.used (l.take (k + 1))) := Lib.hid (by rw [HS1.out, hu, if_pos rfl])
        rw [hu] at HM1
        clear hu HS1 HT
        go_wp2_with fail
        refine (HM1.out _).mono ?_
        rintro e w3 ⟨rfl, lo⟩
        have HL3 := Lib.hid ((HL.out.alloc _).trans lo)
        have HO3 := Lib.hid (OwnK.lo HO.out (((Lo.refl _).alloc _).trans lo))
        have HSZ := Lib.hid HL3.out.size
        obtain ⟨⟨s0, s1, s2, s3⟩, _⟩ := four_at (lo_block lo (new_block _ _))
        clear lo HM1 r0 r1 r2 r3
        go_wp2_with (at_builtin; refine wpList_appK _ rfl (.tmp 14) (.tmp 16) _ rfl 66 4 32 _ Tryz.underlying98 span_info rfl (by omega) (by omega) encS_len encS_one w.heap.size (.slice q L.length d) L rfl (OwnK.lo HO3.out ((Lo.refl _).alloc _)) _ [x] rfl (srow1 _ _ rfl x _) (by have := HLk.out; simp; omega) (by have := HSZ.out; simp; omega) ?_; intro q1 d1 w4 hown hlo; have HO4 := Lib.hid hown; have HL4 := Lib.hid (hlo w (HL3.out.alloc _) (Nat.le_refl _)); clear hown hlo)
        go_roundw
        case rel => exact ⟨k + 1, L ++ [x], q1, d1, by omega, by go_num, by simp, HT2, by simpa using HO4, HL4⟩
        case measure => simp [intOf]; omega
    · obtain rfl : k = n := by omega
      have HE : Hid (L = Ch.used l) := Lib.hid (by rw [HT.out, HAll.out])
      go_wp2_with fail
      go_ret
      exact ⟨q, d, by rw [← HE.out]; rfl, by rw [← HE.out]; exact OwnK.row encS_len HO.out, HL.out⟩

theorem any_upto {l : List Ch.Span} {k : Nat} (h : k < l.length) : (l.take (k + 1)).any Ch.leaves = ((l.take k).any Ch.leaves || Ch.leaves (l.getD k Ch.zs)) := by
  rw [Ch.take_snoc h, List.any_append]; simp
theorem any_yes {l : List Ch.Span} {k : Nat} (h : k < l.length) (hx : Ch.leaves (l.getD k Ch.zs) = true) : l.any Ch.leaves = true := List.any_eq_true.2 ⟨_, Ch.getD_mem h, hx⟩

set_option maxHeartbeats 1600000 in
/-- slices.IndexFunc, by span.leavesSmall: below 0 where no span leaves. -/
theorem index_any (v : Value) (l : List Ch.Span) (w : World) (h : SRow w v l) (hok : ∀ x ∈ l, Ch.okSpan x = true) :
    Calls Tryz.prog 117 #[v, .func (.func 85) #[] #[]] w fun e w' => ∃ k : Int, e = .returned (.int .i64 k) ∧ decide (0 ≤ k) = l.any Ch.leaves ∧ Lo w w' := by
  obtain ⟨p, c, rfl, hlen⟩ := RowK.form h
  have HR := Lib.hid h
  have HM := Lib.hid (fun (i : Nat) (hi : i < l.length) (W : World) => leaves_any (hok _ (Ch.getD_mem hi)) W)
  have HSt := Lib.hid (fun (k : Nat) (h : k < l.length) => any_upto h)
  have HY := Lib.hid (fun (k : Nat) (h : k < l.length) hx => any_yes h hx)
  have HAll : Hid ((l.take l.length).any Ch.leaves = l.any Ch.leaves) := Lib.hid (by rw [List.take_length])
  generalize l.any Ch.leaves = y at *
  generalize hnn : l.length = n at *
  have HN := Lib.hid hnn
  clear hnn h hok
  unfold aggS at HM
  go_enter Tryz.func117, Tryz.ntmps117
  go_wp2_with fail
  go_loopw [5, 8] (fun _ s8 W => ∃ (k : Nat), k ≤ n ∧ s8 = .int .i64 k ∧ Hid ((l.take k).any Ch.leaves = false) ∧ Hid (Lo w W)) (fun _ s8 _ => n - (intOf s8).toNat)
  case atStart => exact ⟨0, Nat.zero_le _, rfl, Lib.hid rfl, Lib.hid (Lo.refl _)⟩
  case round =>
    obtain ⟨k, hk, rfl, HA, HL⟩ := hrel
    by_cases hlt : k < n
    · have hk' : k < l.length := by rw [HN.out]; exact hlt
      obtain ⟨b, off, rfl, r0, r1, r2, r3⟩ := SRow.at4 (RowK.lo HR.out HL.out) (Ch.getD_some hk')
      clear hk'
      have HM1 := Lib.hid (HM.out k hlt)
      have HS1 := Lib.hid (HSt.out k hlt)
      have HY1 := Lib.hid (HY.out k hlt)
      generalize l.getD k Ch.zs = x at *
      cases hu : Ch.leaves x with
      | false =>
        have HA2 : Hid ((l.take (k + 1)).any Ch.leaves = false) := Lib.hid (by rw [HS1.out, HA.out, hu]; rfl)
        rw [hu] at HM1
        clear hu HS1 HY1
        go_wp2_with fail
        refine (HM1.out _).mono ?_
        rintro e w3 ⟨rfl, lo⟩
        have HL3 := Lib.hid (HL.out.trans lo)
        clear lo HM1 r0 r1 r2 r3
        go_wp2_with fail
        go_roundw
        case rel => exact ⟨k + 1, by omega, by go_num, HA2, HL3⟩
        case measure => simp [intOf]; omega
      | true =>
        have HE := Lib.hid (HY1.out hu)
        rw [hu] at HM1
        clear hu HS1 HY1
        go_wp2_with fail
        refine (HM1.out _).mono ?_
        rintro e w3 ⟨rfl, lo⟩
        have HL3 := Lib.hid (HL.out.trans lo)
        clear lo HM1 r0 r1 r2 r3
        go_wp2_with fail
        go_ret
        exact ⟨_, rfl, by rw [HE.out]; simp, HL3.out⟩
    · obtain rfl : k = n := by omega
      have HE : Hid (y = false) := Lib.hid (by rw [← HAll.out, HA.out])
      go_wp2_with fail
      go_ret
      exact ⟨_, rfl, by rw [HE.out]; simp, HL.out⟩

set_option maxHeartbeats 400000 in
theorem contains_any (v : Value) (l : List Ch.Span) (w : World) (h : SRow w v l) (hok : ∀ x ∈ l, Ch.okSpan x = true) :
    Calls Tryz.prog 84 #[v, .func (.func 85) #[] #[]] w fun e w' => e = .returned (.bool (l.any Ch.leaves)) ∧ Lo w w' := by
  have HI := Lib.hid (index_any v l w h hok)
  clear h
  generalize l.any Ch.leaves = y at *
  go_enter Tryz.func84, Tryz.ntmps84
  go_wp2_with fail
  refine HI.out.mono ?_
  rintro e w1 ⟨k, rfl, hk, lo⟩
  have HK := Lib.hid hk
  have HL := Lib.hid lo
  clear hk lo HI
  go_wp2_with fail
  go_ret
  exact ⟨ret_bool HK.out, HL.out⟩

set_option maxHeartbeats 800000 in
theorem trimmed_any (v : Value) (l : List Ch.Span) (w : World) (h : SRow w v (Ch.used l)) (hl : Ch.isL l = true) :
    Calls Tryz.prog 97 #[v] w fun e w' => e = .returned (.tuple #[.int .i64 (Ch.first l), .int .i64 (Ch.count l)]) ∧ Lo w w' := by
  obtain ⟨t1, t2⟩ := Ch.trim hl
  have hin := fun (i : Nat) (hi : i < (Ch.used l).length) => Ch.getD_mem hi
  have hok : ∀ x ∈ Ch.used l, Ch.okSpan x = true ∧ Ch.isUsed x = true := fun x hx => ⟨(Ch.chain_mem (Ch.isL_chain hl).1 x (Ch.used_mem hx).1).1, (Ch.used_mem hx).2⟩
  obtain ⟨p, c, rfl, hlen⟩ := RowK.form h
  have HR := Lib.hid h
  have HF1 := Lib.hid t1
  have HF2 := Lib.hid t2
  have hb : (Ch.used l).length ≤ 65536 := Nat.le_trans (Ch.used_len l) (Ch.isL_chain hl).2
  generalize Ch.first l = a at *
  generalize Ch.count l = m at *
  generalize Ch.used l = k at *
  clear t1 t2 h hl
  by_cases h0 : k.length = 0
  · have HE := Lib.hid (HF1.out h0)
    rw [h0] at *
    clear HF1 HF2
    go_enter Tryz.func97, Tryz.ntmps97
    go_wp2_with fail
    go_ret2
    exact ⟨by rw [HE.out.1, HE.out.2]; rfl, Lo.refl _⟩
  · obtain ⟨h1, h2⟩ := HF2.out h0
    have o0 := hok _ (hin 0 (by omega))
    have o1 := hok _ (hin (k.length - 1) (by omega))
    obtain ⟨b, off, rfl, r0, r1, r2, r3⟩ := SRow.at4 HR.out (Ch.getD_some (show 0 < k.length by omega))
    obtain ⟨b', off', e', _, q1, _, _⟩ := SRow.at4 HR.out (Ch.getD_some (show k.length - 1 < k.length by omega))
    simp only [Option.some.injEq, Addr.mk.injEq, and_true] at e'
    obtain ⟨rfl, rfl⟩ := e'
    have HS := Lib.hid (fun W => start_any o0.1 W)
    have hs := Ch.start_bound o0.1 o0.2
    have hs1 := (Ch.okSpan_iff _).1 o0.1
    have hs2 := (Ch.okSpan_iff _).1 o1.1
    have HB : Hid (b < w.heap.size) := Lib.hid (World.block_lt_of_cell? w _ r0)
    unfold aggS at HS
    subst h1 h2
    generalize Ch.start (k.getD 0 Ch.zs) = a at *
    generalize k.getD 0 Ch.zs = x at *
    have hidx : ((k.length : Int) - 1).toNat = k.length - 1 := by omega
    generalize k.getD (k.length - 1) Ch.zs = y at *
    obtain ⟨n, hn⟩ : ∃ n, k.length = n + 1 := ⟨k.length - 1, by omega⟩
    rw [hn] at q1 hlen hb h0 ⊢
    clear hidx HF1 HF2 hok hin o0 o1 HR hn
    obtain ⟨_, _, hx3, _⟩ := hs1
    obtain ⟨_, hy2, hy3, _⟩ := hs2
    rw [Nat.add_sub_cancel] at q1
    simp only [Nat.zero_mul, Nat.add_zero] at r0 r1 r2 r3
    go_enter Tryz.func97, Tryz.ntmps97
    go_wp2_with fail
    refine (HS.out _).mono ?_
    rintro e w1 ⟨rfl, lo⟩
    have HL := Lib.hid lo
    have q1' : w1.cell? ⟨b, off + n * 4 + 1, none⟩ = some (.int .i64 y.to) := (lo.cell HB.out).trans q1
    clear lo HS r0 r1 r2 r3 q1
    go_wp2_with fail
    go_quiet (fail)
    have HL := Lib.hid (HL.out.drewN nq)
    go_wp2_with fail
    go_ret2
    exact ⟨rfl, HL.out⟩
end Go.Proofs.YtppihpjcdieeoaaGreatDoor
/-
  Contracts of slices.Grow (of nil) and slices.Concat (of two rows of numbers). No conditions beyond those stated.
-/
namespace Go.Proofs.YtppihpjcdieeoaaGreatDoor
open Go.RowKit

theorem zeros_size (n : Nat) : (Builtin.zeroCells #[Value.int .i64 0] n).size = n := by
  unfold Builtin.zeroCells
  simp
set_option maxRecDepth 100000 in
set_option maxHeartbeats 1600000 in
theorem grow_any (n : Nat) (w : World) (hn : n ≤ 1000000) :
    Calls Tryz.prog 139 #[.slice none 0 0, .int .i64 (n : Int)] w fun e w' => ∃ p c, e = .returned (.slice p 0 c) ∧ Own w' w.heap.size (.slice p 0 c) [] ∧ Lo w w' := by
  by_cases h0 : n = 0
  · subst h0
    go_enter Tryz.func139, Tryz.ntmps139
    go_wp2_with fail
    go_ret
    exact ⟨none, 0, rfl, Own.none _ _, Lo.refl _⟩
  · obtain ⟨i0, hi0, hz0, hz1, hz2⟩ := info_parts int_info
    have hrz : ∀ ty, (Builtin.append_ #[52, 3] ty #[.slice none 0 0, .int .i64 (n : Int)]).run Tryz.prog w =
        .ok (.slice (some ⟨w.heap.size, 0, none⟩) n (grownCap w n 0 3)) (w.drew.alloc (.cells (Builtin.zeroCells (Value.int .i64 0).cells n ++ Builtin.zeroCells (Value.int .i64 0).cells (grownCap w n 0 3 - n)) 3)) := fun ty =>
      Lib.run_append_nil_zeros w 52 3 ty 3 i0 _ .i64 .i64 Tryz.underlying52 Tryz.underlying3 hi0 hz0 n (by omega) (by omega) (by omega) (by rw [hz2]; omega)
    have hge : n ≤ grownCap w n 0 3 := grownCap_ge w _ _ _
    have hle : grownCap w n 0 3 ≤ 9223372036854775807 := by
      have := grownCap_le_maxLen w n 0 3 (by unfold maxLen; omega)
      unfold maxLen at this
      omega
    have hle2 := grownCap_le_maxLen w n 0 3 (by unfold maxLen; omega)
    rw [show (Value.int .i64 0).cells = #[Value.int .i64 0] from rfl] at hrz
    generalize grownCap w n 0 3 = G at *
    have HO : Hid (Own (w.drew.alloc (.cells (Builtin.zeroCells #[Value.int .i64 0] n ++ Builtin.zeroCells #[Value.int .i64 0] (G - n)) 3)) w.heap.size (.slice (some ⟨w.heap.size, 0, none⟩) 0 G) []) := Lib.hid (by
      refine ⟨rfl, .inr ⟨w.heap.size, G, _, rfl, Nat.le_refl _, new_block w.drew _, Nat.zero_le _, hle2, ?_, by simp⟩⟩
      rw [Array.size_append, zeros_size, zeros_size]; omega)
    have HL : Hid (Lo w (w.drew.alloc (.cells (Builtin.zeroCells #[Value.int .i64 0] n ++ Builtin.zeroCells #[Value.int .i64 0] (G - n)) 3))) := Lib.hid (((Lo.refl w).drew).alloc _)
    generalize (Builtin.zeroCells #[Value.int .i64 0] n ++ Builtin.zeroCells #[Value.int .i64 0] (G - n)) = cs at *
    have h1 : 0 < (n : Int) := by omega
    go_enter Tryz.func139, Tryz.ntmps139
    go_wp2_with (at_builtin; refine Lib.wpList_append_run _ rfl _ _ _ _ rfl _ _ rfl rfl _ _ (hrz _) ?_)
    all_goals
      go_ret
      exact ⟨_, _, rfl, HO.out, HL.out⟩

/-- The first k of two rows, behind one another. -/
def upTo (a b : List Int) (k : Nat) : List Int := if k = 0 then [] else if k = 1 then a else a ++ b

set_option maxRecDepth 100000 in
set_option maxHeartbeats 3200000 in
theorem concat_any (a b : List Int) (va vb : Value) (B : Nat) (w : World) (hc0 : w.cell? ⟨B, 0, none⟩ = some va) (hc1 : w.cell? ⟨B, 1, none⟩ = some vb) (ha : Row w va a) (hb : Row w vb b) (hn : a.length + b.length ≤ 500000) :
    Calls Tryz.prog 118 #[.slice (some ⟨B, 0, none⟩) 2 2] w fun e w' => ∃ p c, e = .returned (.slice p (a.length + b.length) c) ∧ Row w' (.slice p (a.length + b.length) c) (a ++ b) ∧ Lo w w' := by
  obtain ⟨pa, ca, rfl, _⟩ := ha.form
  obtain ⟨pb, cb, rfl, _⟩ := hb.form
  have HA := Lib.hid ha
  have HB := Lib.hid hb
  have HBl : Hid (B < w.heap.size) := Lib.hid (World.block_lt_of_cell? w _ hc0)
  have HG := Lib.hid (fun (W : World) => grow_any (a.length + b.length) W (by omega))
  generalize hna : a.length = na at *
  generalize hnb : b.length = nb at *
  have HNA := Lib.hid hna
  have HNB := Lib.hid hnb
  clear ha hb hna hnb
  go_enter Tryz.func118, Tryz.ntmps118
  go_wp2_with fail
  go_loopw [3, 5, 11] (fun s3 _ s11 W => ∃ k m : Nat, k ≤ 2 ∧ s11 = .int .i64 k ∧ s3 = .int .i64 m ∧ m = (if k = 0 then 0 else if k = 1 then na else na + nb) ∧ W = w) (fun _ _ s11 _ => 2 - (intOf s11).toNat)
  case atStart => exact ⟨0, 0, by omega, rfl, rfl, rfl, rfl⟩
  case round =>
    obtain ⟨k, m, hk, rfl, rfl, hm, rfl⟩ := hrel
    obtain rfl | rfl | rfl : k = 0 ∨ k = 1 ∨ k = 2 := by omega
    · simp only [if_true] at hm
      subst hm
      go_wp2_with fail
      go_roundw
      case rel => exact ⟨1, na, by omega, by go_num, by go_num, by simp, trivial⟩
      case measure => simp [intOf]
    · simp at hm
      subst hm
      go_wp2_with fail
      go_roundw
      case rel => exact ⟨2, m + nb, by omega, by go_num, by go_num, by simp, trivial⟩
      case measure => simp [intOf]
    · simp at hm
      subst hm
      rename World => w
      go_wp2_with fail
      refine (HG.out _).mono ?_
      rintro e w1 ⟨p1, c1, rfl, hown, lo⟩
      have HO := Lib.hid hown
      have HL := Lib.hid lo
      have HC0 := Lib.hid hc0
      have HC1 := Lib.hid hc1
      clear hown lo HG hc0 hc1
      go_wp2_with fail
      go_loopw [6, 8, 27] (fun s6 _ s27 W => ∃ (k : Nat) (L : List Int) (q : Option Addr) (d : Nat), k ≤ 2 ∧ s27 = .int .i64 k ∧ s6 = .slice q L.length d ∧ Hid (L = upTo a b k) ∧ Hid (Own W w.heap.size (.slice q L.length d) L) ∧ Hid (Lo w W)) (fun _ _ s27 _ => 2 - (intOf s27).toNat)
      case atStart => exact ⟨0, [], p1, c1, by omega, rfl, rfl, Lib.hid rfl, HO, HL⟩
      case round =>
        obtain ⟨k, L, q, d, hk, rfl, rfl, HT, HO2, HL2⟩ := hrel
        have c0 := (HL2.out.cell HBl.out).trans HC0.out
        have c1 := (HL2.out.cell HBl.out).trans HC1.out
        obtain rfl | rfl | rfl : k = 0 ∨ k = 1 ∨ k = 2 := by omega
        · obtain rfl : L = [] := HT.out
          have HR := Lib.hid (HA.out.lo HL2.out)
          have HSZ := Lib.hid HL2.out.size
          go_wp2_with (at_builtin; refine wpList_app _ rfl (.tmp 31) (.tmp 32) rfl w.heap.size _ _ rfl HO2.out _ a rfl HR.out (by rw [HNA.out]; simp; omega) HSZ.out ?_; intro q1 d1 w4 hown hlo; have HO4 := Lib.hid hown; have HL4 := Lib.hid (hlo w HL2.out rfl); clear hown hlo)
          go_roundw
          case rel => exact ⟨1, a, q1, d1, by omega, by go_num, by simp, Lib.hid rfl, by simpa using HO4, HL4⟩
          case measure => simp [intOf]
        · obtain rfl : L = a := HT.out
          have HR := Lib.hid (HB.out.lo HL2.out)
          have HSZ := Lib.hid HL2.out.size
          go_wp2_with (at_builtin; refine wpList_app _ rfl (.tmp 31) (.tmp 32) rfl w.heap.size _ _ rfl HO2.out _ b rfl HR.out (by rw [HNA.out, HNB.out]; omega) HSZ.out ?_; intro q1 d1 w4 hown hlo; have HO4 := Lib.hid hown; have HL4 := Lib.hid (hlo w HL2.out rfl); clear hown hlo)
          go_roundw
          case rel => exact ⟨2, L ++ b, q1, d1, by omega, by go_num, by simp, Lib.hid rfl, by simpa using HO4, HL4⟩
          case measure => simp [intOf]
        · obtain rfl : L = a ++ b := HT.out
          go_wp2_with fail
          go_ret
          have e : (a ++ b).length = na + nb := by rw [List.length_append, HNA.out, HNB.out]
          rw [← e]
          exact ⟨q, d, rfl, Own.row HO2.out, HL2.out⟩
end Go.Proofs.YtppihpjcdieeoaaGreatDoor
/-
  Contract of chart.lay: glyphs laid into an array, span by span. No conditions beyond those stated.
-/
namespace Go.Proofs.YtppihpjcdieeoaaGreatDoor
open Go.RowKit

theorem lay_start (k : List Ch.Span) (x : Ch.Span) (a : Int) (m : Nat) : Ch.laidTo k x (max x.fr a) a m = Ch.laid k a m := Ch.laidTo_start k x a m rfl

set_option maxRecDepth 100000 in
set_option maxHeartbeats 3200000 in
theorem lay_any (k : List Ch.Span) (a : Int) (B n cap m ty : Nat) (v : Value) (w0 w : World) (h0 : Lo w0 w) (hB : w0.heap.size ≤ B) (hr : SRow w0 v k) (harr : ArrAt w B ty (Ch.laid [] a m)) (hnm : n ≤ m) (ha : 0 ≤ a)
    (hk : Ch.chain (-1) k = true) (hin : ∀ x ∈ k, x.to - a < n) (hlen : k.length ≤ 65536) (hm : m ≤ 100000) :
    Calls Tryz.prog 86 #[.slice (some ⟨B, 0, none⟩) n cap, .int .i64 a, v] w fun e w' => e = .returned (.tuple #[]) ∧ ArrAt w' B ty (Ch.laid k a m) ∧ Lo w0 w' := by
  obtain ⟨p, c, rfl, _⟩ := RowK.form hr
  have HR := Lib.hid hr
  have H0 := Lib.hid h0
  have HA := Lib.hid harr
  have HLn := Lib.hid (fun l x c => Ch.laidTo_len l x c a m)
  have HK := Lib.hid hk
  have HIn := Lib.hid hin
  have HBw := Lib.hid hB
  have HAll : Hid (k.take k.length = k) := Lib.hid List.take_length
  generalize hkn : k.length = kn at *
  have HN := Lib.hid hkn
  clear hkn hr h0 harr hk hin hB
  go_enter Tryz.func86, Tryz.ntmps86
  go_wp2_with fail
  go_loopw [7, 8, 11] (fun _ _ s11 W => ∃ j : Nat, j ≤ kn ∧ s11 = .int .i64 j ∧ Hid (ArrAt W B ty (Ch.laid (k.take j) a m)) ∧ Hid (Lo w0 W)) (fun _ _ s11 _ => kn - (intOf s11).toNat)
  case atStart => exact ⟨0, Nat.zero_le _, rfl, HA, H0⟩
  case round =>
    obtain ⟨j, hj, rfl, HA1, HL1⟩ := hrel
    rename World => W1
    by_cases hlt : j < kn
    · have hj' : j < k.length := by rw [HN.out]; exact hlt
      obtain ⟨b, off, rfl, r0, r1, r2, r3⟩ := SRow.at4 (RowK.lo HR.out HL1.out) (Ch.getD_some hj')
      have HIx := Lib.hid (HIn.out _ (Ch.getD_mem hj'))
      have HCh : Hid (Ch.chain (-1) (k.take j ++ [k.getD j Ch.zs]) = true) := Lib.hid (by rw [← Ch.take_snoc hj']; exact Ch.chain_take _ HK.out)
      have HOk := Lib.hid (Ch.chain_mem HK.out _ (Ch.getD_mem hj')).1
      have HTk := Lib.hid (Ch.take_snoc hj')
      have HG := Lib.hid (fun (c : Int) (W : World) h7 h8 => glyph_ok HOk.out c W h7 h8)
      clear hj'
      generalize k.getD j Ch.zs = x at *
      have hok := (Ch.okSpan_iff x).1 HOk.out
      have HAs : Hid (ArrAt (W1.alloc (.cells #[.int .i64 x.fr, .int .i64 x.to, .int .i64 x.gl, .int .i64 x.st] 66)) B ty (Ch.laidTo (k.take j) x (max x.fr a) a m)) := Lib.hid (by rw [lay_start]; exact ArrAt.lo HA1.out ((Lo.refl _).alloc _))
      have HLs : Hid (Lo w0 (W1.alloc (.cells #[.int .i64 x.fr, .int .i64 x.to, .int .i64 x.gl, .int .i64 x.st] 66))) := Lib.hid (HL1.out.alloc _)
      have HTs := Lib.hid (new_block W1 (.cells #[.int .i64 x.fr, .int .i64 x.to, .int .i64 x.gl, .int .i64 x.st] 66))
      have hTB : W1.heap.size ≠ B := by have := HA1.out.lt; omega
      unfold aggS at HG
      obtain ⟨hx1, hx2, hx3, _⟩ := hok
      go_wp2_with fail
      clear r0 r1 r2 r3 HA1
      go_loopw [8] (fun s8 W => ∃ c : Int, s8 = .int .i64 c ∧ max x.fr a ≤ c ∧ (c ≤ x.to + 1 ∨ c = max x.fr a) ∧ Hid (ArrAt W B ty (Ch.laidTo (k.take j) x c a m)) ∧ Hid (Lo w0 W) ∧ Hid (W.heap[W1.heap.size]? = some (.cells #[.int .i64 x.fr, .int .i64 x.to, .int .i64 x.gl, .int .i64 x.st] 66 (0, 0)))) (fun s8 _ => (x.to + 1 - intOf s8).toNat)
      case atStart => exact ⟨max x.fr a, rfl, Int.le_refl _, .inr rfl, HAs, HLs, HTs⟩
      case round =>
        obtain ⟨c, rfl, hc1, hc2, HA2, HL2, HT2⟩ := hrel
        rename World => W2
        obtain ⟨⟨s0, s1, s2, s3⟩, _⟩ := four_at HT2.out
        by_cases hle : c ≤ x.to
        · have HG1 := Lib.hid (fun W => HG.out c W (by omega) (by omega))
          have HSet := Lib.hid (Ch.laidTo_set (k.take j) x a m (c := c) (by omega) (by omega))
          have hix := HIx.out
          go_wp2_with fail
          refine (HG1.out _).mono ?_
          rintro e w3 ⟨rfl, lo⟩
          have HL3 := Lib.hid (HL2.out.trans lo)
          have HT3 := Lib.hid (lo_block lo HT2.out)
          have HA3 := Lib.hid (ArrAt.lo HA2.out lo)
          have hcell := ArrAt.cell HA3.out (i := (c - a).toNat) (by rw [HLn.out]; omega)
          have hfr := ArrAt.frozen HA3.out (c - a).toNat
          have HA4 : Hid (ArrAt (w3.setCell ⟨B, (c - a).toNat, none⟩ (.int .i64 (Ch.glyphOf x c))) B ty (Ch.laidTo (k.take j) x (c + 1) a m)) := Lib.hid (by rw [← HSet.out]; exact ArrAt.set HA3.out _ _)
          have HL4 : Hid (Lo w0 (w3.setCell ⟨B, (c - a).toNat, none⟩ (.int .i64 (Ch.glyphOf x c)))) := Lib.hid (HL3.out.set HBw.out _)
          have HT4 : Hid ((w3.setCell ⟨B, (c - a).toNat, none⟩ (.int .i64 (Ch.glyphOf x c))).heap[W1.heap.size]? = some (.cells #[.int .i64 x.fr, .int .i64 x.to, .int .i64 x.gl, .int .i64 x.st] 66 (0, 0))) := Lib.hid (by rw [set_other hTB]; exact HT3.out)
          clear lo s0 s1 s2 s3 HG1 HSet
          go_wp2_with fail
          go_roundw
          case rel => exact ⟨c + 1, by go_num, by omega, by omega, HA4, HL4, HT4⟩
          case measure => simp [intOf]; omega
        · have HE : Hid (Ch.laidTo (k.take j) x c a m = Ch.laid (k.take (j + 1)) a m) := Lib.hid (by rw [HTk.out]; exact Ch.laidTo_end HCh.out a m (by omega) (by omega))
          go_wp2_with fail
          go_roundw
          case rel => exact ⟨j + 1, by omega, by go_num, by rw [← HE.out]; exact HA2, HL2⟩
          case measure => simp [intOf]; omega
    · obtain rfl : j = kn := by omega
      have HE : Hid (Ch.laid (k.take j) a m = Ch.laid k a m) := Lib.hid (by rw [HAll.out])
      go_wp2_with fail
      go_end0
      exact ⟨rfl, by rw [← HE.out]; exact HA1.out, HL1.out⟩
end Go.Proofs.YtppihpjcdieeoaaGreatDoor
/-
  The arrays of package chart when they are made: all noughts. No conditions.
-/
namespace Go.Proofs.YtppihpjcdieeoaaGreatDoor
open Go.RowKit

set_option maxRecDepth 1000000 in
set_option maxHeartbeats 4000000 in
theorem small_noughts : Tryz.zeroCells102 = ((List.replicate 256 (0 : Int)).map (Value.int .i64)).toArray := by
  unfold Tryz.zeroCells102
  apply Noughts.cells
  apply Noughts.to
  case h => repeat' (first | apply Noughts.app | exact Noughts.of (n := 64) (by rfl) | exact Noughts.of (n := 63) (by rfl))
  case e => rfl
set_option maxRecDepth 1000000 in
set_option maxHeartbeats 4000000 in
theorem trimmed_noughts : Tryz.zeroCells119 = ((List.replicate 32762 (0 : Int)).map (Value.int .i64)).toArray := by
  unfold Tryz.zeroCells119
  apply Noughts.cells
  apply Noughts.to
  case h => repeat' (first | apply Noughts.app | exact Noughts.of (n := 64) (by rfl) | exact Noughts.of (n := 63) (by rfl))
  case e => rfl
end Go.Proofs.YtppihpjcdieeoaaGreatDoor
/-
  The contract of strings.Builder's WriteByte, laid at this program by hand (the kit's own laying asks for a type that the closure here does not name). No conditions.
-/
namespace Go.Proofs
open Go.Shelf
def Tryz.layw_ren : Go.Shelf.Ren := ⟨fun | 167 => 71 | 240 => 109 | 276 => 137 | n => n, fun | 0 => 0 | 4 => 4 | 5 => 5 | 9 => 9 | 20 => 20 | 37 => 70 | 70 => 87 | 72 => 89 | 75 => 92 | 80 => 94 | 164 => 149 | n => n, fun | n => n⟩
theorem Tryz.layw : Go.Proofs.Lays.n167 Tryz.prog Tryz.layw_ren := {
  mixed := by kernel_rfl
  f167 := Tryz.func71.trans (congrArg some (by kernel_rfl))
  f240 := Tryz.func109.trans (congrArg some (by kernel_rfl))
  f276 := Tryz.func137.trans (congrArg some (by kernel_rfl))
  t0 := Tryz.underlying0
  a0 := Tryz.isAgg0
  z0 := Tryz.sizeOf0
  v0 := Tryz.zeroValue0
  t4 := Tryz.underlying4
  a4 := Tryz.isAgg4
  z4 := Tryz.sizeOf4
  v4 := Tryz.zeroValue4
  t5 := Tryz.underlying5
  a5 := Tryz.isAgg5
  z5 := Tryz.sizeOf5
  v5 := Tryz.zeroValue5
  t9 := Tryz.underlying9
  a9 := Tryz.isAgg9
  z9 := Tryz.sizeOf9
  v9 := Tryz.zeroValue9
  t20 := Tryz.underlying20
  a20 := Tryz.isAgg20
  z20 := Tryz.sizeOf20
  v20 := Tryz.zeroValue20
  t37 := Tryz.underlying70
  a37 := Tryz.isAgg70
  z37 := Tryz.sizeOf70
  v37 := Tryz.zeroValue70
  t70 := Tryz.underlying87
  a70 := Tryz.isAgg87
  z70 := Tryz.sizeOf87
  v70 := Tryz.zeroValue87
  t72 := Tryz.underlying89
  a72 := Tryz.isAgg89
  z72 := Tryz.sizeOf89
  v72 := Tryz.zeroValue89
  t75 := Tryz.underlying92
  a75 := Tryz.isAgg92
  z75 := Tryz.sizeOf92
  v75 := Tryz.zeroValue92
  t164 := Tryz.underlying149
  a164 := Tryz.isAgg149
  z164 := Tryz.sizeOf149
  v164 := Tryz.zeroValue149 }
theorem Tryz.Builder_Extra_w : Builder.Extra Tryz.prog Tryz.layw_ren := {
  sizeBuilder := by kernel_rfl
  liesBuilder := by kernel_rfl
  t5 := Tryz.underlying5
  a5 := Tryz.isAgg5
  z5 := Tryz.sizeOf5
  v5 := Tryz.zeroValue5
  infoByte := by kernel_rfl
  cellsByte := by kernel_rfl
  sizeByte := by kernel_rfl
  neB5 := by decide }
open Go.RowKit in
theorem Tryz.Builder_WriteByte (B b : Nat) (bs : List Value) (c : Int) (w : World) (h : Lib.IsBuilder 89 5 B b bs w) (hlen : bs.length + 1 ≤ 140737488355328) (hBw : B ≤ w.heap.size) :
    Calls Tryz.prog 71 #[.pointer (some ⟨b, 0, none⟩), .int .u8 c] w fun e w' => e = .returned .nilIface ∧ (Lib.BuilderAt 89 5 B b (.pointer (some ⟨b, 0, none⟩)) (bs ++ [.int .u8 c]) w' ∧ Below B w w') := Any.Builder_WriteByte Tryz.layw Tryz.Builder_Extra_w B b bs c w h hlen hBw
end Go.Proofs
