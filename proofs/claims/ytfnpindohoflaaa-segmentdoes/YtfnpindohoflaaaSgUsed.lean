/-
  Contracts of segment.used and segment.listed: the spans in which a rune has a glyph; one span for each rune that has a glyph. No conditions beyond those stated.
-/
import Derived.Test.YtfnpindohoflaaaSgBase
namespace Sg
theorem kept_step {l : List Ch.Span} {k : Nat} (h : k < l.length) : kept (l.take (k + 1)) = kept (l.take k) ++ if hasGl (l.getD k Ch.zs) = true then [l.getD k Ch.zs] else [] := by
  rw [Ch.take_snoc h]
  unfold kept
  rw [List.filter_append]
  congr 1
  by_cases hg : hasGl (l.getD k Ch.zs) = true
  · rw [if_pos hg, List.filter_cons_of_pos hg, List.filter_nil]
  · rw [if_neg hg, List.filter_cons_of_neg hg, List.filter_nil]
theorem kept_len (l : List Ch.Span) : (kept l).length ≤ l.length := List.length_filter_le _ _
theorem gl1_mod {v d : Int} (h0 : 0 ≤ v) (h1 : v ≤ 65535) (h3 : 0 ≤ d) (h4 : d ≤ 65535) : gl1 v d = if v = 0 then 0 else (v + d) % 65536 := by
  have hp : plane (v + d) = (v + d) % 65536 := by
    unfold plane
    by_cases h : 65536 ≤ v + d
    · rw [if_pos h]; omega
    · rw [if_neg h]; omega
  unfold gl1
  rw [hp]
  by_cases hv : v = 0
  · rw [if_pos hv, if_neg (by omega)]
  · rw [if_neg hv]
    by_cases hg : 0 < (v + d) % 65536
    · rw [if_pos ⟨by omega, hg⟩]
    · rw [if_neg (by omega)]; omega
end Sg
namespace Go.Proofs.Ytfnpindohoflaaa
open Go.RowKit

set_option maxHeartbeats 3200000 in
theorem sused_any (v : Value) (l : List Ch.Span) (w : World) (h : SRow w v l) (hl : Ch.isL l = true) : Calls Try.prog 52 #[v] w fun e w' => ∃ p c, e = .returned (.slice p (Sg.kept l).length c) ∧ OwnK encS 41 4 w' w.heap.size (.slice p (Sg.kept l).length c) (Sg.kept l) ∧ Lo w w' := by
  obtain ⟨p, c, rfl, hlen⟩ := RowK.form h
  have HR := Lib.hid h
  have hm := (Ch.isL_chain hl).2
  have HM := Lib.hid (fun (i : Nat) (hi : i < l.length) => (Ch.okSpan_iff _).1 (Ch.chain_mem (Ch.isL_chain hl).1 _ (Ch.getD_mem hi)).1)
  have HSt := Lib.hid (fun (k : Nat) (h : k < l.length) => Sg.kept_step h)
  have HLe : Hid (∀ k, (Sg.kept (l.take k)).length ≤ k) := Lib.hid (fun k => Nat.le_trans (Sg.kept_len _) (List.length_take_le _ _))
  have HAll : Hid (l.take l.length = l) := Lib.hid List.take_length
  generalize hnn : l.length = n at *
  have HN := Lib.hid hnn
  clear hnn h hl
  go_enter Try.func52, Try.ntmps52
  go_wp2_with fail
  go_loopw [3, 5, 8] (fun s3 _ s8 W => ∃ (k : Nat) (L : List Ch.Span) (q : Option Addr) (d : Nat), k ≤ n ∧ s8 = .int .i64 k ∧ s3 = .slice q L.length d ∧ Hid (L = Sg.kept (l.take k)) ∧ Hid (OwnK encS 41 4 W w.heap.size (.slice q L.length d) L) ∧ Hid (Lo w W)) (fun _ _ s8 _ => n - (intOf s8).toNat)
  case atStart => exact ⟨0, [], none, 0, Nat.zero_le _, rfl, rfl, Lib.hid rfl, Lib.hid (OwnK.none _ _ _ _ _), Lib.hid (Lo.refl _)⟩
  case round =>
    obtain ⟨k, L, q, d, hk, rfl, rfl, HT, HO, HL⟩ := hrel
    by_cases hlt : k < n
    · have hk' : k < l.length := by rw [HN.out]; exact hlt
      obtain ⟨b, off, rfl, r0, r1, r2, r3⟩ := SRow.at4 (RowK.lo HR.out HL.out) (Ch.getD_some hk')
      clear hk'
      obtain ⟨a1, a2, a3, a4, a5, a6, a7, a8⟩ := HM.out k hlt
      have HS1 := Lib.hid (HSt.out k hlt)
      have HLk : Hid (L.length ≤ k) := Lib.hid (by rw [HT.out]; exact HLe.out k)
      rw [← HT.out] at HS1
      generalize l.getD k Ch.zs = x at *
      obtain ⟨fr, tt, gl, st⟩ := x
      dsimp only at a1 a2 a3 a4 a5 a6 a7 a8 r0 r1 r2 r3
      clear a8 HT
      have HSZ := Lib.hid HL.out.size
      rcases (show st = 0 ∨ st = 1 by omega) with rfl | rfl
      · by_cases hu : 0 < gl
        · have HT2 : Hid (L ++ [⟨fr, tt, gl, 0⟩] = Sg.kept (l.take (k + 1))) := Lib.hid (by rw [HS1.out, if_pos (by simp [Sg.hasGl]; omega)])
          clear HS1
          go_wp2_with (at_builtin; refine wpList_appK _ rfl (.tmp 24) (.tmp 26) _ rfl 41 4 32 _ Try.underlying22 api_info rfl (by omega) (by omega) encS_len encS_one w.heap.size (.slice q L.length d) L rfl (OwnK.lo HO.out (((Lo.refl _).alloc _).alloc _)) _ [⟨fr, tt, gl, 0⟩] rfl (srow1 _ _ (by simp) ⟨fr, tt, gl, 0⟩ _) (by have := HLk.out; simp; omega) (by have := HSZ.out; simp; omega) ?_; intro q1 d1 w4 hown hlo; have HO4 := Lib.hid hown; have HL4 := Lib.hid (hlo w ((HL.out.alloc _).alloc _) (Nat.le_refl _)); clear hown hlo)
          go_roundw
          case rel => exact ⟨k + 1, L ++ [⟨fr, tt, gl, 0⟩], q1, d1, by omega, by go_num, by simp, HT2, by simpa using HO4, HL4⟩
          case measure => simp [intOf]; omega
        · have HT2 : Hid (L = Sg.kept (l.take (k + 1))) := Lib.hid (by rw [HS1.out, if_neg (by simp [Sg.hasGl]; omega), List.append_nil])
          have HO4 := Lib.hid (OwnK.lo HO.out ((Lo.refl wr).alloc (.cells #[.int .i64 fr, .int .i64 tt, .int .i64 gl, .int .i64 0] 41)))
          have HL4 := Lib.hid (HL.out.alloc (.cells #[.int .i64 fr, .int .i64 tt, .int .i64 gl, .int .i64 0] 41))
          clear HS1
          go_wp2_with fail
          go_roundw
          case rel => exact ⟨k + 1, L, q, d, by omega, by go_num, rfl, HT2, HO4, HL4⟩
          case measure => simp [intOf]; omega
      · by_cases hu : 0 < gl + (tt - fr)
        · have HT2 : Hid (L ++ [⟨fr, tt, gl, 1⟩] = Sg.kept (l.take (k + 1))) := Lib.hid (by rw [HS1.out, if_pos (by simp [Sg.hasGl]; omega)])
          clear HS1
          go_wp2_with (at_builtin; refine wpList_appK _ rfl (.tmp 24) (.tmp 26) _ rfl 41 4 32 _ Try.underlying22 api_info rfl (by omega) (by omega) encS_len encS_one w.heap.size (.slice q L.length d) L rfl (OwnK.lo HO.out (((Lo.refl _).alloc _).alloc _)) _ [⟨fr, tt, gl, 1⟩] rfl (srow1 _ _ (by simp) ⟨fr, tt, gl, 1⟩ _) (by have := HLk.out; simp; omega) (by have := HSZ.out; simp; omega) ?_; intro q1 d1 w4 hown hlo; have HO4 := Lib.hid hown; have HL4 := Lib.hid (hlo w ((HL.out.alloc _).alloc _) (Nat.le_refl _)); clear hown hlo)
          go_roundw
          case rel => exact ⟨k + 1, L ++ [⟨fr, tt, gl, 1⟩], q1, d1, by omega, by go_num, by simp, HT2, by simpa using HO4, HL4⟩
          case measure => simp [intOf]; omega
        · have HT2 : Hid (L = Sg.kept (l.take (k + 1))) := Lib.hid (by rw [HS1.out, if_neg (by simp [Sg.hasGl]; omega), List.append_nil])
          have HO4 := Lib.hid (OwnK.lo HO.out ((Lo.refl wr).alloc (.cells #[.int .i64 fr, .int .i64 tt, .int .i64 gl, .int .i64 1] 41)))
          have HL4 := Lib.hid (HL.out.alloc (.cells #[.int .i64 fr, .int .i64 tt, .int .i64 gl, .int .i64 1] 41))
          clear HS1
          go_wp2_with fail
          go_roundw
          case rel => exact ⟨k + 1, L, q, d, by omega, by go_num, rfl, HT2, HO4, HL4⟩
          case measure => simp [intOf]; omega
    · obtain rfl : k = n := by omega
      have HE : Hid (L = Sg.kept l) := Lib.hid (by rw [HT.out, HAll.out])
      go_wp2_with fail
      go_ret
      exact ⟨q, d, by rw [← HE.out]; rfl, by rw [← HE.out]; exact HO.out, HL.out⟩

set_option maxHeartbeats 1600000 in
theorem listed_any (a d : Int) (vs : List Int) (v : Value) (w : World) (hr : Row w v vs) (hn : vs.length ≤ 100000) (ha : 0 ≤ a) (ha2 : a ≤ 1000000) (hd : 0 ≤ d) (hd2 : d ≤ 65535) (hvs : ∀ i, i < vs.length → 0 ≤ vs.getD i 0 ∧ vs.getD i 0 ≤ 65535) :
    Calls Try.prog 50 #[.int .i64 a, .int .i64 d, v] w (GotSpans (Ch.spansL a (vs.map fun x => Sg.gl1 x d)) w) := by
  obtain ⟨p, c, rfl, hlen⟩ := hr.form
  have HR := Lib.hid hr
  have hml : (vs.map fun x => Sg.gl1 x d).length = vs.length := by simp
  have HAll : Hid ((vs.map fun x => Sg.gl1 x d).take vs.length = vs.map fun x => Sg.gl1 x d) := Lib.hid (by rw [← hml, List.take_length])
  have HGet := Lib.hid (fun (k : Nat) (h : k < vs.length) => (show (vs.map fun x => Sg.gl1 x d).getD k 0 = if vs.getD k 0 = 0 then 0 else (vs.getD k 0 + d) % 65536 by
    rw [← Sg.gl1_mod (hvs k h).1 (hvs k h).2 hd hd2]; simp [List.getD, List.getElem?_eq_getElem h]))
  have HVs := Lib.hid hvs
  generalize vs.map (fun x => Sg.gl1 x d) = gs at *
  have HSt := Lib.hid (fun (k : Nat) (h : k < vs.length) => Ch.spansL_step (l := gs) (k := k) (by omega) a)
  have HLe : Hid (∀ k, (Ch.spansL a (gs.take k)).length ≤ k) := Lib.hid (fun k => Nat.le_trans (Ch.spansL_len _ _) (List.length_take_le _ _))
  have HW := Lib.hid (fun (x : Int) (W : World) => wrapped_any x W)
  generalize hnn : vs.length = n at *
  have HN := Lib.hid hnn
  clear hnn hr hml hvs
  unfold GotSpans
  go_enter Try.func50, Try.ntmps50
  go_wp2_with fail
  go_loopw [7, 8, 9, 10, 11, 14] (fun s7 _ _ _ _ s14 W => ∃ (k : Nat) (L : List Ch.Span) (q : Option Addr) (e : Nat), k ≤ n ∧ s14 = .int .i64 k ∧ s7 = .slice q L.length e ∧ Hid (L = Ch.spansL a (gs.take k)) ∧ Hid (OwnK encS 41 4 W w.heap.size (.slice q L.length e) L) ∧ Hid (Lo w W)) (fun _ _ _ _ _ s14 _ => n - (intOf s14).toNat)
  case atStart => exact ⟨0, [], none, 0, Nat.zero_le _, rfl, rfl, Lib.hid rfl, Lib.hid (OwnK.none _ _ _ _ _), Lib.hid (Lo.refl _)⟩
  case round =>
    obtain ⟨k, L, q, e, hk, rfl, rfl, HT, HO, HL⟩ := hrel
    by_cases hlt : k < n
    · obtain ⟨b, off, rfl, hcell⟩ := (HR.out.lo HL.out).at_ hlt
      have HS1 := Lib.hid (HSt.out k hlt)
      have HLk : Hid (L.length ≤ k) := Lib.hid (by rw [HT.out]; exact HLe.out k)
      have HSZ := Lib.hid HL.out.size
      obtain ⟨v0, v1⟩ := HVs.out k hlt
      rw [← HT.out, HGet.out k hlt] at HS1
      generalize vs.getD k 0 = x at *
      have HW1 := Lib.hid (HW.out (x + d))
      have HX : Hid ((x + d) % 65536 ≤ 65535 ∧ 0 ≤ (x + d) % 65536) := Lib.hid (by omega)
      generalize (x + d) % 65536 = g at *
      by_cases hx : x = 0
      · have HT2 : Hid (L = Ch.spansL a (gs.take (k + 1))) := Lib.hid (by rw [HS1.out, if_pos hx, if_pos rfl, List.append_nil])
        subst hx
        rw [Int.zero_add] at HW1
        clear HS1 HT
        go_wp2_with fail
        refine (HW1.out _).mono ?_
        rintro e' w3 ⟨rfl, rfl⟩
        go_wp2_with fail
        go_roundw
        case rel => exact ⟨k + 1, L, q, e, by omega, by go_num, rfl, HT2, HO, HL⟩
        case measure => simp [intOf]; omega
      · rw [if_neg hx] at HS1
        by_cases hg : g = 0
        · have HT2 : Hid (L = Ch.spansL a (gs.take (k + 1))) := Lib.hid (by rw [HS1.out, if_pos hg, List.append_nil])
          subst hg
          clear HS1 HT
          go_wp2_with fail
          refine (HW1.out _).mono ?_
          rintro e' w3 ⟨rfl, rfl⟩
          go_wp2_with fail
          all_goals
            go_roundw
            case rel => exact ⟨k + 1, L, q, e, by omega, by go_num, rfl, HT2, HO, HL⟩
            case measure => simp [intOf]; omega
        · have HT2 : Hid (L ++ [⟨a + k, a + k, g, 1⟩] = Ch.spansL a (gs.take (k + 1))) := Lib.hid (by rw [HS1.out, if_neg hg])
          clear HS1 HT
          go_wp2_with fail
          refine (HW1.out _).mono ?_
          rintro e' w3 ⟨rfl, rfl⟩
          go_wp2_with (at_builtin; refine wpList_appK _ rfl (.tmp 32) (.tmp 37) _ rfl 41 4 32 _ Try.underlying22 api_info rfl (by omega) (by omega) encS_len encS_one w.heap.size (.slice q L.length e) L rfl (OwnK.lo HO.out ((Lo.refl _).alloc _)) _ [⟨a + k, a + k, g, 1⟩] rfl (srow1 _ _ rfl ⟨a + k, a + k, g, 1⟩ _) (by have := HLk.out; simp; omega) (by have := HSZ.out; simp; omega) ?_; intro q1 d1 w3 hown hlo; have HO3 := Lib.hid hown; have HL3 := Lib.hid (hlo w (HL.out.alloc _) (Nat.le_refl _)); clear hown hlo)
          all_goals first | (exfalso; rename_i hb; simp [hx, hg] at hb; done) | skip
          go_roundw
          case rel => exact ⟨k + 1, L ++ [⟨a + k, a + k, g, 1⟩], q1, d1, by omega, by go_num, by simp, HT2, by simpa using HO3, HL3⟩
          case measure => simp [intOf]; omega
    · obtain rfl : k = n := by omega
      have HE : Hid (L = Ch.spansL a gs) := Lib.hid (by rw [HT.out, HAll.out])
      go_wp2_with fail
      go_ret
      exact ⟨q, e, by rw [← HE.out]; rfl, by rw [← HE.out]; exact OwnK.row encS_len HO.out, HL.out⟩
end Go.Proofs.Ytfnpindohoflaaa
