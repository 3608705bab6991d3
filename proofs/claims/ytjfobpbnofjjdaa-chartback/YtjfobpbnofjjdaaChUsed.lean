/-
  Contracts of chart.used, of slices.IndexFunc and slices.ContainsFunc of spans, and of chart.trimmed. No conditions beyond those stated.
-/
import Derived.Test.YtjfobpbnofjjdaaChIs
import Derived.Test.YtjfobpbnofjjdaaChRep
namespace Go.Proofs.Ytjfobpbnofjjdaa
open Go.RowKit

set_option maxHeartbeats 1600000 in
theorem used_any (v : Value) (l : List Ch.Span) (w : World) (h : SRow w v l) (hl : Ch.isL l = true) : Calls Try.prog 27 #[v] w (GotSpans (Ch.used l) w) := by
  obtain ⟨p, c, rfl, hlen⟩ := RowK.form h
  have HR := Lib.hid h
  have hm := (Ch.isL_chain hl).2
  have HM := Lib.hid (fun (i : Nat) (hi : i < l.length) (W : World) => isUsed_any (Ch.chain_mem (Ch.isL_chain hl).1 _ (Ch.getD_mem hi)).1 W)
  have HSt := Lib.hid (fun (k : Nat) (h : k < l.length) => Ch.used_step h)
  have HLe : Hid (∀ k, (Ch.used (l.take k)).length ≤ k) := Lib.hid (fun k => Nat.le_trans (Ch.used_len _) (List.length_take_le _ _))
  have HAll : Hid (l.take l.length = l) := Lib.hid List.take_length
  generalize hnn : l.length = n at *
  have HN := Lib.hid hnn
  clear hnn h hl
  unfold GotSpans
  unfold aggS at HM
  go_enter Try.func27, Try.ntmps27
  go_wp2_with fail
  go_loopw [3, 5, 8] (fun s3 _ s8 W => ∃ (k : Nat) (L : List Ch.Span) (q : Option Addr) (d : Nat), k ≤ n ∧ s8 = .int .i64 k ∧ s3 = .slice q L.length d ∧ Hid (L = Ch.used (l.take k)) ∧ Hid (OwnK encS 49 4 W w.heap.size (.slice q L.length d) L) ∧ Hid (Lo w W)) (fun _ _ s8 _ => n - (intOf s8).toNat)
  case atStart => exact ⟨0, [], none, 0, Nat.zero_le _, rfl, rfl, Lib.hid rfl, Lib.hid (OwnK.none _ _ _ _ _), Lib.hid (Lo.refl _)⟩
  case round =>
    obtain ⟨k, L, q, d, hk, rfl, rfl, HT, HO, HL⟩ := hrel
    by_cases hlt : k < n
    · have hk' : k < l.length := by rw [HN.out]; exact hlt
      obtain ⟨b, off, rfl, r0, r1, r2, r3⟩ := SRow.at4 (RowK.lo HR.out HL.out) (Ch.getD_some hk')
      clear hk'
      have HM1 := Lib.hid (HM.out k hlt)
      have HS1 := Lib.hid (HSt.out k hlt)
      have HLk : Hid (L.length ≤ k) := Lib.hid (by rw [HT.out]; exact HLe.out k)
      rw [← HT.out] at HS1
      generalize l.getD k Ch.zs = x at *
      cases hu : Ch.isUsed x with
      | false =>
        have HT2 : Hid (L = Ch.used (l.take (k + 1))) := Lib.hid (by rw [HS1.out, hu, if_neg (by simp), List.append_nil])
        rw [hu] at HM1
        clear hu HS1 HT
        go_wp2_with fail
        refine (HM1.out _).mono ?_
        rintro e w3 ⟨rfl, lo⟩
        have HL3 := Lib.hid ((HL.out.alloc _).trans lo)
        have HO3 := Lib.hid (OwnK.lo HO.out (((Lo.refl _).alloc _).trans lo))
        clear lo HM1 r0 r1 r2 r3
        go_wp2_with fail
        go_roundw
        case rel => exact ⟨k + 1, L, q, d, by omega, by go_num, rfl, HT2, HO3, HL3⟩
        case measure => simp [intOf]; omega
      | true =>
        have HT2 : Hid (L ++ [x] = Ch.used (l.take (k + 1))) := Lib.hid (by rw [HS1.out, hu, if_pos rfl])
        rw [hu] at HM1
        clear hu HS1 HT
        go_wp2_with fail
        refine (HM1.out _).mono ?_
        rintro e w3 ⟨rfl, lo⟩
        have HL3 := Lib.hid ((HL.out.alloc _).trans lo)
        have HO3 := Lib.hid (OwnK.lo HO.out (((Lo.refl _).alloc _).trans lo))
        have HSZ := Lib.hid HL3.out.size
        obtain ⟨⟨s0, s1, s2, s3⟩, _⟩ := four_at (lo_block lo (new_block _ _))
        clear lo HM1 r0 r1 r2 r3
        go_wp2_with (at_builtin; refine wpList_appK _ rfl (.tmp 14) (.tmp 16) _ rfl 49 4 32 _ Try.underlying46 span_info rfl (by omega) (by omega) encS_len encS_one w.heap.size (.slice q L.length d) L rfl (OwnK.lo HO3.out ((Lo.refl _).alloc _)) _ [x] rfl (srow1 _ _ rfl x _) (by have := HLk.out; simp; omega) (by have := HSZ.out; simp; omega) ?_; intro q1 d1 w4 hown hlo; have HO4 := Lib.hid hown; have HL4 := Lib.hid (hlo w (HL3.out.alloc _) (Nat.le_refl _)); clear hown hlo)
        go_roundw
        case rel => exact ⟨k + 1, L ++ [x], q1, d1, by omega, by go_num, by simp, HT2, by simpa using HO4, HL4⟩
        case measure => simp [intOf]; omega
    · obtain rfl : k = n := by omega
      have HE : Hid (L = Ch.used l) := Lib.hid (by rw [HT.out, HAll.out])
      go_wp2_with fail
      go_ret
      exact ⟨q, d, by rw [← HE.out]; rfl, by rw [← HE.out]; exact OwnK.row encS_len HO.out, HL.out⟩

theorem any_upto {l : List Ch.Span} {k : Nat} (h : k < l.length) : (l.take (k + 1)).any Ch.leaves = ((l.take k).any Ch.leaves || Ch.leaves (l.getD k Ch.zs)) := by
  rw [Ch.take_snoc h, List.any_append]; simp
theorem any_yes {l : List Ch.Span} {k : Nat} (h : k < l.length) (hx : Ch.leaves (l.getD k Ch.zs) = true) : l.any Ch.leaves = true := List.any_eq_true.2 ⟨_, Ch.getD_mem h, hx⟩

set_option maxHeartbeats 1600000 in
/-- slices.IndexFunc, by span.leavesSmall: below 0 where no span leaves. -/
theorem index_any (v : Value) (l : List Ch.Span) (w : World) (h : SRow w v l) (hok : ∀ x ∈ l, Ch.okSpan x = true) :
    Calls Try.prog 51 #[v, .func (.func 29) #[] #[]] w fun e w' => ∃ k : Int, e = .returned (.int .i64 k) ∧ decide (0 ≤ k) = l.any Ch.leaves ∧ Lo w w' := by
  obtain ⟨p, c, rfl, hlen⟩ := RowK.form h
  have HR := Lib.hid h
  have HM := Lib.hid (fun (i : Nat) (hi : i < l.length) (W : World) => leaves_any (hok _ (Ch.getD_mem hi)) W)
  have HSt := Lib.hid (fun (k : Nat) (h : k < l.length) => any_upto h)
  have HY := Lib.hid (fun (k : Nat) (h : k < l.length) hx => any_yes h hx)
  have HAll : Hid ((l.take l.length).any Ch.leaves = l.any Ch.leaves) := Lib.hid (by rw [List.take_length])
  generalize l.any Ch.leaves = y at *
  generalize hnn : l.length = n at *
  have HN := Lib.hid hnn
  clear hnn h hok
  unfold aggS at HM
  go_enter Try.func51, Try.ntmps51
  go_wp2_with fail
  go_loopw [5, 8] (fun _ s8 W => ∃ (k : Nat), k ≤ n ∧ s8 = .int .i64 k ∧ Hid ((l.take k).any Ch.leaves = false) ∧ Hid (Lo w W)) (fun _ s8 _ => n - (intOf s8).toNat)
  case atStart => exact ⟨0, Nat.zero_le _, rfl, Lib.hid rfl, Lib.hid (Lo.refl _)⟩
  case round =>
    obtain ⟨k, hk, rfl, HA, HL⟩ := hrel
    by_cases hlt : k < n
    · have hk' : k < l.length := by rw [HN.out]; exact hlt
      obtain ⟨b, off, rfl, r0, r1, r2, r3⟩ := SRow.at4 (RowK.lo HR.out HL.out) (Ch.getD_some hk')
      clear hk'
      have HM1 := Lib.hid (HM.out k hlt)
      have HS1 := Lib.hid (HSt.out k hlt)
      have HY1 := Lib.hid (HY.out k hlt)
      generalize l.getD k Ch.zs = x at *
      cases hu : Ch.leaves x with
      | false =>
        have HA2 : Hid ((l.take (k + 1)).any Ch.leaves = false) := Lib.hid (by rw [HS1.out, HA.out, hu]; rfl)
        rw [hu] at HM1
        clear hu HS1 HY1
        go_wp2_with fail
        refine (HM1.out _).mono ?_
        rintro e w3 ⟨rfl, lo⟩
        have HL3 := Lib.hid (HL.out.trans lo)
        clear lo HM1 r0 r1 r2 r3
        go_wp2_with fail
        go_roundw
        case rel => exact ⟨k + 1, by omega, by go_num, HA2, HL3⟩
        case measure => simp [intOf]; omega
      | true =>
        have HE := Lib.hid (HY1.out hu)
        rw [hu] at HM1
        clear hu HS1 HY1
        go_wp2_with fail
        refine (HM1.out _).mono ?_
        rintro e w3 ⟨rfl, lo⟩
        have HL3 := Lib.hid (HL.out.trans lo)
        clear lo HM1 r0 r1 r2 r3
        go_wp2_with fail
        go_ret
        exact ⟨_, rfl, by rw [HE.out]; simp, HL3.out⟩
    · obtain rfl : k = n := by omega
      have HE : Hid (y = false) := Lib.hid (by rw [← HAll.out, HA.out])
      go_wp2_with fail
      go_ret
      exact ⟨_, rfl, by rw [HE.out]; simp, HL.out⟩

set_option maxHeartbeats 400000 in
theorem contains_any (v : Value) (l : List Ch.Span) (w : World) (h : SRow w v l) (hok : ∀ x ∈ l, Ch.okSpan x = true) :
    Calls Try.prog 28 #[v, .func (.func 29) #[] #[]] w fun e w' => e = .returned (.bool (l.any Ch.leaves)) ∧ Lo w w' := by
  have HI := Lib.hid (index_any v l w h hok)
  clear h
  generalize l.any Ch.leaves = y at *
  go_enter Try.func28, Try.ntmps28
  go_wp2_with fail
  refine HI.out.mono ?_
  rintro e w1 ⟨k, rfl, hk, lo⟩
  have HK := Lib.hid hk
  have HL := Lib.hid lo
  clear hk lo HI
  go_wp2_with fail
  go_ret
  exact ⟨ret_bool HK.out, HL.out⟩

set_option maxHeartbeats 800000 in
theorem trimmed_any (v : Value) (l : List Ch.Span) (w : World) (h : SRow w v (Ch.used l)) (hl : Ch.isL l = true) :
    Calls Try.prog 33 #[v] w fun e w' => e = .returned (.tuple #[.int .i64 (Ch.first l), .int .i64 (Ch.count l)]) ∧ Lo w w' := by
  obtain ⟨t1, t2⟩ := Ch.trim hl
  have hin := fun (i : Nat) (hi : i < (Ch.used l).length) => Ch.getD_mem hi
  have hok : ∀ x ∈ Ch.used l, Ch.okSpan x = true ∧ Ch.isUsed x = true := fun x hx => ⟨(Ch.chain_mem (Ch.isL_chain hl).1 x (Ch.used_mem hx).1).1, (Ch.used_mem hx).2⟩
  obtain ⟨p, c, rfl, hlen⟩ := RowK.form h
  have HR := Lib.hid h
  have HF1 := Lib.hid t1
  have HF2 := Lib.hid t2
  have hb : (Ch.used l).length ≤ 65536 := Nat.le_trans (Ch.used_len l) (Ch.isL_chain hl).2
  generalize Ch.first l = a at *
  generalize Ch.count l = m at *
  generalize Ch.used l = k at *
  clear t1 t2 h hl
  by_cases h0 : k.length = 0
  · have HE := Lib.hid (HF1.out h0)
    rw [h0] at *
    clear HF1 HF2
    go_enter Try.func33, Try.ntmps33
    go_wp2_with fail
    go_ret2
    exact ⟨by rw [HE.out.1, HE.out.2]; rfl, Lo.refl _⟩
  · obtain ⟨h1, h2⟩ := HF2.out h0
    have o0 := hok _ (hin 0 (by omega))
    have o1 := hok _ (hin (k.length - 1) (by omega))
    obtain ⟨b, off, rfl, r0, r1, r2, r3⟩ := SRow.at4 HR.out (Ch.getD_some (show 0 < k.length by omega))
    obtain ⟨b', off', e', _, q1, _, _⟩ := SRow.at4 HR.out (Ch.getD_some (show k.length - 1 < k.length by omega))
    simp only [Option.some.injEq, Addr.mk.injEq, and_true] at e'
    obtain ⟨rfl, rfl⟩ := e'
    have HS := Lib.hid (fun W => start_any o0.1 W)
    have hs := Ch.start_bound o0.1 o0.2
    have hs1 := (Ch.okSpan_iff _).1 o0.1
    have hs2 := (Ch.okSpan_iff _).1 o1.1
    have HB : Hid (b < w.heap.size) := Lib.hid (World.block_lt_of_cell? w _ r0)
    unfold aggS at HS
    subst h1 h2
    generalize Ch.start (k.getD 0 Ch.zs) = a at *
    generalize k.getD 0 Ch.zs = x at *
    have hidx : ((k.length : Int) - 1).toNat = k.length - 1 := by omega
    generalize k.getD (k.length - 1) Ch.zs = y at *
    obtain ⟨n, hn⟩ : ∃ n, k.length = n + 1 := ⟨k.length - 1, by omega⟩
    rw [hn] at q1 hlen hb h0 ⊢
    clear hidx HF1 HF2 hok hin o0 o1 HR hn
    obtain ⟨_, _, hx3, _⟩ := hs1
    obtain ⟨_, hy2, hy3, _⟩ := hs2
    rw [Nat.add_sub_cancel] at q1
    simp only [Nat.zero_mul, Nat.add_zero] at r0 r1 r2 r3
    go_enter Try.func33, Try.ntmps33
    go_wp2_with fail
    refine (HS.out _).mono ?_
    rintro e w1 ⟨rfl, lo⟩
    have HL := Lib.hid lo
    have q1' : w1.cell? ⟨b, off + n * 4 + 1, none⟩ = some (.int .i64 y.to) := (lo.cell HB.out).trans q1
    clear lo HS r0 r1 r2 r3 q1
    go_wp2_with fail
    go_quiet (fail)
    have HL := Lib.hid (HL.out.drewN nq)
    go_wp2_with fail
    go_ret2
    exact ⟨rfl, HL.out⟩
end Go.Proofs.Ytjfobpbnofjjdaa
