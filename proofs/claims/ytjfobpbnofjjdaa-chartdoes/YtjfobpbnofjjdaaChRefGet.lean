/-
  Contracts of the document's put and Get (layer 8). No conditions beyond those stated.
-/
import Derived.Test.YtjfobpbnofjjdaaChRep
import Derived.Test.YtjfobpbnofjjdaaBnRefP
namespace Go.Proofs.Ytjfobpbnofjjdaa
open Go.RowKit

set_option maxHeartbeats 800000 in
theorem rsput_any (L : List Ch.Span) (q : Option Addr) (d : Nat) (c g : Int) (base : Nat) (w : World) (ho : OwnK encS 35 4 w base (.slice q L.length d) L) (hL : L.length ≤ 100000) (hb : base ≤ w.heap.size) :
    Calls Try.prog 26 #[.slice q L.length d, .int .i64 c, .int .i64 g] w fun e w' => ∃ q1 d1, e = .returned (.slice q1 (L ++ if g = 0 then [] else ([⟨c, c, g, 1⟩] : List Ch.Span)).length d1) ∧ OwnK encS 35 4 w' base (.slice q1 (L ++ if g = 0 then [] else ([⟨c, c, g, 1⟩] : List Ch.Span)).length d1) (L ++ if g = 0 then [] else ([⟨c, c, g, 1⟩] : List Ch.Span)) ∧ ∀ w0, Lo w0 w → w0.heap.size ≤ base → Lo w0 w' := by
  have HO := Lib.hid ho
  have HB := Lib.hid hb
  have HLn := Lib.hid hL
  clear ho hb hL
  by_cases hg : g = 0
  · subst hg
    rw [if_pos rfl, List.append_nil]
    go_enter Try.func26, Try.ntmps26
    go_wp2_with fail
    go_ret
    exact ⟨q, d, rfl, HO.out, fun _ h _ => h⟩
  · rw [if_neg hg]
    go_enter Try.func26, Try.ntmps26
    go_wp2_with (at_builtin; refine wpList_appK _ rfl (.tmp 10) (.tmp 15) _ rfl 35 4 32 _ Try.underlying22 api_info rfl (by omega) (by omega) encS_len encS_one base (.slice q L.length d) L rfl (OwnK.lo HO.out ((Lo.refl _).alloc _)) _ [⟨c, c, g, 1⟩] rfl (srow1 _ _ rfl ⟨c, c, g, 1⟩ _) (by have := HLn.out; simp; omega) (by have := HB.out; simp; omega) ?_; intro q1 d1 w3 hown hlo; have HO3 := Lib.hid hown; have HL3 := Lib.hid hlo; clear hown hlo)
    go_ret
    refine ⟨q1, d1, ?_, by simpa using HO3.out, fun w0 h h2 => HL3.out w0 (h.alloc _) h2⟩
    simp

theorem cut2 (s : List UInt8) (p : Nat) : (⟨s.toArray⟩ : ByteArray).extract p (p + 2) = ⟨((s.drop p).take 2).toArray⟩ := by rw [Gk.extract_list, Nat.add_sub_cancel_left]
theorem cut2_len {s : List UInt8} {p : Nat} (h : p + 2 ≤ s.length) : ((s.drop p).take 2).length = 2 := by rw [List.length_take, List.length_drop]; omega
theorem got_one (s : List UInt8) (p : Nat) (W : World) (h : p + 2 ≤ s.length) : Calls Try.prog 25 #[.string ⟨((s.drop p).take 2).toArray⟩, .int .i64 2] W fun e w' => e = .returned (.int .i64 (He.fld s p 2)) ∧ W = w' := rone_any _ 2 W (by rw [cut2_len h]; omega)

set_option maxRecDepth 100000 in
set_option maxHeartbeats 1600000 in
theorem rcget_more (s : List UInt8) (w : World) (hs : s.length ≤ 9223372036854775807) (h : s.length < 4) : Calls Try.prog 10 #[.string ⟨s.toArray⟩] w (GotSp (Ch.get s) w) := by
  have hsz : (ByteArray.mk s.toArray).size = s.length := rfl
  have HE := Lib.hid (Ch.get_more h)
  generalize Ch.get s = y at *
  have hz : (s.length : Int) < 4 := by omega
  generalize s.length = n at *
  go_enter Try.func10, Try.ntmps10
  go_wp2_with fail
  go_ret2
  rw [HE.out]
  exact GotSp.nil rfl (Lo.refl _)

set_option maxRecDepth 100000 in
set_option maxHeartbeats 1600000 in
theorem rcget_form (s : List UInt8) (w : World) (hs : s.length ≤ 9223372036854775807) (h : 4 ≤ s.length) (h0 : He.fld s 0 2 ≠ 0) (h6 : He.fld s 0 2 ≠ 6) : Calls Try.prog 10 #[.string ⟨s.toArray⟩] w (GotSp (Ch.get s) w) := by
  have hsz : (ByteArray.mk s.toArray).size = s.length := rfl
  have HE := Lib.hid (Ch.get_form5 h h0 h6)
  generalize Ch.get s = y at *
  have hz : ¬ (s.length : Int) < 4 := by omega
  have hz2 : (2 : Int) ≤ (s.length : Int) := by omega
  have hz3 : (4 : Int) ≤ (s.length : Int) := by omega
  have e0 := cut2 s 0
  have C0 := Lib.hid (fun W => got_one s 0 W (by omega))
  generalize (s.drop 0).take 2 = t0 at *
  have e2 := cut2 s 2
  have C2 := Lib.hid (fun W => got_one s 2 W (by omega))
  generalize (s.drop 2).take 2 = t2 at *
  generalize He.fld s 0 2 = f at *
  generalize He.fld s 2 2 = n2 at *
  generalize s.length = n at *
  go_enter Try.func10, Try.ntmps10
  go_wp2_with fail
  refine (C0.out _).mono ?_
  rintro e w0 ⟨rfl, rfl⟩
  clear C0
  go_wp2_with fail
  refine (C2.out _).mono ?_
  rintro e w2 ⟨rfl, rfl⟩
  clear C2
  go_wp2_with fail
  go_ret2
  rw [HE.out]
  exact GotSp.nil rfl (Lo.refl _)

set_option maxRecDepth 100000 in
set_option maxHeartbeats 1600000 in
theorem rcget_zero_form (s : List UInt8) (w : World) (hs : s.length ≤ 9223372036854775807) (h : 4 ≤ s.length) (h0 : He.fld s 0 2 = 0) (h1 : He.fld s 2 2 ≠ 262) : Calls Try.prog 10 #[.string ⟨s.toArray⟩] w (GotSp (Ch.get s) w) := by
  have hsz : (ByteArray.mk s.toArray).size = s.length := rfl
  have HE : Hid (Ch.get s = ([], 5)) := Lib.hid (by rw [Ch.get_zero h h0]; unfold Ch.getS; rw [if_pos h1])
  generalize Ch.get s = y at *
  have hz : ¬ (s.length : Int) < 4 := by omega
  have hz2 : (2 : Int) ≤ (s.length : Int) := by omega
  have hz3 : (4 : Int) ≤ (s.length : Int) := by omega
  have e0 := cut2 s 0
  have C0 := Lib.hid (fun W => got_one s 0 W (by omega))
  generalize (s.drop 0).take 2 = t0 at *
  have e2 := cut2 s 2
  have C2 := Lib.hid (fun W => got_one s 2 W (by omega))
  generalize (s.drop 2).take 2 = t2 at *
  rw [h0] at C0
  generalize He.fld s 2 2 = n2 at *
  generalize s.length = n at *
  go_enter Try.func10, Try.ntmps10
  go_wp2_with fail
  refine (C0.out _).mono ?_
  rintro e w0 ⟨rfl, rfl⟩
  clear C0
  go_wp2_with fail
  refine (C2.out _).mono ?_
  rintro e w2 ⟨rfl, rfl⟩
  clear C2
  go_wp2_with fail
  go_ret2
  rw [HE.out]
  exact GotSp.nil rfl (Lo.refl _)

set_option maxRecDepth 100000 in
set_option maxHeartbeats 1600000 in
theorem rcget_zero_more (s : List UInt8) (w : World) (hs : s.length ≤ 9223372036854775807) (h : 4 ≤ s.length) (h0 : He.fld s 0 2 = 0) (h1 : He.fld s 2 2 = 262) (h2 : s.length < 262) : Calls Try.prog 10 #[.string ⟨s.toArray⟩] w (GotSp (Ch.get s) w) := by
  have hsz : (ByteArray.mk s.toArray).size = s.length := rfl
  have HE : Hid (Ch.get s = ([], 4)) := Lib.hid (by rw [Ch.get_zero h h0]; unfold Ch.getS; rw [if_neg (by simpa using h1), if_pos h2])
  generalize Ch.get s = y at *
  have hz : ¬ (s.length : Int) < 4 := by omega
  have hz2 : (2 : Int) ≤ (s.length : Int) := by omega
  have hz3 : (4 : Int) ≤ (s.length : Int) := by omega
  have e0 := cut2 s 0
  have C0 := Lib.hid (fun W => got_one s 0 W (by omega))
  generalize (s.drop 0).take 2 = t0 at *
  have e2 := cut2 s 2
  have C2 := Lib.hid (fun W => got_one s 2 W (by omega))
  generalize (s.drop 2).take 2 = t2 at *
  rw [h0] at C0
  generalize He.fld s 2 2 = n2 at *
  subst h1
  have hz4 : (s.length : Int) < 262 := by omega
  generalize s.length = n at *
  go_enter Try.func10, Try.ntmps10
  go_wp2_with fail
  refine (C0.out _).mono ?_
  rintro e w0 ⟨rfl, rfl⟩
  clear C0
  go_wp2_with fail
  refine (C2.out _).mono ?_
  rintro e w2 ⟨rfl, rfl⟩
  clear C2
  go_wp2_with fail
  go_ret2
  rw [HE.out]
  exact GotSp.nil rfl (Lo.refl _)

set_option maxRecDepth 100000 in
set_option maxHeartbeats 1600000 in
theorem rcget_zero_ok (s : List UInt8) (w : World) (hs : s.length ≤ 9223372036854775807) (h : 4 ≤ s.length) (h0 : He.fld s 0 2 = 0) (h1 : He.fld s 2 2 = 262) (h2 : 262 ≤ s.length) : Calls Try.prog 10 #[.string ⟨s.toArray⟩] w (GotSp (Ch.get s) w) := by
  have hsz : (ByteArray.mk s.toArray).size = s.length := rfl
  have HE : Hid (Ch.get s = (Ch.spansL 0 ((List.range 256).map fun i => He.fld s (6 + 1 * i) 1), 0)) := Lib.hid (by rw [Ch.get_zero h h0]; unfold Ch.getS; rw [if_neg (by simpa using h1), if_neg (by omega)])
  generalize Ch.get s = y at *
  have hz : ¬ (s.length : Int) < 4 := by omega
  have hz2 : (2 : Int) ≤ (s.length : Int) := by omega
  have hz3 : (4 : Int) ≤ (s.length : Int) := by omega
  have e0 := cut2 s 0
  have C0 := Lib.hid (fun W => got_one s 0 W (by omega))
  generalize (s.drop 0).take 2 = t0 at *
  have e2 := cut2 s 2
  have C2 := Lib.hid (fun W => got_one s 2 W (by omega))
  generalize (s.drop 2).take 2 = t2 at *
  rw [h0] at C0
  generalize He.fld s 2 2 = n2 at *
  subst h1
  have hz4 : ¬ (s.length : Int) < 262 := by omega
  have HB : Hid (∀ k, k < 256 → ((List.range 256).map fun i => He.fld s (6 + 1 * i) 1).getD k 0 = ((s.getD (6 + k) 0).toNat : Int)) := Lib.hid (fun k hk => by
    rw [Ch.range_getD _ _ _ hk, Ch.fld_one, Nat.one_mul]; rfl)
  have HGl : Hid (((List.range 256).map fun i => He.fld s (6 + 1 * i) 1).length = 256) := Lib.hid (by simp)
  generalize (List.range 256).map (fun i => He.fld s (6 + 1 * i) 1) = gs at *
  have HSt : Hid (∀ k, k < 256 → Ch.spansL 0 (gs.take (k + 1)) = Ch.spansL 0 (gs.take k) ++ if gs.getD k 0 = 0 then [] else [⟨(k : Int), (k : Int), gs.getD k 0, 1⟩]) := Lib.hid (fun k hk => by
    have := Ch.spansL_step (l := gs) (k := k) (by rw [HGl.out]; exact hk) 0
    rw [Int.zero_add] at this; exact this)
  have HAll : Hid (gs.take 256 = gs) := Lib.hid (by rw [← HGl.out]; exact List.take_length)
  have HLe : Hid (∀ k, (Ch.spansL 0 (gs.take k)).length ≤ k) := Lib.hid (fun k => Nat.le_trans (Ch.spansL_len _ _) (List.length_take_le _ _))
  go_enter Try.func10, Try.ntmps10
  go_wp2_with fail
  refine (C0.out _).mono ?_
  rintro e w0 ⟨rfl, rfl⟩
  clear C0
  go_wp2_with fail
  refine (C2.out _).mono ?_
  rintro e w2 ⟨rfl, rfl⟩
  clear C2
  go_wp2_with fail
  go_loopw [6, 7] (fun s6 s7 W => ∃ (k : Nat) (L : List Ch.Span) (q : Option Addr) (d : Nat), k ≤ 256 ∧ s7 = .int .i64 k ∧ s6 = .slice q L.length d ∧ Hid (L = Ch.spansL 0 (gs.take k)) ∧ Hid (OwnK encS 35 4 W w.heap.size (.slice q L.length d) L) ∧ Hid (Lo w W)) (fun _ s7 _ => 256 - (intOf s7).toNat)
  case atStart => exact ⟨0, [], none, 0, Nat.zero_le _, rfl, rfl, Lib.hid rfl, Lib.hid (OwnK.none _ _ _ _ _), Lib.hid (Lo.refl _)⟩
  case round =>
    obtain ⟨k, L, q, d, hk, rfl, rfl, HT, HO, HL⟩ := hrel
    by_cases hlt : k < 256
    · have hget := ba_at s (6 + k) _ rfl
      have HS1 := Lib.hid (HSt.out k hlt)
      rw [← HT.out, HB.out k hlt] at HS1
      generalize s.getD (6 + k) 0 = b at *
      have hbb := UInt8.toNat_lt b
      have hb1 : ((6 : Int) + (k : Int)).toNat = 6 + k := by omega
      have HLk : Hid (L.length ≤ k) := Lib.hid (by rw [HT.out]; exact HLe.out k)
      have HP := Lib.hid (rsput_any L q d (k : Int) (b.toNat : Int) w.heap.size _ HO.out (by have := HLk.out; omega) HL.out.size)
      rw [← HS1.out] at HP
      generalize hL1 : Ch.spansL 0 (gs.take (k + 1)) = L1 at *
      have HL1 := Lib.hid hL1.symm
      clear hL1
      clear HT
      go_wp2_with fail
      refine HP.out.mono ?_
      rintro e w3 ⟨q1, d1, rfl, hown, hlo⟩
      have HO3 := Lib.hid hown
      have HL3 := Lib.hid (hlo w HL.out (Nat.le_refl _))
      clear hown hlo HP
      go_wp2_with fail
      go_roundw
      case rel => exact ⟨k + 1, L1, q1, d1, by omega, by go_num, rfl, HL1, HO3, HL3⟩
      case measure => simp [intOf]; omega
    · obtain rfl : k = 256 := by omega
      have HE2 : Hid (L = Ch.spansL 0 gs) := Lib.hid (by rw [HT.out, HAll.out])
      go_wp2_with fail
      go_ret2
      rw [HE.out, ← HE2.out]
      exact ⟨q, d, rfl, OwnK.row encS_len HO.out, HL.out⟩

set_option maxRecDepth 100000 in
set_option maxHeartbeats 1600000 in
theorem rcget_six_more (s : List UInt8) (w : World) (hs : s.length ≤ 9223372036854775807) (h : 4 ≤ s.length) (h0 : He.fld s 0 2 = 6) (h1 : s.length < 10) : Calls Try.prog 10 #[.string ⟨s.toArray⟩] w (GotSp (Ch.get s) w) := by
  have hsz : (ByteArray.mk s.toArray).size = s.length := rfl
  have HE : Hid (Ch.get s = ([], 4)) := Lib.hid (by rw [Ch.get_six h h0]; unfold Ch.getT; rw [if_pos h1])
  generalize Ch.get s = y at *
  have hz : ¬ (s.length : Int) < 4 := by omega
  have hz2 : (2 : Int) ≤ (s.length : Int) := by omega
  have hz3 : (4 : Int) ≤ (s.length : Int) := by omega
  have e0 := cut2 s 0
  have C0 := Lib.hid (fun W => got_one s 0 W (by omega))
  generalize (s.drop 0).take 2 = t0 at *
  have e2 := cut2 s 2
  have C2 := Lib.hid (fun W => got_one s 2 W (by omega))
  generalize (s.drop 2).take 2 = t2 at *
  rw [h0] at C0
  have hz4 : (s.length : Int) < 10 := by omega
  generalize He.fld s 2 2 = n2 at *
  generalize s.length = n at *
  go_enter Try.func10, Try.ntmps10
  go_wp2_with fail
  refine (C0.out _).mono ?_
  rintro e w0 ⟨rfl, rfl⟩
  clear C0
  go_wp2_with fail
  refine (C2.out _).mono ?_
  rintro e w2 ⟨rfl, rfl⟩
  clear C2
  go_wp2_with fail
  go_ret2
  rw [HE.out]
  exact GotSp.nil rfl (Lo.refl _)

set_option maxRecDepth 100000 in
set_option maxHeartbeats 1600000 in
theorem rcget_six_form (s : List UInt8) (w : World) (hs : s.length ≤ 9223372036854775807) (h : 4 ≤ s.length) (h0 : He.fld s 0 2 = 6) (h1 : 10 ≤ s.length) (h2 : He.fld s 2 2 ≠ 10 + 2 * He.fld s 8 2) : Calls Try.prog 10 #[.string ⟨s.toArray⟩] w (GotSp (Ch.get s) w) := by
  have hsz : (ByteArray.mk s.toArray).size = s.length := rfl
  have HE : Hid (Ch.get s = ([], 5)) := Lib.hid (by rw [Ch.get_six h h0]; unfold Ch.getT; rw [if_neg (by omega), if_pos h2])
  generalize Ch.get s = y at *
  have hz : ¬ (s.length : Int) < 4 := by omega
  have hz2 : (2 : Int) ≤ (s.length : Int) := by omega
  have hz3 : (4 : Int) ≤ (s.length : Int) := by omega
  have b2 := Ch.fld_bound s 2
  have b6 := Ch.fld_bound s 6
  have b8 := Ch.fld_bound s 8
  have hz5 : ¬ (s.length : Int) < 10 := by omega
  have hz6 : (8 : Int) ≤ (s.length : Int) := by omega
  have hz7 : (10 : Int) ≤ (s.length : Int) := by omega
  have e0 := cut2 s 0
  have C0 := Lib.hid (fun W => got_one s 0 W (by omega))
  generalize (s.drop 0).take 2 = t0 at *
  have e2 := cut2 s 2
  have C2 := Lib.hid (fun W => got_one s 2 W (by omega))
  generalize (s.drop 2).take 2 = t2 at *
  have e6 := cut2 s 6
  have C6 := Lib.hid (fun W => got_one s 6 W (by omega))
  generalize (s.drop 6).take 2 = t6 at *
  have e8 := cut2 s 8
  have C8 := Lib.hid (fun W => got_one s 8 W (by omega))
  generalize (s.drop 8).take 2 = t8 at *
  rw [h0] at C0
  generalize He.fld s 2 2 = n2 at *
  generalize He.fld s 6 2 = x0 at *
  generalize He.fld s 8 2 = x1 at *
  generalize s.length = n at *
  go_enter Try.func10, Try.ntmps10
  go_wp2_with fail
  refine (C0.out _).mono ?_
  rintro e w0 ⟨rfl, rfl⟩
  clear C0
  go_wp2_with fail
  refine (C2.out _).mono ?_
  rintro e w2 ⟨rfl, rfl⟩
  clear C2
  go_wp2_with fail
  refine (C6.out _).mono ?_
  rintro e w6 ⟨rfl, rfl⟩
  clear C6
  go_wp2_with fail
  refine (C8.out _).mono ?_
  rintro e w8 ⟨rfl, rfl⟩
  clear C8
  go_wp2_with fail
  go_ret2
  rw [HE.out]
  exact GotSp.nil rfl (Lo.refl _)

set_option maxRecDepth 100000 in
set_option maxHeartbeats 1600000 in
theorem rcget_six_short (s : List UInt8) (w : World) (hs : s.length ≤ 9223372036854775807) (h : 4 ≤ s.length) (h0 : He.fld s 0 2 = 6) (h1 : 10 ≤ s.length) (h2 : He.fld s 2 2 = 10 + 2 * He.fld s 8 2) (h3 : s.length < 10 + 2 * (He.fld s 8 2).toNat) : Calls Try.prog 10 #[.string ⟨s.toArray⟩] w (GotSp (Ch.get s) w) := by
  have hsz : (ByteArray.mk s.toArray).size = s.length := rfl
  have HE : Hid (Ch.get s = ([], 4)) := Lib.hid (by rw [Ch.get_six h h0]; unfold Ch.getT; rw [if_neg (by omega), if_neg (by simpa using h2), if_pos h3])
  generalize Ch.get s = y at *
  have hz : ¬ (s.length : Int) < 4 := by omega
  have hz2 : (2 : Int) ≤ (s.length : Int) := by omega
  have hz3 : (4 : Int) ≤ (s.length : Int) := by omega
  have b2 := Ch.fld_bound s 2
  have b6 := Ch.fld_bound s 6
  have b8 := Ch.fld_bound s 8
  have hz5 : ¬ (s.length : Int) < 10 := by omega
  have hz6 : (8 : Int) ≤ (s.length : Int) := by omega
  have hz7 : (10 : Int) ≤ (s.length : Int) := by omega
  have e0 := cut2 s 0
  have C0 := Lib.hid (fun W => got_one s 0 W (by omega))
  generalize (s.drop 0).take 2 = t0 at *
  have e2 := cut2 s 2
  have C2 := Lib.hid (fun W => got_one s 2 W (by omega))
  generalize (s.drop 2).take 2 = t2 at *
  have e6 := cut2 s 6
  have C6 := Lib.hid (fun W => got_one s 6 W (by omega))
  generalize (s.drop 6).take 2 = t6 at *
  have e8 := cut2 s 8
  have C8 := Lib.hid (fun W => got_one s 8 W (by omega))
  generalize (s.drop 8).take 2 = t8 at *
  rw [h0] at C0
  generalize He.fld s 2 2 = n2 at *
  generalize He.fld s 6 2 = x0 at *
  generalize He.fld s 8 2 = x1 at *
  subst h2
  have hz8 : (s.length : Int) < 10 + 2 * x1 := by omega
  generalize s.length = n at *
  go_enter Try.func10, Try.ntmps10
  go_wp2_with fail
  refine (C0.out _).mono ?_
  rintro e w0 ⟨rfl, rfl⟩
  clear C0
  go_wp2_with fail
  refine (C2.out _).mono ?_
  rintro e w2 ⟨rfl, rfl⟩
  clear C2
  go_wp2_with fail
  refine (C6.out _).mono ?_
  rintro e w6 ⟨rfl, rfl⟩
  clear C6
  go_wp2_with fail
  refine (C8.out _).mono ?_
  rintro e w8 ⟨rfl, rfl⟩
  clear C8
  go_wp2_with fail
  go_ret2
  rw [HE.out]
  exact GotSp.nil rfl (Lo.refl _)

set_option maxRecDepth 100000 in
set_option maxHeartbeats 1600000 in
theorem rcget_six_over (s : List UInt8) (w : World) (hs : s.length ≤ 9223372036854775807) (h : 4 ≤ s.length) (h0 : He.fld s 0 2 = 6) (h1 : 10 ≤ s.length) (h2 : He.fld s 2 2 = 10 + 2 * He.fld s 8 2) (h3 : ¬ s.length < 10 + 2 * (He.fld s 8 2).toNat) (h4 : 65536 < He.fld s 6 2 + He.fld s 8 2) : Calls Try.prog 10 #[.string ⟨s.toArray⟩] w (GotSp (Ch.get s) w) := by
  have hsz : (ByteArray.mk s.toArray).size = s.length := rfl
  have HE : Hid (Ch.get s = ([], 5)) := Lib.hid (by rw [Ch.get_six h h0]; unfold Ch.getT; rw [if_neg (by omega), if_neg (by simpa using h2), if_neg h3, if_pos h4])
  generalize Ch.get s = y at *
  have hz : ¬ (s.length : Int) < 4 := by omega
  have hz2 : (2 : Int) ≤ (s.length : Int) := by omega
  have hz3 : (4 : Int) ≤ (s.length : Int) := by omega
  have b2 := Ch.fld_bound s 2
  have b6 := Ch.fld_bound s 6
  have b8 := Ch.fld_bound s 8
  have hz5 : ¬ (s.length : Int) < 10 := by omega
  have hz6 : (8 : Int) ≤ (s.length : Int) := by omega
  have hz7 : (10 : Int) ≤ (s.length : Int) := by omega
  have e0 := cut2 s 0
  have C0 := Lib.hid (fun W => got_one s 0 W (by omega))
  generalize (s.drop 0).take 2 = t0 at *
  have e2 := cut2 s 2
  have C2 := Lib.hid (fun W => got_one s 2 W (by omega))
  generalize (s.drop 2).take 2 = t2 at *
  have e6 := cut2 s 6
  have C6 := Lib.hid (fun W => got_one s 6 W (by omega))
  generalize (s.drop 6).take 2 = t6 at *
  have e8 := cut2 s 8
  have C8 := Lib.hid (fun W => got_one s 8 W (by omega))
  generalize (s.drop 8).take 2 = t8 at *
  rw [h0] at C0
  generalize He.fld s 2 2 = n2 at *
  generalize He.fld s 6 2 = x0 at *
  generalize He.fld s 8 2 = x1 at *
  subst h2
  have hz8 : ¬ (s.length : Int) < 10 + 2 * x1 := by omega
  generalize s.length = n at *
  go_enter Try.func10, Try.ntmps10
  go_wp2_with fail
  refine (C0.out _).mono ?_
  rintro e w0 ⟨rfl, rfl⟩
  clear C0
  go_wp2_with fail
  refine (C2.out _).mono ?_
  rintro e w2 ⟨rfl, rfl⟩
  clear C2
  go_wp2_with fail
  refine (C6.out _).mono ?_
  rintro e w6 ⟨rfl, rfl⟩
  clear C6
  go_wp2_with fail
  refine (C8.out _).mono ?_
  rintro e w8 ⟨rfl, rfl⟩
  clear C8
  go_wp2_with fail
  go_ret2
  rw [HE.out]
  exact GotSp.nil rfl (Lo.refl _)

set_option maxRecDepth 100000 in
set_option maxHeartbeats 1600000 in
theorem rcget_six_ok (s : List UInt8) (w : World) (hs : s.length ≤ 9223372036854775807) (h : 4 ≤ s.length) (h0 : He.fld s 0 2 = 6) (h1 : 10 ≤ s.length) (h2 : He.fld s 2 2 = 10 + 2 * He.fld s 8 2) (h3 : ¬ s.length < 10 + 2 * (He.fld s 8 2).toNat) (h4 : ¬ 65536 < He.fld s 6 2 + He.fld s 8 2) : Calls Try.prog 10 #[.string ⟨s.toArray⟩] w (GotSp (Ch.get s) w) := by
  have hsz : (ByteArray.mk s.toArray).size = s.length := rfl
  have HE : Hid (Ch.get s = (Ch.spansL (He.fld s 6 2) ((List.range (He.fld s 8 2).toNat).map fun i => He.fld s (10 + 2 * i) 2), 0)) := Lib.hid (by rw [Ch.get_six h h0]; unfold Ch.getT; rw [if_neg (by omega), if_neg (by simpa using h2), if_neg h3, if_neg h4])
  generalize Ch.get s = y at *
  have hz : ¬ (s.length : Int) < 4 := by omega
  have hz2 : (2 : Int) ≤ (s.length : Int) := by omega
  have hz3 : (4 : Int) ≤ (s.length : Int) := by omega
  have b2 := Ch.fld_bound s 2
  have b6 := Ch.fld_bound s 6
  have b8 := Ch.fld_bound s 8
  have hz5 : ¬ (s.length : Int) < 10 := by omega
  have hz6 : (8 : Int) ≤ (s.length : Int) := by omega
  have hz7 : (10 : Int) ≤ (s.length : Int) := by omega
  have e0 := cut2 s 0
  have C0 := Lib.hid (fun W => got_one s 0 W (by omega))
  generalize (s.drop 0).take 2 = t0 at *
  have e2 := cut2 s 2
  have C2 := Lib.hid (fun W => got_one s 2 W (by omega))
  generalize (s.drop 2).take 2 = t2 at *
  have e6 := cut2 s 6
  have C6 := Lib.hid (fun W => got_one s 6 W (by omega))
  generalize (s.drop 6).take 2 = t6 at *
  have e8 := cut2 s 8
  have C8 := Lib.hid (fun W => got_one s 8 W (by omega))
  generalize (s.drop 8).take 2 = t8 at *
  rw [h0] at C0
  generalize He.fld s 2 2 = n2 at *
  generalize He.fld s 6 2 = x0 at *
  generalize He.fld s 8 2 = x1 at *
  subst h2
  obtain ⟨m, rfl⟩ := Int.eq_ofNat_of_zero_le b8.1
  simp only [Int.toNat_natCast] at *
  have hz8 : ¬ (s.length : Int) < 10 + 2 * (m : Int) := by omega
  have HB : Hid (∀ k, k < m → ((List.range m).map fun i => He.fld s (10 + 2 * i) 2).getD k 0 = He.fld s (10 + 2 * k) 2) := Lib.hid (fun k hk => by rw [Ch.range_getD _ _ _ hk])
  have HGl : Hid (((List.range m).map fun i => He.fld s (10 + 2 * i) 2).length = m) := Lib.hid (by simp)
  generalize (List.range m).map (fun i => He.fld s (10 + 2 * i) 2) = gs at *
  have HSt : Hid (∀ k, k < m → Ch.spansL x0 (gs.take (k + 1)) = Ch.spansL x0 (gs.take k) ++ if gs.getD k 0 = 0 then [] else [⟨x0 + (k : Int), x0 + (k : Int), gs.getD k 0, 1⟩]) := Lib.hid (fun k hk => Ch.spansL_step (l := gs) (k := k) (by rw [HGl.out]; exact hk) x0)
  have HAll : Hid (gs.take m = gs) := Lib.hid (by rw [← HGl.out]; exact List.take_length)
  have HLe : Hid (∀ k, (Ch.spansL x0 (gs.take k)).length ≤ k) := Lib.hid (fun k => Nat.le_trans (Ch.spansL_len _ _) (List.length_take_le _ _))
  go_enter Try.func10, Try.ntmps10
  go_wp2_with fail
  refine (C0.out _).mono ?_
  rintro e w0 ⟨rfl, rfl⟩
  clear C0
  go_wp2_with fail
  refine (C2.out _).mono ?_
  rintro e w2 ⟨rfl, rfl⟩
  clear C2
  go_wp2_with fail
  refine (C6.out _).mono ?_
  rintro e w6 ⟨rfl, rfl⟩
  clear C6
  go_wp2_with fail
  refine (C8.out _).mono ?_
  rintro e w8 ⟨rfl, rfl⟩
  clear C8
  go_wp2_with fail
  go_loopw [6, 10] (fun s6 s10 W => ∃ (k : Nat) (L : List Ch.Span) (q : Option Addr) (d : Nat), k ≤ m ∧ s10 = .int .i64 k ∧ s6 = .slice q L.length d ∧ Hid (L = Ch.spansL x0 (gs.take k)) ∧ Hid (OwnK encS 35 4 W w.heap.size (.slice q L.length d) L) ∧ Hid (Lo w W)) (fun _ s10 _ => m - (intOf s10).toNat)
  case atStart => exact ⟨0, [], none, 0, Nat.zero_le _, rfl, rfl, Lib.hid rfl, Lib.hid (OwnK.none _ _ _ _ _), Lib.hid (Lo.refl _)⟩
  case round =>
    obtain ⟨k, L, q, d, hk, rfl, rfl, HT, HO, HL⟩ := hrel
    by_cases hlt : k < m
    · have HS1 := Lib.hid (HSt.out k hlt)
      rw [← HT.out, HB.out k hlt] at HS1
      have C := Lib.hid (fun W => got_one s (10 + 2 * k) W (by omega))
      have ec := cut2 s (10 + 2 * k)
      have hk1 : ((10 : Int) + 2 * (k : Int)).toNat = 10 + 2 * k := by omega
      have hk2 : ((12 : Int) + 2 * (k : Int)).toNat = 10 + 2 * k + 2 := by omega
      have hk3 : (12 : Int) + 2 * (k : Int) ≤ (s.length : Int) := by omega
      have HLk : Hid (L.length ≤ k) := Lib.hid (by rw [HT.out]; exact HLe.out k)
      have HP := Lib.hid (rsput_any L q d (x0 + (k : Int)) (He.fld s (10 + 2 * k) 2) w.heap.size _ HO.out (by have := HLk.out; omega) HL.out.size)
      rw [← HS1.out] at HP
      generalize hL1 : Ch.spansL x0 (gs.take (k + 1)) = L1 at *
      have HL1 := Lib.hid hL1.symm
      clear hL1
      generalize (s.drop (10 + 2 * k)).take 2 = tc at *
      generalize He.fld s (10 + 2 * k) 2 = g at *
      clear HT
      go_wp2_with fail
      refine (C.out _).mono ?_
      rintro e w2 ⟨rfl, rfl⟩
      clear C
      go_wp2_with fail
      refine HP.out.mono ?_
      rintro e w3 ⟨q1, d1, rfl, hown, hlo⟩
      have HO3 := Lib.hid hown
      have HL3 := Lib.hid (hlo w HL.out (Nat.le_refl _))
      clear hown hlo HP
      go_wp2_with fail
      go_roundw
      case rel => exact ⟨k + 1, L1, q1, d1, by omega, by go_num, rfl, HL1, HO3, HL3⟩
      case measure => simp [intOf]; omega
    · obtain rfl : k = m := by omega
      have HE2 : Hid (L = Ch.spansL x0 gs) := Lib.hid (by rw [HT.out, HAll.out])
      go_wp2_with fail
      go_ret2
      rw [HE.out, ← HE2.out]
      exact ⟨q, d, rfl, OwnK.row encS_len HO.out, HL.out⟩

theorem rcget_any (s : List UInt8) (w : World) (hs : s.length ≤ 9223372036854775807) : Calls Try.prog 10 #[.string ⟨s.toArray⟩] w (GotSp (Ch.get s) w) := by
  rcases Nat.lt_or_ge s.length 4 with h | h
  · exact rcget_more s w hs h
  · by_cases h0 : He.fld s 0 2 = 0
    · by_cases h1 : He.fld s 2 2 = 262
      · rcases Nat.lt_or_ge s.length 262 with h2 | h2
        · exact rcget_zero_more s w hs h h0 h1 h2
        · exact rcget_zero_ok s w hs h h0 h1 h2
      · exact rcget_zero_form s w hs h h0 h1
    · by_cases h6 : He.fld s 0 2 = 6
      · rcases Nat.lt_or_ge s.length 10 with h1 | h1
        · exact rcget_six_more s w hs h h6 h1
        · by_cases h2 : He.fld s 2 2 = 10 + 2 * He.fld s 8 2
          · by_cases h3 : s.length < 10 + 2 * (He.fld s 8 2).toNat
            · exact rcget_six_short s w hs h h6 h1 h2 h3
            · by_cases h4 : 65536 < He.fld s 6 2 + He.fld s 8 2
              · exact rcget_six_over s w hs h h6 h1 h2 h3 h4
              · exact rcget_six_ok s w hs h h6 h1 h2 h3 h4
          · exact rcget_six_form s w hs h h6 h1 h2
      · exact rcget_form s w hs h h0 h6
end Go.Proofs.Ytjfobpbnofjjdaa
