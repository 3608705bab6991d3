/-
  Facts that the walks rest on: ChRefGet, SgRef. No conditions beyond those stated.
-/
import Derived.Test.YtppihpjcdieeoaaGreatDoorPart04
import Derived.Test.YtppihpjcdieeoaaGreatDoorPart24
import Derived.Test.YtppihpjcdieeoaaGreatDoorPart06
import Derived.Test.YtppihpjcdieeoaaGreatDoorGround
/-
  Contracts of the document's put and Get (layer 8). No conditions beyond those stated.
-/
namespace Go.Proofs.YtppihpjcdieeoaaGreatDoor
open Go.RowKit

set_option maxHeartbeats 800000 in
theorem rsput_any (L : List Ch.Span) (q : Option Addr) (d : Nat) (c g : Int) (base : Nat) (w : World) (ho : OwnK encS 63 4 w base (.slice q L.length d) L) (hL : L.length ≤ 100000) (hb : base ≤ w.heap.size) :
    Calls Tryz.prog 65 #[.slice q L.length d, .int .i64 c, .int .i64 g] w fun e w' => ∃ q1 d1, e = .returned (.slice q1 (L ++ if g = 0 then [] else ([⟨c, c, g, 1⟩] : List Ch.Span)).length d1) ∧ OwnK encS 63 4 w' base (.slice q1 (L ++ if g = 0 then [] else ([⟨c, c, g, 1⟩] : List Ch.Span)).length d1) (L ++ if g = 0 then [] else ([⟨c, c, g, 1⟩] : List Ch.Span)) ∧ ∀ w0, Lo w0 w → w0.heap.size ≤ base → Lo w0 w' := by
  have HO := Lib.hid ho
  have HB := Lib.hid hb
  have HLn := Lib.hid hL
  clear ho hb hL
  by_cases hg : g = 0
  · subst hg
    rw [if_pos rfl, List.append_nil]
    go_enter Tryz.func65, Tryz.ntmps65
    go_wp2_with fail
    go_ret
    exact ⟨q, d, rfl, HO.out, fun _ h _ => h⟩
  · rw [if_neg hg]
    go_enter Tryz.func65, Tryz.ntmps65
    go_wp2_with (at_builtin; refine wpList_appK _ rfl (.tmp 10) (.tmp 15) _ rfl 63 4 32 _ Tryz.underlying22 api_info rfl (by omega) (by omega) encS_len encS_one base (.slice q L.length d) L rfl (OwnK.lo HO.out ((Lo.refl _).alloc _)) _ [⟨c, c, g, 1⟩] rfl (srow1 _ _ rfl ⟨c, c, g, 1⟩ _) (by have := HLn.out; simp; omega) (by have := HB.out; simp; omega) ?_; intro q1 d1 w3 hown hlo; have HO3 := Lib.hid hown; have HL3 := Lib.hid hlo; clear hown hlo)
    go_ret
    refine ⟨q1, d1, ?_, by simpa using HO3.out, fun w0 h h2 => HL3.out w0 (h.alloc _) h2⟩
    simp

theorem cut2 (s : List UInt8) (p : Nat) : (⟨s.toArray⟩ : ByteArray).extract p (p + 2) = ⟨((s.drop p).take 2).toArray⟩ := by rw [Gk.extract_list, Nat.add_sub_cancel_left]
theorem cut2_len {s : List UInt8} {p : Nat} (h : p + 2 ≤ s.length) : ((s.drop p).take 2).length = 2 := by rw [List.length_take, List.length_drop]; omega
theorem got_one (s : List UInt8) (p : Nat) (W : World) (h : p + 2 ≤ s.length) : Calls Tryz.prog 31 #[.string ⟨((s.drop p).take 2).toArray⟩, .int .i64 2] W fun e w' => e = .returned (.int .i64 (He.fld s p 2)) ∧ W = w' := rone_any _ 2 W (by rw [cut2_len h]; omega)

set_option maxRecDepth 100000 in
set_option maxHeartbeats 1600000 in
theorem rcget_more (s : List UInt8) (w : World) (hs : s.length ≤ 9223372036854775807) (h : s.length < 4) : Calls Tryz.prog 34 #[.string ⟨s.toArray⟩] w (GotSp (Ch.get s) w) := by
  have hsz : (ByteArray.mk s.toArray).size = s.length := rfl
  have HE := Lib.hid (Ch.get_more h)
  generalize Ch.get s = y at *
  have hz : (s.length : Int) < 4 := by omega
  generalize s.length = n at *
  go_enter Tryz.func34, Tryz.ntmps34
  go_wp2_with fail
  go_ret2
  rw [HE.out]
  exact GotSp.nil rfl (Lo.refl _)

set_option maxRecDepth 100000 in
set_option maxHeartbeats 1600000 in
theorem rcget_form (s : List UInt8) (w : World) (hs : s.length ≤ 9223372036854775807) (h : 4 ≤ s.length) (h0 : He.fld s 0 2 ≠ 0) (h6 : He.fld s 0 2 ≠ 6) : Calls Tryz.prog 34 #[.string ⟨s.toArray⟩] w (GotSp (Ch.get s) w) := by
  have hsz : (ByteArray.mk s.toArray).size = s.length := rfl
  have HE := Lib.hid (Ch.get_form5 h h0 h6)
  generalize Ch.get s = y at *
  have hz : ¬ (s.length : Int) < 4 := by omega
  have hz2 : (2 : Int) ≤ (s.length : Int) := by omega
  have hz3 : (4 : Int) ≤ (s.length : Int) := by omega
  have e0 := cut2 s 0
  have C0 := Lib.hid (fun W => got_one s 0 W (by omega))
  generalize (s.drop 0).take 2 = t0 at *
  have e2 := cut2 s 2
  have C2 := Lib.hid (fun W => got_one s 2 W (by omega))
  generalize (s.drop 2).take 2 = t2 at *
  generalize He.fld s 0 2 = f at *
  generalize He.fld s 2 2 = n2 at *
  generalize s.length = n at *
  go_enter Tryz.func34, Tryz.ntmps34
  go_wp2_with fail
  refine (C0.out _).mono ?_
  rintro e w0 ⟨rfl, rfl⟩
  clear C0
  go_wp2_with fail
  refine (C2.out _).mono ?_
  rintro e w2 ⟨rfl, rfl⟩
  clear C2
  go_wp2_with fail
  go_ret2
  rw [HE.out]
  exact GotSp.nil rfl (Lo.refl _)

set_option maxRecDepth 100000 in
set_option maxHeartbeats 1600000 in
theorem rcget_zero_form (s : List UInt8) (w : World) (hs : s.length ≤ 9223372036854775807) (h : 4 ≤ s.length) (h0 : He.fld s 0 2 = 0) (h1 : He.fld s 2 2 ≠ 262) : Calls Tryz.prog 34 #[.string ⟨s.toArray⟩] w (GotSp (Ch.get s) w) := by
  have hsz : (ByteArray.mk s.toArray).size = s.length := rfl
  have HE : Hid (Ch.get s = ([], 5)) := Lib.hid (by rw [Ch.get_zero h h0]; unfold Ch.getS; rw [if_pos h1])
  generalize Ch.get s = y at *
  have hz : ¬ (s.length : Int) < 4 := by omega
  have hz2 : (2 : Int) ≤ (s.length : Int) := by omega
  have hz3 : (4 : Int) ≤ (s.length : Int) := by omega
  have e0 := cut2 s 0
  have C0 := Lib.hid (fun W => got_one s 0 W (by omega))
  generalize (s.drop 0).take 2 = t0 at *
  have e2 := cut2 s 2
  have C2 := Lib.hid (fun W => got_one s 2 W (by omega))
  generalize (s.drop 2).take 2 = t2 at *
  rw [h0] at C0
  generalize He.fld s 2 2 = n2 at *
  generalize s.length = n at *
  go_enter Tryz.func34, Tryz.ntmps34
  go_wp2_with fail
  refine (C0.out _).mono ?_
  rintro e w0 ⟨rfl, rfl⟩
  clear C0
  go_wp2_with fail
  refine (C2.out _).mono ?_
  rintro e w2 ⟨rfl, rfl⟩
  clear C2
  go_wp2_with fail
  go_ret2
  rw [HE.out]
  exact GotSp.nil rfl (Lo.refl _)

set_option maxRecDepth 100000 in
set_option maxHeartbeats 1600000 in
theorem rcget_zero_more (s : List UInt8) (w : World) (hs : s.length ≤ 9223372036854775807) (h : 4 ≤ s.length) (h0 : He.fld s 0 2 = 0) (h1 : He.fld s 2 2 = 262) (h2 : s.length < 262) : Calls Tryz.prog 34 #[.string ⟨s.toArray⟩] w (GotSp (Ch.get s) w) := by
  have hsz : (ByteArray.mk s.toArray).size = s.length := rfl
  have HE : Hid (Ch.get s = ([], 4)) := Lib.hid (by rw [Ch.get_zero h h0]; unfold Ch.getS; rw [if_neg (by simpa using h1), if_pos h2])
  generalize Ch.get s = y at *
  have hz : ¬ (s.length : Int) < 4 := by omega
  have hz2 : (2 : Int) ≤ (s.length : Int) := by omega
  have hz3 : (4 : Int) ≤ (s.length : Int) := by omega
  have e0 := cut2 s 0
  have C0 := Lib.hid (fun W => got_one s 0 W (by omega))
  generalize (s.drop 0).take 2 = t0 at *
  have e2 := cut2 s 2
  have C2 := Lib.hid (fun W => got_one s 2 W (by omega))
  generalize (s.drop 2).take 2 = t2 at *
  rw [h0] at C0
  generalize He.fld s 2 2 = n2 at *
  subst h1
  have hz4 : (s.length : Int) < 262 := by omega
  generalize s.length = n at *
  go_enter Tryz.func34, Tryz.ntmps34
  go_wp2_with fail
  refine (C0.out _).mono ?_
  rintro e w0 ⟨rfl, rfl⟩
  clear C0
  go_wp2_with fail
  refine (C2.out _).mono ?_
  rintro e w2 ⟨rfl, rfl⟩
  clear C2
  go_wp2_with fail
  go_ret2
  rw [HE.out]
  exact GotSp.nil rfl (Lo.refl _)

set_option maxRecDepth 100000 in
set_option maxHeartbeats 1600000 in
theorem rcget_zero_ok (s : List UInt8) (w : World) (hs : s.length ≤ 9223372036854775807) (h : 4 ≤ s.length) (h0 : He.fld s 0 2 = 0) (h1 : He.fld s 2 2 = 262) (h2 : 262 ≤ s.length) : Calls Tryz.prog 34 #[.string ⟨s.toArray⟩] w (GotSp (Ch.get s) w) := by
  have hsz : (ByteArray.mk s.toArray).size = s.length := rfl
  have HE : Hid (Ch.get s = (Ch.spansL 0 ((List.range 256).map fun i => He.fld s (6 + 1 * i) 1), 0)) := Lib.hid (by rw [Ch.get_zero h h0]; unfold Ch.getS; rw [if_neg (by simpa using h1), if_neg (by omega)])
  generalize Ch.get s = y at *
  have hz : ¬ (s.length : Int) < 4 := by omega
  have hz2 : (2 : Int) ≤ (s.length : Int) := by omega
  have hz3 : (4 : Int) ≤ (s.length : Int) := by omega
  have e0 := cut2 s 0
  have C0 := Lib.hid (fun W => got_one s 0 W (by omega))
  generalize (s.drop 0).take 2 = t0 at *
  have e2 := cut2 s 2
  have C2 := Lib.hid (fun W => got_one s 2 W (by omega))
  generalize (s.drop 2).take 2 = t2 at *
  rw [h0] at C0
  generalize He.fld s 2 2 = n2 at *
  subst h1
  have hz4 : ¬ (s.length : Int) < 262 := by omega
  have HB : Hid (∀ k, k < 256 → ((List.range 256).map fun i => He.fld s (6 + 1 * i) 1).getD k 0 = ((s.getD (6 + k) 0).toNat : Int)) := Lib.hid (fun k hk => by
    rw [Ch.range_getD _ _ _ hk, Ch.fld_one, Nat.one_mul]; rfl)
  have HGl : Hid (((List.range 256).map fun i => He.fld s (6 + 1 * i) 1).length = 256) := Lib.hid (by simp)
  generalize (List.range 256).map (fun i => He.fld s (6 + 1 * i) 1) = gs at *
  have HSt : Hid (∀ k, k < 256 → Ch.spansL 0 (gs.take (k + 1)) = Ch.spansL 0 (gs.take k) ++ if gs.getD k 0 = 0 then [] else [⟨(k : Int), (k : Int), gs.getD k 0, 1⟩]) := Lib.hid (fun k hk => by
    have := Ch.spansL_step (l := gs) (k := k) (by rw [HGl.out]; exact hk) 0
    rw [Int.zero_add] at this; exact this)
  have HAll : Hid (gs.take 256 = gs) := Lib.hid (by rw [← HGl.out]; exact List.take_length)
  have HLe : Hid (∀ k, (Ch.spansL 0 (gs.take k)).length ≤ k) := Lib.hid (fun k => Nat.le_trans (Ch.spansL_len _ _) (List.length_take_le _ _))
  go_enter Tryz.func34, Tryz.ntmps34
  go_wp2_with fail
  refine (C0.out _).mono ?_
  rintro e w0 ⟨rfl, rfl⟩
  clear C0
  go_wp2_with fail
  refine (C2.out _).mono ?_
  rintro e w2 ⟨rfl, rfl⟩
  clear C2
  go_wp2_with fail
  go_loopw [6, 7] (fun s6 s7 W => ∃ (k : Nat) (L : List Ch.Span) (q : Option Addr) (d : Nat), k ≤ 256 ∧ s7 = .int .i64 k ∧ s6 = .slice q L.length d ∧ Hid (L = Ch.spansL 0 (gs.take k)) ∧ Hid (OwnK encS 63 4 W w.heap.size (.slice q L.length d) L) ∧ Hid (Lo w W)) (fun _ s7 _ => 256 - (intOf s7).toNat)
  case atStart => exact ⟨0, [], none, 0, Nat.zero_le _, rfl, rfl, Lib.hid rfl, Lib.hid (OwnK.none _ _ _ _ _), Lib.hid (Lo.refl _)⟩
  case round =>
    obtain ⟨k, L, q, d, hk, rfl, rfl, HT, HO, HL⟩ := hrel
    by_cases hlt : k < 256
    · have hget := ba_at s (6 + k) _ rfl
      have HS1 := Lib.hid (HSt.out k hlt)
      rw [← HT.out, HB.out k hlt] at HS1
      generalize s.getD (6 + k) 0 = b at *
      have hbb := UInt8.toNat_lt b
      have hb1 : ((6 : Int) + (k : Int)).toNat = 6 + k := by omega
      have HLk : Hid (L.length ≤ k) := Lib.hid (by rw [HT.out]; exact HLe.out k)
      have HP := Lib.hid (rsput_any L q d (k : Int) (b.toNat : Int) w.heap.size _ HO.out (by have := HLk.out; omega) HL.out.size)
      rw [← HS1.out] at HP
      generalize hL1 : Ch.spansL 0 (gs.take (k + 1)) = L1 at *
      have HL1 := Lib.hid hL1.symm
      clear hL1
      clear HT
      go_wp2_with fail
      refine HP.out.mono ?_
      rintro e w3 ⟨q1, d1, rfl, hown, hlo⟩
      have HO3 := Lib.hid hown
      have HL3 := Lib.hid (hlo w HL.out (Nat.le_refl _))
      clear hown hlo HP
      go_wp2_with fail
      go_roundw
      case rel => exact ⟨k + 1, L1, q1, d1, by omega, by go_num, rfl, HL1, HO3, HL3⟩
      case measure => simp [intOf]; omega
    · obtain rfl : k = 256 := by omega
      have HE2 : Hid (L = Ch.spansL 0 gs) := Lib.hid (by rw [HT.out, HAll.out])
      go_wp2_with fail
      go_ret2
      rw [HE.out, ← HE2.out]
      exact ⟨q, d, rfl, OwnK.row encS_len HO.out, HL.out⟩

set_option maxRecDepth 100000 in
set_option maxHeartbeats 1600000 in
theorem rcget_six_more (s : List UInt8) (w : World) (hs : s.length ≤ 9223372036854775807) (h : 4 ≤ s.length) (h0 : He.fld s 0 2 = 6) (h1 : s.length < 10) : Calls Tryz.prog 34 #[.string ⟨s.toArray⟩] w (GotSp (Ch.get s) w) := by
  have hsz : (ByteArray.mk s.toArray).size = s.length := rfl
  have HE : Hid (Ch.get s = ([], 4)) := Lib.hid (by rw [Ch.get_six h h0]; unfold Ch.getT; rw [if_pos h1])
  generalize Ch.get s = y at *
  have hz : ¬ (s.length : Int) < 4 := by omega
  have hz2 : (2 : Int) ≤ (s.length : Int) := by omega
  have hz3 : (4 : Int) ≤ (s.length : Int) := by omega
  have e0 := cut2 s 0
  have C0 := Lib.hid (fun W => got_one s 0 W (by omega))
  generalize (s.drop 0).take 2 = t0 at *
  have e2 := cut2 s 2
  have C2 := Lib.hid (fun W => got_one s 2 W (by omega))
  generalize (s.drop 2).take 2 = t2 at *
  rw [h0] at C0
  have hz4 : (s.length : Int) < 10 := by omega
  generalize He.fld s 2 2 = n2 at *
  generalize s.length = n at *
  go_enter Tryz.func34, Tryz.ntmps34
  go_wp2_with fail
  refine (C0.out _).mono ?_
  rintro e w0 ⟨rfl, rfl⟩
  clear C0
  go_wp2_with fail
  refine (C2.out _).mono ?_
  rintro e w2 ⟨rfl, rfl⟩
  clear C2
  go_wp2_with fail
  go_ret2
  rw [HE.out]
  exact GotSp.nil rfl (Lo.refl _)

set_option maxRecDepth 100000 in
set_option maxHeartbeats 1600000 in
theorem rcget_six_form (s : List UInt8) (w : World) (hs : s.length ≤ 9223372036854775807) (h : 4 ≤ s.length) (h0 : He.fld s 0 2 = 6) (h1 : 10 ≤ s.length) (h2 : He.fld s 2 2 ≠ 10 + 2 * He.fld s 8 2) : Calls Tryz.prog 34 #[.string ⟨s.toArray⟩] w (GotSp (Ch.get s) w) := by
  have hsz : (ByteArray.mk s.toArray).size = s.length := rfl
  have HE : Hid (Ch.get s = ([], 5)) := Lib.hid (by rw [Ch.get_six h h0]; unfold Ch.getT; rw [if_neg (by omega), if_pos h2])
  generalize Ch.get s = y at *
  have hz : ¬ (s.length : Int) < 4 := by omega
  have hz2 : (2 : Int) ≤ (s.length : Int) := by omega
  have hz3 : (4 : Int) ≤ (s.length : Int) := by omega
  have b2 := Ch.fld_bound s 2
  have b6 := Ch.fld_bound s 6
  have b8 := Ch.fld_bound s 8
  have hz5 : ¬ (s.length : Int) < 10 := by omega
  have hz6 : (8 : Int) ≤ (s.length : Int) := by omega
  have hz7 : (10 : Int) ≤ (s.length : Int) := by omega
  have e0 := cut2 s 0
  have C0 := Lib.hid (fun W => got_one s 0 W (by omega))
  generalize (s.drop 0).take 2 = t0 at *
  have e2 := cut2 s 2
  have C2 := Lib.hid (fun W => got_one s 2 W (by omega))
  generalize (s.drop 2).take 2 = t2 at *
  have e6 := cut2 s 6
  have C6 := Lib.hid (fun W => got_one s 6 W (by omega))
  generalize (s.drop 6).take 2 = t6 at *
  have e8 := cut2 s 8
  have C8 := Lib.hid (fun W => got_one s 8 W (by omega))
  generalize (s.drop 8).take 2 = t8 at *
  rw [h0] at C0
  generalize He.fld s 2 2 = n2 at *
  generalize He.fld s 6 2 = x0 at *
  generalize He.fld s 8 2 = x1 at *
  generalize s.length = n at *
  go_enter Tryz.func34, Tryz.ntmps34
  go_wp2_with fail
  refine (C0.out _).mono ?_
  rintro e w0 ⟨rfl, rfl⟩
  clear C0
  go_wp2_with fail
  refine (C2.out _).mono ?_
  rintro e w2 ⟨rfl, rfl⟩
  clear C2
  go_wp2_with fail
  refine (C6.out _).mono ?_
  rintro e w6 ⟨rfl, rfl⟩
  clear C6
  go_wp2_with fail
  refine (C8.out _).mono ?_
  rintro e w8 ⟨rfl, rfl⟩
  clear C8
  go_wp2_with fail
  go_ret2
  rw [HE.out]
  exact GotSp.nil rfl (Lo.refl _)

set_option maxRecDepth 100000 in
set_option maxHeartbeats 1600000 in
theorem rcget_six_short (s : List UInt8) (w : World) (hs : s.length ≤ 9223372036854775807) (h : 4 ≤ s.length) (h0 : He.fld s 0 2 = 6) (h1 : 10 ≤ s.length) (h2 : He.fld s 2 2 = 10 + 2 * He.fld s 8 2) (h3 : s.length < 10 + 2 * (He.fld s 8 2).toNat) : Calls Tryz.prog 34 #[.string ⟨s.toArray⟩] w (GotSp (Ch.get s) w) := by
  have hsz : (ByteArray.mk s.toArray).size = s.length := rfl
  have HE : Hid (Ch.get s = ([], 4)) := Lib.hid (by rw [Ch.get_six h h0]; unfold Ch.getT; rw [if_neg (by omega), if_neg (by simpa using h2), if_pos h3])
  generalize Ch.get s = y at *
  have hz : ¬ (s.length : Int) < 4 := by omega
  have hz2 : (2 : Int) ≤ (s.length : Int) := by omega
  have hz3 : (4 : Int) ≤ (s.length : Int) := by omega
  have b2 := Ch.fld_bound s 2
  have b6 := Ch.fld_bound s 6
  have b8 := Ch.fld_bound s 8
  have hz5 : ¬ (s.length : Int) < 10 := by omega
  have hz6 : (8 : Int) ≤ (s.length : Int) := by omega
  have hz7 : (10 : Int) ≤ (s.length : Int) := by omega
  have e0 := cut2 s 0
  have C0 := Lib.hid (fun W => got_one s 0 W (by omega))
  generalize (s.drop 0).take 2 = t0 at *
  have e2 := cut2 s 2
  have C2 := Lib.hid (fun W => got_one s 2 W (by omega))
  generalize (s.drop 2).take 2 = t2 at *
  have e6 := cut2 s 6
  have C6 := Lib.hid (fun W => got_one s 6 W (by omega))
  generalize (s.drop 6).take 2 = t6 at *
  have e8 := cut2 s 8
  have C8 := Lib.hid (fun W => got_one s 8 W (by omega))
  generalize (s.drop 8).take 2 = t8 at *
  rw [h0] at C0
  generalize He.fld s 2 2 = n2 at *
  generalize He.fld s 6 2 = x0 at *
  generalize He.fld s 8 2 = x1 at *
  subst h2
  have hz8 : (s.length : Int) < 10 + 2 * x1 := by omega
  generalize s.length = n at *
  go_enter Tryz.func34, Tryz.ntmps34
  go_wp2_with fail
  refine (C0.out _).mono ?_
  rintro e w0 ⟨rfl, rfl⟩
  clear C0
  go_wp2_with fail
  refine (C2.out _).mono ?_
  rintro e w2 ⟨rfl, rfl⟩
  clear C2
  go_wp2_with fail
  refine (C6.out _).mono ?_
  rintro e w6 ⟨rfl, rfl⟩
  clear C6
  go_wp2_with fail
  refine (C8.out _).mono ?_
  rintro e w8 ⟨rfl, rfl⟩
  clear C8
  go_wp2_with fail
  go_ret2
  rw [HE.out]
  exact GotSp.nil rfl (Lo.refl _)

set_option maxRecDepth 100000 in
set_option maxHeartbeats 1600000 in
theorem rcget_six_over (s : List UInt8) (w : World) (hs : s.length ≤ 9223372036854775807) (h : 4 ≤ s.length) (h0 : He.fld s 0 2 = 6) (h1 : 10 ≤ s.length) (h2 : He.fld s 2 2 = 10 + 2 * He.fld s 8 2) (h3 : ¬ s.length < 10 + 2 * (He.fld s 8 2).toNat) (h4 : 65536 < He.fld s 6 2 + He.fld s 8 2) : Calls Tryz.prog 34 #[.string ⟨s.toArray⟩] w (GotSp (Ch.get s) w) := by
  have hsz : (ByteArray.mk s.toArray).size = s.length := rfl
  have HE : Hid (Ch.get s = ([], 5)) := Lib.hid (by rw [Ch.get_six h h0]; unfold Ch.getT; rw [if_neg (by omega), if_neg (by simpa using h2), if_neg h3, if_pos h4])
  generalize Ch.get s = y at *
  have hz : ¬ (s.length : Int) < 4 := by omega
  have hz2 : (2 : Int) ≤ (s.length : Int) := by omega
  have hz3 : (4 : Int) ≤ (s.length : Int) := by omega
  have b2 := Ch.fld_bound s 2
  have b6 := Ch.fld_bound s 6
  have b8 := Ch.fld_bound s 8
  have hz5 : ¬ (s.length : Int) < 10 := by omega
  have hz6 : (8 : Int) ≤ (s.length : Int) := by omega
  have hz7 : (10 : Int) ≤ (s.length : Int) := by omega
  have e0 := cut2 s 0
  have C0 := Lib.hid (fun W => got_one s 0 W (by omega))
  generalize (s.drop 0).take 2 = t0 at *
  have e2 := cut2 s 2
  have C2 := Lib.hid (fun W => got_one s 2 W (by omega))
  generalize (s.drop 2).take 2 = t2 at *
  have e6 := cut2 s 6
  have C6 := Lib.hid (fun W => got_one s 6 W (by omega))
  generalize (s.drop 6).take 2 = t6 at *
  have e8 := cut2 s 8
  have C8 := Lib.hid (fun W => got_one s 8 W (by omega))
  generalize (s.drop 8).take 2 = t8 at *
  rw [h0] at C0
  generalize He.fld s 2 2 = n2 at *
  generalize He.fld s 6 2 = x0 at *
  generalize He.fld s 8 2 = x1 at *
  subst h2
  have hz8 : ¬ (s.length : Int) < 10 + 2 * x1 := by omega
  generalize s.length = n at *
  go_enter Tryz.func34, Tryz.ntmps34
  go_wp2_with fail
  refine (C0.out _).mono ?_
  rintro e w0 ⟨rfl, rfl⟩
  clear C0
  go_wp2_with fail
  refine (C2.out _).mono ?_
  rintro e w2 ⟨rfl, rfl⟩
  clear C2
  go_wp2_with fail
  refine (C6.out _).mono ?_
  rintro e w6 ⟨rfl, rfl⟩
  clear C6
  go_wp2_with fail
  refine (C8.out _).mono ?_
  rintro e w8 ⟨rfl, rfl⟩
  clear C8
  go_wp2_with fail
  go_ret2
  rw [HE.out]
  exact GotSp.nil rfl (Lo.refl _)

set_option maxRecDepth 100000 in
set_option maxHeartbeats 1600000 in
theorem rcget_six_ok (s : List UInt8) (w : World) (hs : s.length ≤ 9223372036854775807) (h : 4 ≤ s.length) (h0 : He.fld s 0 2 = 6) (h1 : 10 ≤ s.length) (h2 : He.fld s 2 2 = 10 + 2 * He.fld s 8 2) (h3 : ¬ s.length < 10 + 2 * (He.fld s 8 2).toNat) (h4 : ¬ 65536 < He.fld s 6 2 + He.fld s 8 2) : Calls Tryz.prog 34 #[.string ⟨s.toArray⟩] w (GotSp (Ch.get s) w) := by
  have hsz : (ByteArray.mk s.toArray).size = s.length := rfl
  have HE : Hid (Ch.get s = (Ch.spansL (He.fld s 6 2) ((List.range (He.fld s 8 2).toNat).map fun i => He.fld s (10 + 2 * i) 2), 0)) := Lib.hid (by rw [Ch.get_six h h0]; unfold Ch.getT; rw [if_neg (by omega), if_neg (by simpa using h2), if_neg h3, if_neg h4])
  generalize Ch.get s = y at *
  have hz : ¬ (s.length : Int) < 4 := by omega
  have hz2 : (2 : Int) ≤ (s.length : Int) := by omega
  have hz3 : (4 : Int) ≤ (s.length : Int) := by omega
  have b2 := Ch.fld_bound s 2
  have b6 := Ch.fld_bound s 6
  have b8 := Ch.fld_bound s 8
  have hz5 : ¬ (s.length : Int) < 10 := by omega
  have hz6 : (8 : Int) ≤ (s.length : Int) := by omega
  have hz7 : (10 : Int) ≤ (s.length : Int) := by omega
  have e0 := cut2 s 0
  have C0 := Lib.hid (fun W => got_one s 0 W (by omega))
  generalize (s.drop 0).take 2 = t0 at *
  have e2 := cut2 s 2
  have C2 := Lib.hid (fun W => got_one s 2 W (by omega))
  generalize (s.drop 2).take 2 = t2 at *
  have e6 := cut2 s 6
  have C6 := Lib.hid (fun W => got_one s 6 W (by omega))
  generalize (s.drop 6).take 2 = t6 at *
  have e8 := cut2 s 8
  have C8 := Lib.hid (fun W => got_one s 8 W (by omega))
  generalize (s.drop 8).take 2 = t8 at *
  rw [h0] at C0
  generalize He.fld s 2 2 = n2 at *
  generalize He.fld s 6 2 = x0 at *
  generalize He.fld s 8 2 = x1 at *
  subst h2
  obtain ⟨m, rfl⟩ := Int.eq_ofNat_of_zero_le b8.1
  simp only [Int.toNat_natCast] at *
  have hz8 : ¬ (s.length : Int) < 10 + 2 * (m : Int) := by omega
  have HB : Hid (∀ k, k < m → ((List.range m).map fun i => He.fld s (10 + 2 * i) 2).getD k 0 = He.fld s (10 + 2 * k) 2) := Lib.hid (fun k hk => by rw [Ch.range_getD _ _ _ hk])
  have HGl : Hid (((List.range m).map fun i => He.fld s (10 + 2 * i) 2).length = m) := Lib.hid (by simp)
  generalize (List.range m).map (fun i => He.fld s (10 + 2 * i) 2) = gs at *
  have HSt : Hid (∀ k, k < m → Ch.spansL x0 (gs.take (k + 1)) = Ch.spansL x0 (gs.take k) ++ if gs.getD k 0 = 0 then [] else [⟨x0 + (k : Int), x0 + (k : Int), gs.getD k 0, 1⟩]) := Lib.hid (fun k hk => Ch.spansL_step (l := gs) (k := k) (by rw [HGl.out]; exact hk) x0)
  have HAll : Hid (gs.take m = gs) := Lib.hid (by rw [← HGl.out]; exact List.take_length)
  have HLe : Hid (∀ k, (Ch.spansL x0 (gs.take k)).length ≤ k) := Lib.hid (fun k => Nat.le_trans (Ch.spansL_len _ _) (List.length_take_le _ _))
  go_enter Tryz.func34, Tryz.ntmps34
  go_wp2_with fail
  refine (C0.out _).mono ?_
  rintro e w0 ⟨rfl, rfl⟩
  clear C0
  go_wp2_with fail
  refine (C2.out _).mono ?_
  rintro e w2 ⟨rfl, rfl⟩
  clear C2
  go_wp2_with fail
  refine (C6.out _).mono ?_
  rintro e w6 ⟨rfl, rfl⟩
  clear C6
  go_wp2_with fail
  refine (C8.out _).mono ?_
  rintro e w8 ⟨rfl, rfl⟩
  clear C8
  go_wp2_with fail
  go_loopw [6, 10] (fun s6 s10 W => ∃ (k : Nat) (L : List Ch.Span) (q : Option Addr) (d : Nat), k ≤ m ∧ s10 = .int .i64 k ∧ s6 = .slice q L.length d ∧ Hid (L = Ch.spansL x0 (gs.take k)) ∧ Hid (OwnK encS 63 4 W w.heap.size (.slice q L.length d) L) ∧ Hid (Lo w W)) (fun _ s10 _ => m - (intOf s10).toNat)
  case atStart => exact ⟨0, [], none, 0, Nat.zero_le _, rfl, rfl, Lib.hid rfl, Lib.hid (OwnK.none _ _ _ _ _), Lib.hid (Lo.refl _)⟩
  case round =>
    obtain ⟨k, L, q, d, hk, rfl, rfl, HT, HO, HL⟩ := hrel
    by_cases hlt : k < m
    · have HS1 := Lib.hid (HSt.out k hlt)
      rw [← HT.out, HB.out k hlt] at HS1
      have C := Lib.hid (fun W => got_one s (10 + 2 * k) W (by omega))
      have ec := cut2 s (10 + 2 * k)
      have hk1 : ((10 : Int) + 2 * (k : Int)).toNat = 10 + 2 * k := by omega
      have hk2 : ((12 : Int) + 2 * (k : Int)).toNat = 10 + 2 * k + 2 := by omega
      have hk3 : (12 : Int) + 2 * (k : Int) ≤ (s.length : Int) := by omega
      have HLk : Hid (L.length ≤ k) := Lib.hid (by rw [HT.out]; exact HLe.out k)
      have HP := Lib.hid (rsput_any L q d (x0 + (k : Int)) (He.fld s (10 + 2 * k) 2) w.heap.size _ HO.out (by have := HLk.out; omega) HL.out.size)
      rw [← HS1.out] at HP
      generalize hL1 : Ch.spansL x0 (gs.take (k + 1)) = L1 at *
      have HL1 := Lib.hid hL1.symm
      clear hL1
      generalize (s.drop (10 + 2 * k)).take 2 = tc at *
      generalize He.fld s (10 + 2 * k) 2 = g at *
      clear HT
      go_wp2_with fail
      refine (C.out _).mono ?_
      rintro e w2 ⟨rfl, rfl⟩
      clear C
      go_wp2_with fail
      refine HP.out.mono ?_
      rintro e w3 ⟨q1, d1, rfl, hown, hlo⟩
      have HO3 := Lib.hid hown
      have HL3 := Lib.hid (hlo w HL.out (Nat.le_refl _))
      clear hown hlo HP
      go_wp2_with fail
      go_roundw
      case rel => exact ⟨k + 1, L1, q1, d1, by omega, by go_num, rfl, HL1, HO3, HL3⟩
      case measure => simp [intOf]; omega
    · obtain rfl : k = m := by omega
      have HE2 : Hid (L = Ch.spansL x0 gs) := Lib.hid (by rw [HT.out, HAll.out])
      go_wp2_with fail
      go_ret2
      rw [HE.out, ← HE2.out]
      exact ⟨q, d, rfl, OwnK.row encS_len HO.out, HL.out⟩

theorem rcget_any (s : List UInt8) (w : World) (hs : s.length ≤ 9223372036854775807) : Calls Tryz.prog 34 #[.string ⟨s.toArray⟩] w (GotSp (Ch.get s) w) := by
  rcases Nat.lt_or_ge s.length 4 with h | h
  · exact rcget_more s w hs h
  · by_cases h0 : He.fld s 0 2 = 0
    · by_cases h1 : He.fld s 2 2 = 262
      · rcases Nat.lt_or_ge s.length 262 with h2 | h2
        · exact rcget_zero_more s w hs h h0 h1 h2
        · exact rcget_zero_ok s w hs h h0 h1 h2
      · exact rcget_zero_form s w hs h h0 h1
    · by_cases h6 : He.fld s 0 2 = 6
      · rcases Nat.lt_or_ge s.length 10 with h1 | h1
        · exact rcget_six_more s w hs h h6 h1
        · by_cases h2 : He.fld s 2 2 = 10 + 2 * He.fld s 8 2
          · by_cases h3 : s.length < 10 + 2 * (He.fld s 8 2).toNat
            · exact rcget_six_short s w hs h h6 h1 h2 h3
            · by_cases h4 : 65536 < He.fld s 6 2 + He.fld s 8 2
              · exact rcget_six_over s w hs h h6 h1 h2 h3 h4
              · exact rcget_six_ok s w hs h h6 h1 h2 h3 h4
          · exact rcget_six_form s w hs h h6 h1 h2
      · exact rcget_form s w hs h h0 h6
end Go.Proofs.YtppihpjcdieeoaaGreatDoor
/-
  Contracts of the document's small functions of layer 9: word, plane, near, far. No conditions beyond those stated.
-/
namespace Sg
open Ch
theorem spansOf_step (h : Int → Int) (a : Int) (k : Nat) : spansOf h a (k + 1) = spansOf h a k ++ (if h (a + (k : Int)) = 0 then [] else [⟨a + (k : Int), a + (k : Int), h (a + (k : Int)), 1⟩]) := by
  rw [spansOf_append, spansOf, spansOf, List.append_nil]
theorem far_no {s : List UInt8} {fr tt d : Int} {pos : Nat} (h : (s.length : Int) < pos + word s pos + 2 * (tt - fr) + 2) : far s fr tt d pos = ([], 4) := by
  unfold far; rw [if_pos h]
theorem far_yes {s : List UInt8} {fr tt d : Int} {pos : Nat} (h : ¬ (s.length : Int) < pos + word s pos + 2 * (tt - fr) + 2) : far s fr tt d pos = (spansOf (fun c => gl1 (word s (pos + (word s pos).toNat + 2 * (c - fr).toNat)) d) fr (tt - fr + 1).toNat, 0) := by
  unfold far; rw [if_neg h]
end Sg
namespace Go.Proofs.YtppihpjcdieeoaaGreatDoor
open Go.RowKit

set_option maxHeartbeats 800000 in
theorem rword_any (s : List UInt8) (p : Nat) (w : World) (h : p + 2 ≤ s.length) (hl : s.length ≤ 1000000) : Calls Tryz.prog 66 #[.string ⟨s.toArray⟩, .int .i64 (p : Int)] w fun e w' => e = .returned (.int .i64 (Sg.word s p)) ∧ w = w' := by
  have HO := Lib.hid (fun W => rone_any ((s.drop p).take 2) 2 W (by rw [List.length_take]; omega))
  rw [show Bn.one ((s.drop p).take 2) 2 = Sg.word s p from rfl] at HO
  have hx : (ByteArray.mk s.toArray).extract p (p + 2) = ByteArray.mk ((s.drop p).take 2).toArray := by
    rw [Gk.extract_list, show p + 2 - p = 2 by omega]
  have hsz : (ByteArray.mk s.toArray).size = s.length := rfl
  generalize Sg.word s p = y at *
  generalize s.length = n at *
  generalize (s.drop p).take 2 = t at *
  go_enter Tryz.func66, Tryz.ntmps66
  go_wp2_with fail
  refine (HO.out _).mono ?_
  rintro e w1 ⟨rfl, rfl⟩
  go_wp2_with fail
  go_ret
  exact ⟨rfl, rfl⟩

set_option maxHeartbeats 400000 in
theorem rplane_any (x : Int) (w : World) (h0 : -1000000 ≤ x) (h1 : x ≤ 1000000) : Calls Tryz.prog 107 #[.int .i64 x] w fun e w' => e = .returned (.int .i64 (Sg.plane x)) ∧ w = w' := by
  unfold Sg.plane
  by_cases h : 65536 ≤ x
  · rw [if_pos h]
    go_enter Tryz.func107, Tryz.ntmps107
    go_wp2_with fail
    go_ret
    exact ⟨ret_int (by first | rfl | omega | (simp [IntKind.wrap_i64]; omega)), rfl⟩
  · rw [if_neg h]
    go_enter Tryz.func107, Tryz.ntmps107
    go_wp2_with fail
    go_ret
    exact ⟨rfl, rfl⟩

set_option maxRecDepth 100000 in
set_option maxHeartbeats 1600000 in
theorem rnear_any (fr tt d : Int) (w : World) (h1 : 0 ≤ fr) (h2 : fr ≤ 65535) (h3 : 0 ≤ tt) (h4 : tt ≤ 65535) (h5 : 0 ≤ d) (h6 : d ≤ 65535) : Calls Tryz.prog 67 #[.int .i64 fr, .int .i64 tt, .int .i64 d] w (GotSpans (Sg.near fr tt d) w) := by
  have HP := Lib.hid (fun W => rplane_any (fr + d) W (by omega) (by omega))
  obtain ⟨g0, g1⟩ := Sg.plane_bound (n := fr + d) (by omega) (by omega)
  unfold GotSpans Sg.near
  generalize Sg.plane (fr + d) = g at *
  by_cases h : g + tt - fr ≤ 65535
  · rw [if_pos h]
    go_enter Tryz.func67, Tryz.ntmps67
    go_wp2_with fail
    refine (HP.out _).mono ?_
    rintro e w1 ⟨rfl, rfl⟩
    go_wp2_with (at_builtin; refine wpList_appK _ rfl (.tmp 20) (.tmp 25) _ rfl 63 4 32 _ Tryz.underlying22 api_info rfl (by omega) (by omega) encS_len encS_one w.heap.size (.slice none 0 0) ([] : List Ch.Span) rfl (OwnK.none _ _ _ _ _) _ [⟨fr, tt, g, 1⟩] rfl (srow1 _ _ rfl ⟨fr, tt, g, 1⟩ _) (by simp) (by simp) ?_; intro q1 d1 w4 hown hlo; have HO4 := Lib.hid hown; have HL4 := Lib.hid (hlo w ((Lo.refl _).alloc _) (Nat.le_refl _)); clear hown hlo)
    go_ret
    exact ⟨q1, d1, rfl, OwnK.row encS_len HO4.out, HL4.out⟩
  · rw [if_neg h]
    go_enter Tryz.func67, Tryz.ntmps67
    go_wp2_with fail
    refine (HP.out _).mono ?_
    rintro e w1 ⟨rfl, rfl⟩
    go_wp2_with (first | (at_builtin; refine wpList_appK _ rfl (.tmp 31) (.tmp 36) _ rfl 63 4 32 _ Tryz.underlying22 api_info rfl (by omega) (by omega) encS_len encS_one w.heap.size (.slice none 0 0) ([] : List Ch.Span) rfl (OwnK.none _ _ _ _ _) _ [⟨fr, fr + 65535 - g, g, 1⟩] rfl (srow1 _ _ rfl ⟨fr, fr + 65535 - g, g, 1⟩ _) (by simp) (by simp) ?_; intro q1 d1 w4 hown hlo; have HO4 := Lib.hid hown; have HL4 := Lib.hid (hlo w ((Lo.refl _).alloc _) (Nat.le_refl _)); clear hown hlo) | (at_builtin; refine wpList_appK _ rfl (.tmp 38) (.tmp 43) _ rfl 63 4 32 _ Tryz.underlying22 api_info rfl (by omega) (by omega) encS_len encS_one w.heap.size _ [⟨fr, fr + 65535 - g, g, 1⟩] rfl (OwnK.lo HO4.out ((Lo.refl _).alloc _)) _ [⟨fr + 65535 - g + 1, tt, 0, 1⟩] rfl (srow1 _ _ rfl ⟨fr + 65535 - g + 1, tt, 0, 1⟩ _) (by simp) (by have := HL4.out.size; simp; omega) ?_; intro q2 d2 w5 hown hlo; have HO5 := Lib.hid hown; have HL5 := Lib.hid (hlo w (HL4.out.alloc _) (Nat.le_refl _)); clear hown hlo))
    go_ret
    exact ⟨q2, d2, rfl, OwnK.row encS_len HO5.out, HL5.out⟩

set_option maxRecDepth 100000 in
set_option maxHeartbeats 3200000 in
theorem rfar_any (s : List UInt8) (fr tt d : Int) (pos : Nat) (w : World) (hl : s.length ≤ 100000) (hpos : pos + 2 ≤ s.length) (h0 : 0 ≤ fr) (h1 : fr ≤ tt) (h2 : tt ≤ 65535) (h3 : 0 ≤ d) (h4 : d ≤ 65535) :
    Calls Tryz.prog 68 #[.string ⟨s.toArray⟩, .int .i64 fr, .int .i64 tt, .int .i64 d, .int .i64 (pos : Int)] w (GotSp (Sg.far s fr tt d pos) w) := by
  have HW := Lib.hid (fun (p : Nat) (hp : p + 2 ≤ s.length) (W : World) => rword_any s p W hp (by omega))
  have HPl := Lib.hid (fun (x : Int) (hx0 : -1000000 ≤ x) (hx1 : x ≤ 1000000) (W : World) => rplane_any x W hx0 hx1)
  have HB := Lib.hid (fun p => Sg.word_bound s p)
  have HPb := Lib.hid (fun (x : Int) (a : 0 ≤ x) (b : x < 131072) => Sg.plane_bound a b)
  have HNo := Lib.hid (fun h => Sg.far_no (s := s) (fr := fr) (tt := tt) (d := d) (pos := pos) h)
  have HYes := Lib.hid (fun h => Sg.far_yes (s := s) (fr := fr) (tt := tt) (d := d) (pos := pos) h)
  have hb := Sg.word_bound s pos
  have HW0 := Lib.hid (fun W => rword_any s pos W hpos (by omega))
  have hsz : (ByteArray.mk s.toArray).size = s.length := rfl
  generalize Sg.far s fr tt d pos = y at *
  generalize hwd : Sg.word s pos = wd at *
  obtain ⟨wn, rfl⟩ := Int.eq_ofNat_of_zero_le hb.1
  rw [Int.toNat_natCast] at HYes
  obtain ⟨cn, hcn⟩ : ∃ cn : Nat, tt - fr + 1 = (cn : Int) := ⟨(tt - fr + 1).toNat, by omega⟩
  have ett : (tt - fr + 1).toNat = cn := by omega
  rw [ett] at HYes
  have HStep := Lib.hid (fun (k : Nat) => (show Ch.spansOf (fun c => Sg.gl1 (Sg.word s (pos + wn + 2 * (c - fr).toNat)) d) fr (k + 1) = Ch.spansOf (fun c => Sg.gl1 (Sg.word s (pos + wn + 2 * (c - fr).toNat)) d) fr k ++ (if Sg.gl1 (Sg.word s (pos + wn + 2 * k)) d = 0 then [] else [⟨fr + (k : Int), fr + (k : Int), Sg.gl1 (Sg.word s (pos + wn + 2 * k)) d, 1⟩]) by
    rw [Sg.spansOf_step]
    rw [show (fr + (k : Int) - fr).toNat = k by omega]))
  have HSl := Lib.hid (fun (k : Nat) => Ch.spansOf_len (fun c => Sg.gl1 (Sg.word s (pos + wn + 2 * (c - fr).toNat)) d) k fr)
  generalize hF : (fun c => Sg.gl1 (Sg.word s (pos + wn + 2 * (c - fr).toNat)) d) = F at *
  generalize hsn : s.length = sn at *
  clear hF hwd hsn ett
  go_enter Tryz.func68, Tryz.ntmps68
  go_wp2_with fail
  go_loopw [12, 13, 14, 15, 16] (fun s12 s13 _ _ _ W => ∃ (k : Nat) (L : List Ch.Span) (q : Option Addr) (e : Nat), k ≤ cn ∧ s13 = .int .i64 (fr + (k : Int)) ∧ s12 = .slice q L.length e ∧ Hid (L = Ch.spansOf F fr k) ∧ Hid (OwnK encS 63 4 W w.heap.size (.slice q L.length e) L) ∧ Hid (Lo w W) ∧ Hid (0 < k → pos + wn + 2 * (k - 1) + 2 ≤ sn)) (fun _ s13 _ _ _ _ => (fr + (cn : Int) - intOf s13).toNat)
  case atStart => exact ⟨0, [], none, 0, Nat.zero_le _, by simp, rfl, Lib.hid rfl, Lib.hid (OwnK.none _ _ _ _ _), Lib.hid (Lo.refl _), Lib.hid (by intro h; omega)⟩
  case round =>
    obtain ⟨k, L, q, e, hk, rfl, rfl, HT, HO, HL, HR⟩ := hrel
    by_cases hlt : k < cn
    · have hck : fr + (k : Int) - fr = k := by omega
      go_wp2_with fail
      refine (HW0.out _).mono ?_
      rintro e1 w1 ⟨rfl, rfl⟩
      by_cases hin : pos + wn + 2 * k + 2 ≤ sn
      · have HW1 : Hid (∀ W, Calls Tryz.prog 66 #[.string ⟨s.toArray⟩, .int .i64 ((pos : Int) + wn + 2 * k)] W fun e w' => e = .returned (.int .i64 (Sg.word s (pos + wn + 2 * k))) ∧ W = w') := Lib.hid (fun W => by
          have := HW.out (pos + wn + 2 * k) hin W
          rwa [show ((pos + wn + 2 * k : Nat) : Int) = (pos : Int) + wn + 2 * k by omega] at this)
        obtain ⟨v0, v1⟩ := HB.out (pos + wn + 2 * k)
        have HS1 := HStep.out k
        rw [← HT.out] at HS1
        have HSt1 := Lib.hid HS1
        have HLk : Hid (L.length ≤ k) := Lib.hid (by rw [HT.out]; exact HSl.out k)
        have HSz := Lib.hid HL.out.size
        generalize Sg.word s (pos + wn + 2 * k) = v at *
        have hpb := HPb.out (v + d) (by omega) (by omega)
        have HP1 := Lib.hid (HPl.out (v + d) (by omega) (by omega))
        have hgl : Sg.gl1 v d = if 0 < v ∧ 0 < Sg.plane (v + d) then Sg.plane (v + d) else 0 := rfl
        rw [hgl] at HSt1
        generalize Sg.plane (v + d) = g at *
        clear HS1 hgl
        have HRn : Hid (0 < k + 1 → pos + wn + 2 * (k + 1 - 1) + 2 ≤ sn) := Lib.hid (fun _ => by rw [Nat.add_sub_cancel]; exact hin)
        go_wp2_with fail
        refine (HW1.out _).mono ?_
        rintro e1 w1 ⟨rfl, rfl⟩
        go_wp2_with fail
        refine (HP1.out _).mono ?_
        rintro e1 w1 ⟨rfl, rfl⟩
        by_cases c1 : 0 < v
        · by_cases c2 : 0 < g
          · have HT2 : Hid (L ++ [⟨fr + (k : Int), fr + (k : Int), g, 1⟩] = Ch.spansOf F fr (k + 1)) := Lib.hid (by rw [HSt1.out, show (if 0 < v ∧ 0 < g then g else 0) = g from if_pos ⟨c1, c2⟩, if_neg (by omega)])
            go_wp2_with (at_builtin; refine wpList_appK _ rfl (.tmp 51) (.tmp 56) _ rfl 63 4 32 _ Tryz.underlying22 api_info rfl (by omega) (by omega) encS_len encS_one w.heap.size (.slice q L.length e) L rfl (OwnK.lo HO.out ((Lo.refl _).alloc _)) _ [⟨fr + (k : Int), fr + (k : Int), g, 1⟩] rfl (srow1 _ _ rfl ⟨fr + (k : Int), fr + (k : Int), g, 1⟩ _) (by have := HLk.out; simp; omega) (by have := HSz.out; simp; omega) ?_; intro q1 d1 w3 hown hlo; have HO3 := Lib.hid hown; have HL3 := Lib.hid (hlo w (HL.out.alloc _) (Nat.le_refl _)); clear hown hlo)
            all_goals first | (exfalso; rename_i hb; simp at hb; omega) | skip
            go_roundw
            case rel => exact ⟨k + 1, L ++ [⟨fr + (k : Int), fr + (k : Int), g, 1⟩], q1, d1, by omega, by go_num, by simp, HT2, by simpa using HO3, HL3, HRn⟩
            case measure => simp [intOf]; omega
          · have HT2 : Hid (L = Ch.spansOf F fr (k + 1)) := Lib.hid (by rw [HSt1.out, show (if 0 < v ∧ 0 < g then g else 0) = 0 from if_neg (by omega), if_pos rfl, List.append_nil])
            go_wp2_with fail
            all_goals
              go_roundw
              case rel => exact ⟨k + 1, L, q, e, by omega, by go_num, rfl, HT2, HO, HL, HRn⟩
              case measure => simp [intOf]; omega
        · have HT2 : Hid (L = Ch.spansOf F fr (k + 1)) := Lib.hid (by rw [HSt1.out, show (if 0 < v ∧ 0 < g then g else 0) = 0 from if_neg (by omega), if_pos rfl, List.append_nil])
          go_wp2_with fail
          all_goals
            go_roundw
            case rel => exact ⟨k + 1, L, q, e, by omega, by go_num, rfl, HT2, HO, HL, HRn⟩
            case measure => simp [intOf]; omega
      · have HE := Lib.hid (HNo.out (by omega))
        go_wp2_with fail
        go_ret2
        rw [HE.out]
        exact GotSp.nil rfl HL.out
    · obtain rfl : k = cn := by omega
      have hr := HR.out (by omega)
      have HE := Lib.hid (HYes.out (by omega))
      rw [← HT.out] at HE
      go_wp2_with fail
      go_ret2
      rw [HE.out]
      exact ⟨q, e, rfl, OwnK.row encS_len HO.out, HL.out⟩
end Go.Proofs.YtppihpjcdieeoaaGreatDoor
