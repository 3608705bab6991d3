/-
  Facts that the walks rest on: GrRef, CmRefRead. No conditions beyond those stated.
-/
import Derived.Test.YtppihpjcdieeoaaGreatDoorPart08
import Derived.Test.YtppihpjcdieeoaaGreatDoorPart11
import Derived.Test.YtppihpjcdieeoaaGreatDoorPart23
import Derived.Test.YtppihpjcdieeoaaGreatDoorPart24
import Derived.Test.YtppihpjcdieeoaaGreatDoorPart13
import Derived.Test.YtppihpjcdieeoaaGreatDoorPart25
import Derived.Test.YtppihpjcdieeoaaGreatDoorSgRefGet
import Derived.Test.YtppihpjcdieeoaaGreatDoorPart01
/-
  Contracts of the document's number at a place and Get (layer 10). No conditions beyond those stated.
-/
namespace Go.Proofs.YtppihpjcdieeoaaGreatDoor
open Go.RowKit

set_option maxHeartbeats 800000 in
theorem rlong_any (s : List UInt8) (p : Nat) (w : World) (h : p + 4 ≤ s.length) (hl : s.length ≤ 1000000) : Calls Tryz.prog 69 #[.string ⟨s.toArray⟩, .int .i64 (p : Int)] w fun e w' => e = .returned (.int .i64 (He.fld s p 4)) ∧ w = w' := by
  have HO := Lib.hid (fun W => rone_any ((s.drop p).take 4) 4 W (by rw [List.length_take]; omega))
  rw [show Bn.one ((s.drop p).take 4) 4 = He.fld s p 4 from rfl] at HO
  have hx : (ByteArray.mk s.toArray).extract p (p + 4) = ByteArray.mk ((s.drop p).take 4).toArray := by
    rw [Gk.extract_list, show p + 4 - p = 4 by omega]
  have hsz : (ByteArray.mk s.toArray).size = s.length := rfl
  generalize He.fld s p 4 = y at *
  generalize s.length = n at *
  generalize (s.drop p).take 4 = t at *
  go_enter Tryz.func69, Tryz.ntmps69
  go_wp2_with fail
  refine (HO.out _).mono ?_
  rintro e w1 ⟨rfl, rfl⟩
  go_wp2_with fail
  go_ret
  exact ⟨rfl, rfl⟩

theorem rformat_any (s : List UInt8) (W : World) (h : 2 ≤ s.length) : (ByteArray.mk s.toArray).extract 0 2 = ByteArray.mk (s.take 2).toArray ∧ Calls Tryz.prog 31 #[.string ⟨(s.take 2).toArray⟩, .int .i64 2] W fun e w' => e = .returned (.int .i64 (He.fld s 0 2)) ∧ W = w' := by
  refine ⟨by rw [Gk.extract_list]; simp, ?_⟩
  have := rone_any (s.take 2) 2 W (by rw [List.length_take]; omega)
  exact this

/-! Each end. -/
set_option maxRecDepth 100000 in
set_option maxHeartbeats 1600000 in
theorem rgget_more (s : List UInt8) (w : World) (hl : s.length ≤ 1000000) (h : s.length < 16) : Calls Tryz.prog 36 #[.string ⟨s.toArray⟩] w (GotSp ([], 4) w) := by
  have hsz : (ByteArray.mk s.toArray).size = s.length := rfl
  have hz : (s.length : Int) < 16 := by omega
  generalize s.length = n at *
  go_enter Tryz.func36, Tryz.ntmps36
  go_wp2_with fail
  go_ret2
  exact GotSp.nil rfl (Lo.refl _)

set_option maxRecDepth 100000 in
set_option maxHeartbeats 1600000 in
theorem rgget_form (s : List UInt8) (w : World) (hl : s.length ≤ 1000000) (h : 16 ≤ s.length) (h2 : He.fld s 0 2 ≠ 12 ∧ He.fld s 0 2 ≠ 13) : Calls Tryz.prog 36 #[.string ⟨s.toArray⟩] w (GotSp ([], 5) w) := by
  have hsz : (ByteArray.mk s.toArray).size = s.length := rfl
  have HF := Lib.hid (fun W => (rformat_any s W (by omega)).2)
  have hx0 := (rformat_any s w (by omega)).1
  have H12 := Lib.hid (fun W => rlong_any s 12 W (by omega) hl)
  have H4 := Lib.hid (fun W => rlong_any s 4 W (by omega) hl)
  rw [show ((12 : Nat) : Int) = 12 from rfl] at H12
  rw [show ((4 : Nat) : Int) = 4 from rfl] at H4
  have b12 := Gp.long_bound s 12
  have c12 := Gp.long_le s 12
  unfold Gp.long at *
  generalize He.fld s 0 2 = x0 at *
  generalize He.fld s 4 4 = x4 at *
  generalize He.fld s 12 4 = x12 at *
  generalize s.take 2 = t2 at *
  generalize s.length = n at *
  obtain ⟨q1, q2⟩ : (x0 != 12) = true ∧ (x0 != 13) = true := ⟨by simpa using h2.1, by simpa using h2.2⟩
  go_enter Tryz.func36, Tryz.ntmps36
  go_wp2_with fail
  refine (HF.out _).mono ?_
  rintro e w1 ⟨rfl, rfl⟩
  clear HF
  go_wp2_with fail
  refine (H12.out _).mono ?_
  rintro e w1 ⟨rfl, rfl⟩
  clear H12
  go_wp2_with fail
  go_ret2
  exact GotSp.nil rfl (Lo.refl _)

set_option maxRecDepth 100000 in
set_option maxHeartbeats 1600000 in
theorem rgget_long (s : List UInt8) (w : World) (hl : s.length ≤ 1000000) (h : 16 ≤ s.length) (h2 : He.fld s 0 2 = 12 ∨ He.fld s 0 2 = 13) (h3 : 65536 < Gp.long s 12) : Calls Tryz.prog 36 #[.string ⟨s.toArray⟩] w (GotSp ([], 7) w) := by
  have hsz : (ByteArray.mk s.toArray).size = s.length := rfl
  have HF := Lib.hid (fun W => (rformat_any s W (by omega)).2)
  have hx0 := (rformat_any s w (by omega)).1
  have H12 := Lib.hid (fun W => rlong_any s 12 W (by omega) hl)
  have H4 := Lib.hid (fun W => rlong_any s 4 W (by omega) hl)
  rw [show ((12 : Nat) : Int) = 12 from rfl] at H12
  rw [show ((4 : Nat) : Int) = 4 from rfl] at H4
  have b12 := Gp.long_bound s 12
  have c12 := Gp.long_le s 12
  unfold Gp.long at *
  generalize He.fld s 0 2 = x0 at *
  generalize He.fld s 4 4 = x4 at *
  generalize He.fld s 12 4 = x12 at *
  generalize s.take 2 = t2 at *
  generalize s.length = n at *
  rcases h2 with rfl | rfl
  · go_enter Tryz.func36, Tryz.ntmps36
    go_wp2_with fail
    refine (HF.out _).mono ?_
    rintro e w1 ⟨rfl, rfl⟩
    clear HF
    go_wp2_with fail
    refine (H12.out _).mono ?_
    rintro e w1 ⟨rfl, rfl⟩
    clear H12
    go_wp2_with fail
    go_ret2
    exact GotSp.nil rfl (Lo.refl _)
  · go_enter Tryz.func36, Tryz.ntmps36
    go_wp2_with fail
    refine (HF.out _).mono ?_
    rintro e w1 ⟨rfl, rfl⟩
    clear HF
    go_wp2_with fail
    refine (H12.out _).mono ?_
    rintro e w1 ⟨rfl, rfl⟩
    clear H12
    go_wp2_with fail
    go_ret2
    exact GotSp.nil rfl (Lo.refl _)

set_option maxRecDepth 100000 in
set_option maxHeartbeats 1600000 in
theorem rgget_wrong (s : List UInt8) (w : World) (hl : s.length ≤ 1000000) (h : 16 ≤ s.length) (h2 : He.fld s 0 2 = 12 ∨ He.fld s 0 2 = 13) (h3 : Gp.long s 12 ≤ 65536) (h4 : Gp.long s 4 ≠ 16 + 12 * Gp.long s 12) : Calls Tryz.prog 36 #[.string ⟨s.toArray⟩] w (GotSp ([], 5) w) := by
  have hsz : (ByteArray.mk s.toArray).size = s.length := rfl
  have HF := Lib.hid (fun W => (rformat_any s W (by omega)).2)
  have hx0 := (rformat_any s w (by omega)).1
  have H12 := Lib.hid (fun W => rlong_any s 12 W (by omega) hl)
  have H4 := Lib.hid (fun W => rlong_any s 4 W (by omega) hl)
  rw [show ((12 : Nat) : Int) = 12 from rfl] at H12
  rw [show ((4 : Nat) : Int) = 4 from rfl] at H4
  have b12 := Gp.long_bound s 12
  have c12 := Gp.long_le s 12
  unfold Gp.long at *
  generalize He.fld s 0 2 = x0 at *
  generalize He.fld s 4 4 = x4 at *
  generalize He.fld s 12 4 = x12 at *
  generalize s.take 2 = t2 at *
  generalize s.length = n at *
  rcases h2 with rfl | rfl
  · go_enter Tryz.func36, Tryz.ntmps36
    go_wp2_with fail
    refine (HF.out _).mono ?_
    rintro e w1 ⟨rfl, rfl⟩
    clear HF
    go_wp2_with fail
    refine (H12.out _).mono ?_
    rintro e w1 ⟨rfl, rfl⟩
    clear H12
    go_wp2_with fail
    refine (H4.out _).mono ?_
    rintro e w1 ⟨rfl, rfl⟩
    clear H4
    go_wp2_with fail
    go_ret2
    exact GotSp.nil rfl (Lo.refl _)
  · go_enter Tryz.func36, Tryz.ntmps36
    go_wp2_with fail
    refine (HF.out _).mono ?_
    rintro e w1 ⟨rfl, rfl⟩
    clear HF
    go_wp2_with fail
    refine (H12.out _).mono ?_
    rintro e w1 ⟨rfl, rfl⟩
    clear H12
    go_wp2_with fail
    refine (H4.out _).mono ?_
    rintro e w1 ⟨rfl, rfl⟩
    clear H4
    go_wp2_with fail
    go_ret2
    exact GotSp.nil rfl (Lo.refl _)

set_option maxRecDepth 100000 in
set_option maxHeartbeats 1600000 in
theorem rgget_short (s : List UInt8) (w : World) (hl : s.length ≤ 1000000) (h : 16 ≤ s.length) (h2 : He.fld s 0 2 = 12 ∨ He.fld s 0 2 = 13) (h3 : Gp.long s 12 ≤ 65536) (h4 : Gp.long s 4 = 16 + 12 * Gp.long s 12) (h5 : (s.length : Int) < 16 + 12 * Gp.long s 12) : Calls Tryz.prog 36 #[.string ⟨s.toArray⟩] w (GotSp ([], 4) w) := by
  have hsz : (ByteArray.mk s.toArray).size = s.length := rfl
  have HF := Lib.hid (fun W => (rformat_any s W (by omega)).2)
  have hx0 := (rformat_any s w (by omega)).1
  have H12 := Lib.hid (fun W => rlong_any s 12 W (by omega) hl)
  have H4 := Lib.hid (fun W => rlong_any s 4 W (by omega) hl)
  rw [show ((12 : Nat) : Int) = 12 from rfl] at H12
  rw [show ((4 : Nat) : Int) = 4 from rfl] at H4
  have b12 := Gp.long_bound s 12
  have c12 := Gp.long_le s 12
  unfold Gp.long at *
  generalize He.fld s 0 2 = x0 at *
  generalize He.fld s 4 4 = x4 at *
  generalize He.fld s 12 4 = x12 at *
  generalize s.take 2 = t2 at *
  generalize s.length = n at *
  rcases h2 with rfl | rfl
  · go_enter Tryz.func36, Tryz.ntmps36
    go_wp2_with fail
    refine (HF.out _).mono ?_
    rintro e w1 ⟨rfl, rfl⟩
    clear HF
    go_wp2_with fail
    refine (H12.out _).mono ?_
    rintro e w1 ⟨rfl, rfl⟩
    clear H12
    go_wp2_with fail
    refine (H4.out _).mono ?_
    rintro e w1 ⟨rfl, rfl⟩
    clear H4
    go_wp2_with fail
    go_ret2
    exact GotSp.nil rfl (Lo.refl _)
  · go_enter Tryz.func36, Tryz.ntmps36
    go_wp2_with fail
    refine (HF.out _).mono ?_
    rintro e w1 ⟨rfl, rfl⟩
    clear HF
    go_wp2_with fail
    refine (H12.out _).mono ?_
    rintro e w1 ⟨rfl, rfl⟩
    clear H12
    go_wp2_with fail
    refine (H4.out _).mono ?_
    rintro e w1 ⟨rfl, rfl⟩
    clear H4
    go_wp2_with fail
    go_ret2
    exact GotSp.nil rfl (Lo.refl _)

set_option maxRecDepth 100000 in
set_option maxHeartbeats 3200000 in
theorem rgget_ok (s : List UInt8) (w : World) (hl : s.length ≤ 1000000) (h : Gp.rerr s = 0) : Calls Tryz.prog 36 #[.string ⟨s.toArray⟩] w (GotSp (Gp.get s) w) := by
  have hsz : (ByteArray.mk s.toArray).size = s.length := rfl
  obtain ⟨hg, h16, h2, h65, hlen⟩ := Gp.get_rok h
  have b12 := Gp.long_bound s 12
  rw [Gp.rows_len] at hlen
  have h4 : Gp.long s 4 = 16 + 12 * Gp.long s 12 := by
    unfold Gp.rerr at h
    rw [if_neg (by omega), if_neg (by omega), if_neg (by omega)] at h
    by_cases c4 : Gp.long s 4 ≠ 16 + 12 * Gp.long s 12
    · rw [if_pos c4] at h; cases h
    · omega
  obtain ⟨N, hN⟩ : ∃ N, (Gp.long s 12).toNat = N := ⟨_, rfl⟩
  have hNi : Gp.long s 12 = (N : Int) := by omega
  have hrows : come s N = Gp.rows s := by rw [← hN]; exact come_rows s
  rw [hN] at hlen
  rw [← hrows] at hg
  rw [hNi] at h4
  have HG := Lib.hid hg
  have HF := Lib.hid (fun W => (rformat_any s W (by omega)).2)
  have hx0 := (rformat_any s w (by omega)).1
  have H12 := Lib.hid (fun W => rlong_any s 12 W (by omega) hl)
  have H4 := Lib.hid (fun W => rlong_any s 4 W (by omega) hl)
  rw [show ((12 : Nat) : Int) = 12 from rfl, show He.fld s 12 4 = (N : Int) from hNi] at H12
  rw [show ((4 : Nat) : Int) = 4 from rfl, show He.fld s 4 4 = 16 + 12 * (N : Int) from h4] at H4
  have HR : Hid (∀ k, k < N → Gp.row s k = ⟨He.fld s (16 + 12 * k) 4, He.fld s (20 + 12 * k) 4, He.fld s (24 + 12 * k) 4, 13 - He.fld s 0 2⟩) := Lib.hid (fun _ _ => rfl)
  have HC : Hid (∀ k, come s (k + 1) = come s k ++ [Gp.row s k]) := Lib.hid (come_succ s)
  have HCl : Hid (∀ k, (come s k).length = k) := Lib.hid (fun k => by simp [come])
  have HC0 : Hid (come s 0 = []) := Lib.hid rfl
  have HA : Hid (∀ (k : Nat) (W : World), k < N → Calls Tryz.prog 69 #[.string ⟨s.toArray⟩, .int .i64 (16 + 12 * (k : Int))] W fun e w' => e = .returned (.int .i64 (He.fld s (16 + 12 * k) 4)) ∧ W = w') := Lib.hid (fun k W hk => by
    have := rlong_any s (16 + 12 * k) W (by omega) hl
    rwa [show ((16 + 12 * k : Nat) : Int) = 16 + 12 * (k : Int) by omega] at this)
  have HB : Hid (∀ (k : Nat) (W : World), k < N → Calls Tryz.prog 69 #[.string ⟨s.toArray⟩, .int .i64 (16 + 12 * (k : Int) + 4)] W fun e w' => e = .returned (.int .i64 (He.fld s (20 + 12 * k) 4)) ∧ W = w') := Lib.hid (fun k W hk => by
    have := rlong_any s (20 + 12 * k) W (by omega) hl
    rwa [show ((20 + 12 * k : Nat) : Int) = 16 + 12 * (k : Int) + 4 by omega] at this)
  have HD : Hid (∀ (k : Nat) (W : World), k < N → Calls Tryz.prog 69 #[.string ⟨s.toArray⟩, .int .i64 (16 + 12 * (k : Int) + 8)] W fun e w' => e = .returned (.int .i64 (He.fld s (24 + 12 * k) 4)) ∧ W = w') := Lib.hid (fun k W hk => by
    have := rlong_any s (24 + 12 * k) W (by omega) hl
    rwa [show ((24 + 12 * k : Nat) : Int) = 16 + 12 * (k : Int) + 8 by omega] at this)
  have HI := Lib.hid (fun (v : Value) (W : World) (h : SRow W v (come s N)) => ris_any v _ W h)
  have hN6 : N ≤ 65536 := by omega
  have hsl : (16 : Int) ≤ (s.length : Int) ∧ 16 + 12 * (N : Int) ≤ (s.length : Int) := by omega
  obtain ⟨hs1, hs2⟩ := hsl
  have hf : ((He.fld s 0 2 != 12) = true ∧ (He.fld s 0 2 != 13) = false) ∨ (He.fld s 0 2 != 12) = false := by
    rcases h2 with h2 | h2
    · exact .inr (by rw [h2]; rfl)
    · exact .inl ⟨by rw [h2]; rfl, by rw [h2]; rfl⟩
  have hx13 : 0 ≤ 13 - He.fld s 0 2 ∧ 13 - He.fld s 0 2 ≤ 1 := by omega
  generalize s.length = n at *
  generalize s.take 2 = t2 at *
  generalize He.fld s 0 2 = x0 at *
  clear hg hrows hNi h4 h hN b12 h65 h16 hlen h2
  rcases hf with ⟨q1, q2⟩ | q1
  · go_enter Tryz.func36, Tryz.ntmps36
    go_wp2_with fail
    refine (HF.out _).mono ?_
    rintro e w1 ⟨rfl, rfl⟩
    clear HF
    go_wp2_with fail
    refine (H12.out _).mono ?_
    rintro e w1 ⟨rfl, rfl⟩
    clear H12
    go_wp2_with fail
    refine (H4.out _).mono ?_
    rintro e w1 ⟨rfl, rfl⟩
    clear H4
    go_wp2_with fail
    go_loopw [6, 7] (fun o i W => ∃ (k : Nat) (q : Option Addr) (d : Nat), k ≤ N ∧ i = .int .i64 (k : Int) ∧ o = .slice q k d ∧ Hid (OwnK encS 63 4 W w.heap.size (.slice q k d) (come s k)) ∧ Hid (Lo w W)) (fun _ i _ => N - (intOf i).toNat)
    case atStart => exact ⟨0, none, 0, Nat.zero_le _, rfl, rfl, Lib.hid (by rw [HC0.out]; exact OwnK.none _ _ _ _ _), Lib.hid (Lo.refl _)⟩
    case round =>
      obtain ⟨k, q, d, hk, rfl, rfl, HO, HL⟩ := hrel
      by_cases hlt : k < N
      · have HA1 := Lib.hid (fun W => HA.out k W hlt)
        have HB1 := Lib.hid (fun W => HB.out k W hlt)
        have HD1 := Lib.hid (fun W => HD.out k W hlt)
        have HU := Lib.hid (HC.out k)
        rw [HR.out k hlt] at HU
        generalize He.fld s (16 + 12 * k) 4 = y0 at *
        generalize He.fld s (20 + 12 * k) 4 = y1 at *
        generalize He.fld s (24 + 12 * k) 4 = y2 at *
        go_wp2_with fail
        refine (HA1.out _).mono ?_
        rintro e w1 ⟨rfl, rfl⟩
        clear HA1
        go_wp2_with fail
        refine (HB1.out _).mono ?_
        rintro e w1 ⟨rfl, rfl⟩
        clear HB1
        go_wp2_with fail
        refine (HD1.out _).mono ?_
        rintro e w1 ⟨rfl, rfl⟩
        clear HD1
        have HSZ := Lib.hid HL.out.size
        go_wp2_with (at_builtin; refine wpList_appK _ rfl (.tmp 45) (.tmp 60) _ rfl 63 4 32 _ Tryz.underlying22 api_info rfl (by omega) (by omega) encS_len encS_one w.heap.size (.slice q k d) (come s k) rfl (OwnK.lo HO.out ((Lo.refl _).alloc _)) _ [⟨y0, y1, y2, 13 - x0⟩] rfl (srow1 _ _ rfl ⟨y0, y1, y2, 13 - x0⟩ _) (by rw [HCl.out]; simp; omega) (by have := HSZ.out; simp; omega) ?_; intro q1 d1 w4 hown hlo; have HO4 := Lib.hid hown; have HL4 := Lib.hid (hlo w (HL.out.alloc _) (Nat.le_refl _)); clear hown hlo; rw [HCl.out] at HO4 ⊢)
        go_roundw
        case rel => exact ⟨k + 1, q1, d1, by omega, by go_num, rfl, Lib.hid (by rw [HU.out]; exact HO4.out), HL4⟩
        case measure => simp [intOf]; omega
      · obtain rfl : k = N := by omega
        have HS := Lib.hid (OwnK.row encS_len HO.out)
        have HI1 := Lib.hid (HI.out _ _ HS.out)
        have HLn := Lib.hid (HCl.out k)
        clear HA HB HD HC HR HCl HC0 HI
        generalize come s k = L at *
        by_cases hi : Ch.isL L = true
        · rw [hi] at HI1 HG
          rw [if_pos rfl] at HG
          clear hi
          go_wp2_with fail
          refine HI1.out.mono ?_
          rintro e w2 ⟨rfl, lo⟩
          have HL2 := Lib.hid (HL.out.trans lo)
          have HS2 := Lib.hid (RowK.lo HS.out lo)
          clear lo HI1
          go_wp2_with fail
          go_ret2
          rw [HG.out]
          exact ⟨q, d, by rw [HLn.out]; rfl, by rw [HLn.out]; exact HS2.out, HL2.out⟩
        · have hi' : Ch.isL L = false := by simpa using hi
          rw [hi'] at HI1 HG
          rw [if_neg (by simp)] at HG
          clear hi hi'
          go_wp2_with fail
          refine HI1.out.mono ?_
          rintro e w2 ⟨rfl, lo⟩
          have HL2 := Lib.hid (HL.out.trans lo)
          clear lo HI1
          go_wp2_with fail
          go_ret2
          rw [HG.out]
          exact GotSp.nil rfl HL2.out
  · go_enter Tryz.func36, Tryz.ntmps36
    go_wp2_with fail
    refine (HF.out _).mono ?_
    rintro e w1 ⟨rfl, rfl⟩
    clear HF
    go_wp2_with fail
    refine (H12.out _).mono ?_
    rintro e w1 ⟨rfl, rfl⟩
    clear H12
    go_wp2_with fail
    refine (H4.out _).mono ?_
    rintro e w1 ⟨rfl, rfl⟩
    clear H4
    go_wp2_with fail
    go_loopw [6, 7] (fun o i W => ∃ (k : Nat) (q : Option Addr) (d : Nat), k ≤ N ∧ i = .int .i64 (k : Int) ∧ o = .slice q k d ∧ Hid (OwnK encS 63 4 W w.heap.size (.slice q k d) (come s k)) ∧ Hid (Lo w W)) (fun _ i _ => N - (intOf i).toNat)
    case atStart => exact ⟨0, none, 0, Nat.zero_le _, rfl, rfl, Lib.hid (by rw [HC0.out]; exact OwnK.none _ _ _ _ _), Lib.hid (Lo.refl _)⟩
    case round =>
      obtain ⟨k, q, d, hk, rfl, rfl, HO, HL⟩ := hrel
      by_cases hlt : k < N
      · have HA1 := Lib.hid (fun W => HA.out k W hlt)
        have HB1 := Lib.hid (fun W => HB.out k W hlt)
        have HD1 := Lib.hid (fun W => HD.out k W hlt)
        have HU := Lib.hid (HC.out k)
        rw [HR.out k hlt] at HU
        generalize He.fld s (16 + 12 * k) 4 = y0 at *
        generalize He.fld s (20 + 12 * k) 4 = y1 at *
        generalize He.fld s (24 + 12 * k) 4 = y2 at *
        go_wp2_with fail
        refine (HA1.out _).mono ?_
        rintro e w1 ⟨rfl, rfl⟩
        clear HA1
        go_wp2_with fail
        refine (HB1.out _).mono ?_
        rintro e w1 ⟨rfl, rfl⟩
        clear HB1
        go_wp2_with fail
        refine (HD1.out _).mono ?_
        rintro e w1 ⟨rfl, rfl⟩
        clear HD1
        have HSZ := Lib.hid HL.out.size
        go_wp2_with (at_builtin; refine wpList_appK _ rfl (.tmp 45) (.tmp 60) _ rfl 63 4 32 _ Tryz.underlying22 api_info rfl (by omega) (by omega) encS_len encS_one w.heap.size (.slice q k d) (come s k) rfl (OwnK.lo HO.out ((Lo.refl _).alloc _)) _ [⟨y0, y1, y2, 13 - x0⟩] rfl (srow1 _ _ rfl ⟨y0, y1, y2, 13 - x0⟩ _) (by rw [HCl.out]; simp; omega) (by have := HSZ.out; simp; omega) ?_; intro q1 d1 w4 hown hlo; have HO4 := Lib.hid hown; have HL4 := Lib.hid (hlo w (HL.out.alloc _) (Nat.le_refl _)); clear hown hlo; rw [HCl.out] at HO4 ⊢)
        go_roundw
        case rel => exact ⟨k + 1, q1, d1, by omega, by go_num, rfl, Lib.hid (by rw [HU.out]; exact HO4.out), HL4⟩
        case measure => simp [intOf]; omega
      · obtain rfl : k = N := by omega
        have HS := Lib.hid (OwnK.row encS_len HO.out)
        have HI1 := Lib.hid (HI.out _ _ HS.out)
        have HLn := Lib.hid (HCl.out k)
        clear HA HB HD HC HR HCl HC0 HI
        generalize come s k = L at *
        by_cases hi : Ch.isL L = true
        · rw [hi] at HI1 HG
          rw [if_pos rfl] at HG
          clear hi
          go_wp2_with fail
          refine HI1.out.mono ?_
          rintro e w2 ⟨rfl, lo⟩
          have HL2 := Lib.hid (HL.out.trans lo)
          have HS2 := Lib.hid (RowK.lo HS.out lo)
          clear lo HI1
          go_wp2_with fail
          go_ret2
          rw [HG.out]
          exact ⟨q, d, by rw [HLn.out]; rfl, by rw [HLn.out]; exact HS2.out, HL2.out⟩
        · have hi' : Ch.isL L = false := by simpa using hi
          rw [hi'] at HI1 HG
          rw [if_neg (by simp)] at HG
          clear hi hi'
          go_wp2_with fail
          refine HI1.out.mono ?_
          rintro e w2 ⟨rfl, lo⟩
          have HL2 := Lib.hid (HL.out.trans lo)
          clear lo HI1
          go_wp2_with fail
          go_ret2
          rw [HG.out]
          exact GotSp.nil rfl HL2.out

/-- The document's Get. -/
theorem rgget_any (s : List UInt8) (w : World) (hl : s.length ≤ 1000000) : Calls Tryz.prog 36 #[.string ⟨s.toArray⟩] w (GotSp (Gp.get s) w) := by
  by_cases h0 : Gp.rerr s = 0
  · exact rgget_ok s w hl h0
  · rw [Gp.get_rerr h0]
    unfold Gp.rerr at *
    by_cases c1 : s.length < 16
    · rw [if_pos c1]; exact rgget_more s w hl c1
    · rw [if_neg c1] at h0 ⊢
      by_cases c2 : He.fld s 0 2 ≠ 12 ∧ He.fld s 0 2 ≠ 13
      · rw [if_pos c2]; exact rgget_form s w hl (by omega) c2
      · rw [if_neg c2] at h0 ⊢
        by_cases c3 : 65536 < Gp.long s 12
        · rw [if_pos c3]; exact rgget_long s w hl (by omega) (by omega) c3
        · rw [if_neg c3] at h0 ⊢
          by_cases c4 : Gp.long s 4 ≠ 16 + 12 * Gp.long s 12
          · rw [if_pos c4]; exact rgget_wrong s w hl (by omega) (by omega) (by omega) c4
          · rw [if_neg c4] at h0 ⊢
            by_cases c5 : (s.length : Int) < 16 + 12 * Gp.long s 12
            · rw [if_pos c5]; exact rgget_short s w hl (by omega) (by omega) (by omega) (by omega) c5
            · rw [if_neg c5] at h0; exact absurd rfl h0
end Go.Proofs.YtppihpjcdieeoaaGreatDoor
/-
  The contract of the document's Read (layer 11): one format. Condition: at most 100000 bytes.
-/
namespace Go.Proofs.YtppihpjcdieeoaaGreatDoor
open Go.RowKit Go.Shelf

theorem got_head (s : List UInt8) (W : World) : Calls Tryz.prog 31 #[.string ⟨(s.take 2).toArray⟩, .int .i64 2] W fun e w' => e = .returned (.int .i64 (He.fld s 0 2)) ∧ W = w' := by
  have := rone_any (s.take 2) 2 W (by rw [List.length_take]; omega)
  exact this

theorem head_cut (s : List UInt8) : (⟨s.toArray⟩ : ByteArray).extract 0 2 = ⟨(s.take 2).toArray⟩ := Gk.extract_list s 0 2

set_option maxRecDepth 100000 in
set_option maxHeartbeats 1600000 in
theorem rcread_any (s : List UInt8) (w : World) (hs : s.length ≤ 100000) : Calls Tryz.prog 11 #[.string ⟨s.toArray⟩] w (GotSp (Cm.read s) w) := by
  rcases Nat.lt_or_ge s.length 2 with h | h
  · rw [Cm.read_more h]
    have hz : (s.length : Int) < 2 := by omega
    clear h hs
    go_enter Tryz.func11, Tryz.ntmps11
    go_wp2_with fail
    go_ret2
    exact GotSp.nil rfl (Lo.refl _)
  · have hz : ¬ (s.length : Int) < 2 := by omega
    have hz2 : (2 : Int) ≤ (s.length : Int) := by omega
    have HO := Lib.hid (fun W => got_head s W)
    have hx := head_cut s
    have H8 := Lib.hid (fun W => rcget_any s W (by omega))
    have H9 := Lib.hid (fun W => rget9_any s W hs)
    have H10 := Lib.hid (fun W => rgget_any s W (by omega))
    have hr08 := Cm.read_08 h
    have hr09 := Cm.read_09 h
    have hr10 := Cm.read_10 h
    have hrno := Cm.read_no h
    unfold GotSp at *
    generalize s.take 2 = t2 at *
    by_cases c0 : He.fld s 0 2 = 0
    · rw [c0] at HO
      rw [hr08 (.inl c0)]
      clear H9 H10 hr08 hr09 hr10 hrno
      generalize Ch.get s = a at *
      obtain ⟨a1, a2⟩ := a
      dsimp only at *
      go_enter Tryz.func11, Tryz.ntmps11
      go_wp2_with fail
      refine (HO.out _).mono ?_
      rintro e w2 ⟨rfl, rfl⟩
      clear HO
      go_wp2_with fail
      refine (H8.out _).mono ?_
      rintro e w3 ⟨p3, c3, rfl, hrow, lo⟩
      have HR := Lib.hid hrow
      have HL := Lib.hid lo
      clear lo hrow H8
      go_wp2_with fail
      go_ret2
      exact ⟨_, _, rfl, HR.out, HL.out⟩
    by_cases c6 : He.fld s 0 2 = 6
    · rw [c6] at HO
      rw [hr08 (.inr c6)]
      clear H9 H10 c0 hr08 hr09 hr10 hrno
      generalize Ch.get s = a at *
      obtain ⟨a1, a2⟩ := a
      dsimp only at *
      go_enter Tryz.func11, Tryz.ntmps11
      go_wp2_with fail
      refine (HO.out _).mono ?_
      rintro e w2 ⟨rfl, rfl⟩
      clear HO
      go_wp2_with fail
      refine (H8.out _).mono ?_
      rintro e w3 ⟨p3, c3, rfl, hrow, lo⟩
      have HR := Lib.hid hrow
      have HL := Lib.hid lo
      clear lo hrow H8
      go_wp2_with fail
      go_ret2
      exact ⟨_, _, rfl, HR.out, HL.out⟩
    by_cases c4 : He.fld s 0 2 = 4
    · rw [c4] at HO
      rw [hr09 c4]
      clear H8 H10 c0 c6 hr08 hr09 hr10 hrno
      generalize Sg.get s = a at *
      obtain ⟨a1, a2⟩ := a
      dsimp only at *
      go_enter Tryz.func11, Tryz.ntmps11
      go_wp2_with fail
      refine (HO.out _).mono ?_
      rintro e w2 ⟨rfl, rfl⟩
      clear HO
      go_wp2_with fail
      refine (H9.out _).mono ?_
      rintro e w3 ⟨p3, c3, rfl, hrow, lo⟩
      have HR := Lib.hid hrow
      have HL := Lib.hid lo
      clear lo hrow H9
      go_wp2_with fail
      go_ret2
      exact ⟨_, _, rfl, HR.out, HL.out⟩
    by_cases c12 : He.fld s 0 2 = 12
    · rw [c12] at HO
      rw [hr10 (.inl c12)]
      clear H8 H9 c0 c6 c4 hr08 hr09 hr10 hrno
      generalize Gp.get s = a at *
      obtain ⟨a1, a2⟩ := a
      dsimp only at *
      go_enter Tryz.func11, Tryz.ntmps11
      go_wp2_with fail
      refine (HO.out _).mono ?_
      rintro e w2 ⟨rfl, rfl⟩
      clear HO
      go_wp2_with fail
      refine (H10.out _).mono ?_
      rintro e w3 ⟨p3, c3, rfl, hrow, lo⟩
      have HR := Lib.hid hrow
      have HL := Lib.hid lo
      clear lo hrow H10
      go_wp2_with fail
      go_ret2
      exact ⟨_, _, rfl, HR.out, HL.out⟩
    by_cases c13 : He.fld s 0 2 = 13
    · rw [c13] at HO
      rw [hr10 (.inr c13)]
      clear H8 H9 c0 c6 c4 c12 hr08 hr09 hr10 hrno
      generalize Gp.get s = a at *
      obtain ⟨a1, a2⟩ := a
      dsimp only at *
      go_enter Tryz.func11, Tryz.ntmps11
      go_wp2_with fail
      refine (HO.out _).mono ?_
      rintro e w2 ⟨rfl, rfl⟩
      clear HO
      go_wp2_with fail
      refine (H10.out _).mono ?_
      rintro e w3 ⟨p3, c3, rfl, hrow, lo⟩
      have HR := Lib.hid hrow
      have HL := Lib.hid lo
      clear lo hrow H10
      go_wp2_with fail
      go_ret2
      exact ⟨_, _, rfl, HR.out, HL.out⟩
    rw [hrno (by unfold Cm.fmt; simp [c0, c4, c6, c12, c13])]
    clear hr08 hr09 hr10 hrno H8 H9 H10
    generalize He.fld s 0 2 = n at *
    have n0 : (n == 0) = false := by simpa using c0
    have n4 : (n == 4) = false := by simpa using c4
    have n6 : (n == 6) = false := by simpa using c6
    have n12 : (n == 12) = false := by simpa using c12
    have n13 : (n == 13) = false := by simpa using c13
    clear c0 c4 c6 c12 c13
    go_enter Tryz.func11, Tryz.ntmps11
    go_wp2_with fail
    refine (HO.out _).mono ?_
    rintro e w2 ⟨rfl, rfl⟩
    clear HO
    go_wp2_with fail
    go_ret2
    exact ⟨_, _, rfl, RowK.nil _ _ _, Lo.refl _⟩
end Go.Proofs.YtppihpjcdieeoaaGreatDoor
