/-
  Contracts of the document's small functions of layer 9: word, plane, near, far. No conditions beyond those stated.
-/
import Derived.Test.YtfnpindohoflaaaSgUsed
import Derived.Test.YtfnpindohoflaaaBnRefP
import Derived.Test.YtfnpindohoflaaaGround
namespace Sg
open Ch
theorem spansOf_step (h : Int → Int) (a : Int) (k : Nat) : spansOf h a (k + 1) = spansOf h a k ++ (if h (a + (k : Int)) = 0 then [] else [⟨a + (k : Int), a + (k : Int), h (a + (k : Int)), 1⟩]) := by
  rw [spansOf_append, spansOf, spansOf, List.append_nil]
theorem far_no {s : List UInt8} {fr tt d : Int} {pos : Nat} (h : (s.length : Int) < pos + word s pos + 2 * (tt - fr) + 2) : far s fr tt d pos = ([], 4) := by
  unfold far; rw [if_pos h]
theorem far_yes {s : List UInt8} {fr tt d : Int} {pos : Nat} (h : ¬ (s.length : Int) < pos + word s pos + 2 * (tt - fr) + 2) : far s fr tt d pos = (spansOf (fun c => gl1 (word s (pos + (word s pos).toNat + 2 * (c - fr).toNat)) d) fr (tt - fr + 1).toNat, 0) := by
  unfold far; rw [if_neg h]
end Sg
namespace Go.Proofs.Ytfnpindohoflaaa
open Go.RowKit

set_option maxHeartbeats 800000 in
theorem rword_any (s : List UInt8) (p : Nat) (w : World) (h : p + 2 ≤ s.length) (hl : s.length ≤ 1000000) : Calls Try.prog 23 #[.string ⟨s.toArray⟩, .int .i64 (p : Int)] w fun e w' => e = .returned (.int .i64 (Sg.word s p)) ∧ w = w' := by
  have HO := Lib.hid (fun W => rone_any ((s.drop p).take 2) 2 W (by rw [List.length_take]; omega))
  rw [show Bn.one ((s.drop p).take 2) 2 = Sg.word s p from rfl] at HO
  have hx : (ByteArray.mk s.toArray).extract p (p + 2) = ByteArray.mk ((s.drop p).take 2).toArray := by
    rw [Gk.extract_list, show p + 2 - p = 2 by omega]
  have hsz : (ByteArray.mk s.toArray).size = s.length := rfl
  generalize Sg.word s p = y at *
  generalize s.length = n at *
  generalize (s.drop p).take 2 = t at *
  go_enter Try.func23, Try.ntmps23
  go_wp2_with fail
  refine (HO.out _).mono ?_
  rintro e w1 ⟨rfl, rfl⟩
  go_wp2_with fail
  go_ret
  exact ⟨rfl, rfl⟩

set_option maxHeartbeats 400000 in
theorem rplane_any (x : Int) (w : World) (h0 : -1000000 ≤ x) (h1 : x ≤ 1000000) : Calls Try.prog 35 #[.int .i64 x] w fun e w' => e = .returned (.int .i64 (Sg.plane x)) ∧ w = w' := by
  unfold Sg.plane
  by_cases h : 65536 ≤ x
  · rw [if_pos h]
    go_enter Try.func35, Try.ntmps35
    go_wp2_with fail
    go_ret
    exact ⟨ret_int (by first | rfl | omega | (simp [IntKind.wrap_i64]; omega)), rfl⟩
  · rw [if_neg h]
    go_enter Try.func35, Try.ntmps35
    go_wp2_with fail
    go_ret
    exact ⟨rfl, rfl⟩

set_option maxRecDepth 100000 in
set_option maxHeartbeats 1600000 in
theorem rnear_any (fr tt d : Int) (w : World) (h1 : 0 ≤ fr) (h2 : fr ≤ 65535) (h3 : 0 ≤ tt) (h4 : tt ≤ 65535) (h5 : 0 ≤ d) (h6 : d ≤ 65535) : Calls Try.prog 24 #[.int .i64 fr, .int .i64 tt, .int .i64 d] w (GotSpans (Sg.near fr tt d) w) := by
  have HP := Lib.hid (fun W => rplane_any (fr + d) W (by omega) (by omega))
  obtain ⟨g0, g1⟩ := Sg.plane_bound (n := fr + d) (by omega) (by omega)
  unfold GotSpans Sg.near
  generalize Sg.plane (fr + d) = g at *
  by_cases h : g + tt - fr ≤ 65535
  · rw [if_pos h]
    go_enter Try.func24, Try.ntmps24
    go_wp2_with fail
    refine (HP.out _).mono ?_
    rintro e w1 ⟨rfl, rfl⟩
    go_wp2_with (at_builtin; refine wpList_appK _ rfl (.tmp 20) (.tmp 25) _ rfl 41 4 32 _ Try.underlying22 api_info rfl (by omega) (by omega) encS_len encS_one w.heap.size (.slice none 0 0) ([] : List Ch.Span) rfl (OwnK.none _ _ _ _ _) _ [⟨fr, tt, g, 1⟩] rfl (srow1 _ _ rfl ⟨fr, tt, g, 1⟩ _) (by simp) (by simp) ?_; intro q1 d1 w4 hown hlo; have HO4 := Lib.hid hown; have HL4 := Lib.hid (hlo w ((Lo.refl _).alloc _) (Nat.le_refl _)); clear hown hlo)
    go_ret
    exact ⟨q1, d1, rfl, OwnK.row encS_len HO4.out, HL4.out⟩
  · rw [if_neg h]
    go_enter Try.func24, Try.ntmps24
    go_wp2_with fail
    refine (HP.out _).mono ?_
    rintro e w1 ⟨rfl, rfl⟩
    go_wp2_with (first | (at_builtin; refine wpList_appK _ rfl (.tmp 31) (.tmp 36) _ rfl 41 4 32 _ Try.underlying22 api_info rfl (by omega) (by omega) encS_len encS_one w.heap.size (.slice none 0 0) ([] : List Ch.Span) rfl (OwnK.none _ _ _ _ _) _ [⟨fr, fr + 65535 - g, g, 1⟩] rfl (srow1 _ _ rfl ⟨fr, fr + 65535 - g, g, 1⟩ _) (by simp) (by simp) ?_; intro q1 d1 w4 hown hlo; have HO4 := Lib.hid hown; have HL4 := Lib.hid (hlo w ((Lo.refl _).alloc _) (Nat.le_refl _)); clear hown hlo) | (at_builtin; refine wpList_appK _ rfl (.tmp 38) (.tmp 43) _ rfl 41 4 32 _ Try.underlying22 api_info rfl (by omega) (by omega) encS_len encS_one w.heap.size _ [⟨fr, fr + 65535 - g, g, 1⟩] rfl (OwnK.lo HO4.out ((Lo.refl _).alloc _)) _ [⟨fr + 65535 - g + 1, tt, 0, 1⟩] rfl (srow1 _ _ rfl ⟨fr + 65535 - g + 1, tt, 0, 1⟩ _) (by simp) (by have := HL4.out.size; simp; omega) ?_; intro q2 d2 w5 hown hlo; have HO5 := Lib.hid hown; have HL5 := Lib.hid (hlo w (HL4.out.alloc _) (Nat.le_refl _)); clear hown hlo))
    go_ret
    exact ⟨q2, d2, rfl, OwnK.row encS_len HO5.out, HL5.out⟩

set_option maxRecDepth 100000 in
set_option maxHeartbeats 3200000 in
theorem rfar_any (s : List UInt8) (fr tt d : Int) (pos : Nat) (w : World) (hl : s.length ≤ 100000) (hpos : pos + 2 ≤ s.length) (h0 : 0 ≤ fr) (h1 : fr ≤ tt) (h2 : tt ≤ 65535) (h3 : 0 ≤ d) (h4 : d ≤ 65535) :
    Calls Try.prog 25 #[.string ⟨s.toArray⟩, .int .i64 fr, .int .i64 tt, .int .i64 d, .int .i64 (pos : Int)] w (GotSp (Sg.far s fr tt d pos) w) := by
  have HW := Lib.hid (fun (p : Nat) (hp : p + 2 ≤ s.length) (W : World) => rword_any s p W hp (by omega))
  have HPl := Lib.hid (fun (x : Int) (hx0 : -1000000 ≤ x) (hx1 : x ≤ 1000000) (W : World) => rplane_any x W hx0 hx1)
  have HB := Lib.hid (fun p => Sg.word_bound s p)
  have HPb := Lib.hid (fun (x : Int) (a : 0 ≤ x) (b : x < 131072) => Sg.plane_bound a b)
  have HNo := Lib.hid (fun h => Sg.far_no (s := s) (fr := fr) (tt := tt) (d := d) (pos := pos) h)
  have HYes := Lib.hid (fun h => Sg.far_yes (s := s) (fr := fr) (tt := tt) (d := d) (pos := pos) h)
  have hb := Sg.word_bound s pos
  have HW0 := Lib.hid (fun W => rword_any s pos W hpos (by omega))
  have hsz : (ByteArray.mk s.toArray).size = s.length := rfl
  generalize Sg.far s fr tt d pos = y at *
  generalize hwd : Sg.word s pos = wd at *
  obtain ⟨wn, rfl⟩ := Int.eq_ofNat_of_zero_le hb.1
  rw [Int.toNat_natCast] at HYes
  obtain ⟨cn, hcn⟩ : ∃ cn : Nat, tt - fr + 1 = (cn : Int) := ⟨(tt - fr + 1).toNat, by omega⟩
  have ett : (tt - fr + 1).toNat = cn := by omega
  rw [ett] at HYes
  have HStep := Lib.hid (fun (k : Nat) => (show Ch.spansOf (fun c => Sg.gl1 (Sg.word s (pos + wn + 2 * (c - fr).toNat)) d) fr (k + 1) = Ch.spansOf (fun c => Sg.gl1 (Sg.word s (pos + wn + 2 * (c - fr).toNat)) d) fr k ++ (if Sg.gl1 (Sg.word s (pos + wn + 2 * k)) d = 0 then [] else [⟨fr + (k : Int), fr + (k : Int), Sg.gl1 (Sg.word s (pos + wn + 2 * k)) d, 1⟩]) by
    rw [Sg.spansOf_step]
    rw [show (fr + (k : Int) - fr).toNat = k by omega]))
  have HSl := Lib.hid (fun (k : Nat) => Ch.spansOf_len (fun c => Sg.gl1 (Sg.word s (pos + wn + 2 * (c - fr).toNat)) d) k fr)
  generalize hF : (fun c => Sg.gl1 (Sg.word s (pos + wn + 2 * (c - fr).toNat)) d) = F at *
  generalize hsn : s.length = sn at *
  clear hF hwd hsn ett
  go_enter Try.func25, Try.ntmps25
  go_wp2_with fail
  go_loopw [12, 13, 14, 15, 16] (fun s12 s13 _ _ _ W => ∃ (k : Nat) (L : List Ch.Span) (q : Option Addr) (e : Nat), k ≤ cn ∧ s13 = .int .i64 (fr + (k : Int)) ∧ s12 = .slice q L.length e ∧ Hid (L = Ch.spansOf F fr k) ∧ Hid (OwnK encS 41 4 W w.heap.size (.slice q L.length e) L) ∧ Hid (Lo w W) ∧ Hid (0 < k → pos + wn + 2 * (k - 1) + 2 ≤ sn)) (fun _ s13 _ _ _ _ => (fr + (cn : Int) - intOf s13).toNat)
  case atStart => exact ⟨0, [], none, 0, Nat.zero_le _, by simp, rfl, Lib.hid rfl, Lib.hid (OwnK.none _ _ _ _ _), Lib.hid (Lo.refl _), Lib.hid (by intro h; omega)⟩
  case round =>
    obtain ⟨k, L, q, e, hk, rfl, rfl, HT, HO, HL, HR⟩ := hrel
    by_cases hlt : k < cn
    · have hck : fr + (k : Int) - fr = k := by omega
      go_wp2_with fail
      refine (HW0.out _).mono ?_
      rintro e1 w1 ⟨rfl, rfl⟩
      by_cases hin : pos + wn + 2 * k + 2 ≤ sn
      · have HW1 : Hid (∀ W, Calls Try.prog 23 #[.string ⟨s.toArray⟩, .int .i64 ((pos : Int) + wn + 2 * k)] W fun e w' => e = .returned (.int .i64 (Sg.word s (pos + wn + 2 * k))) ∧ W = w') := Lib.hid (fun W => by
          have := HW.out (pos + wn + 2 * k) hin W
          rwa [show ((pos + wn + 2 * k : Nat) : Int) = (pos : Int) + wn + 2 * k by omega] at this)
        obtain ⟨v0, v1⟩ := HB.out (pos + wn + 2 * k)
        have HS1 := HStep.out k
        rw [← HT.out] at HS1
        have HSt1 := Lib.hid HS1
        have HLk : Hid (L.length ≤ k) := Lib.hid (by rw [HT.out]; exact HSl.out k)
        have HSz := Lib.hid HL.out.size
        generalize Sg.word s (pos + wn + 2 * k) = v at *
        have hpb := HPb.out (v + d) (by omega) (by omega)
        have HP1 := Lib.hid (HPl.out (v + d) (by omega) (by omega))
        have hgl : Sg.gl1 v d = if 0 < v ∧ 0 < Sg.plane (v + d) then Sg.plane (v + d) else 0 := rfl
        rw [hgl] at HSt1
        generalize Sg.plane (v + d) = g at *
        clear HS1 hgl
        have HRn : Hid (0 < k + 1 → pos + wn + 2 * (k + 1 - 1) + 2 ≤ sn) := Lib.hid (fun _ => by rw [Nat.add_sub_cancel]; exact hin)
        go_wp2_with fail
        refine (HW1.out _).mono ?_
        rintro e1 w1 ⟨rfl, rfl⟩
        go_wp2_with fail
        refine (HP1.out _).mono ?_
        rintro e1 w1 ⟨rfl, rfl⟩
        by_cases c1 : 0 < v
        · by_cases c2 : 0 < g
          · have HT2 : Hid (L ++ [⟨fr + (k : Int), fr + (k : Int), g, 1⟩] = Ch.spansOf F fr (k + 1)) := Lib.hid (by rw [HSt1.out, show (if 0 < v ∧ 0 < g then g else 0) = g from if_pos ⟨c1, c2⟩, if_neg (by omega)])
            go_wp2_with (at_builtin; refine wpList_appK _ rfl (.tmp 51) (.tmp 56) _ rfl 41 4 32 _ Try.underlying22 api_info rfl (by omega) (by omega) encS_len encS_one w.heap.size (.slice q L.length e) L rfl (OwnK.lo HO.out ((Lo.refl _).alloc _)) _ [⟨fr + (k : Int), fr + (k : Int), g, 1⟩] rfl (srow1 _ _ rfl ⟨fr + (k : Int), fr + (k : Int), g, 1⟩ _) (by have := HLk.out; simp; omega) (by have := HSz.out; simp; omega) ?_; intro q1 d1 w3 hown hlo; have HO3 := Lib.hid hown; have HL3 := Lib.hid (hlo w (HL.out.alloc _) (Nat.le_refl _)); clear hown hlo)
            all_goals first | (exfalso; rename_i hb; simp at hb; omega) | skip
            go_roundw
            case rel => exact ⟨k + 1, L ++ [⟨fr + (k : Int), fr + (k : Int), g, 1⟩], q1, d1, by omega, by go_num, by simp, HT2, by simpa using HO3, HL3, HRn⟩
            case measure => simp [intOf]; omega
          · have HT2 : Hid (L = Ch.spansOf F fr (k + 1)) := Lib.hid (by rw [HSt1.out, show (if 0 < v ∧ 0 < g then g else 0) = 0 from if_neg (by omega), if_pos rfl, List.append_nil])
            go_wp2_with fail
            all_goals
              go_roundw
              case rel => exact ⟨k + 1, L, q, e, by omega, by go_num, rfl, HT2, HO, HL, HRn⟩
              case measure => simp [intOf]; omega
        · have HT2 : Hid (L = Ch.spansOf F fr (k + 1)) := Lib.hid (by rw [HSt1.out, show (if 0 < v ∧ 0 < g then g else 0) = 0 from if_neg (by omega), if_pos rfl, List.append_nil])
          go_wp2_with fail
          all_goals
            go_roundw
            case rel => exact ⟨k + 1, L, q, e, by omega, by go_num, rfl, HT2, HO, HL, HRn⟩
            case measure => simp [intOf]; omega
      · have HE := Lib.hid (HNo.out (by omega))
        go_wp2_with fail
        go_ret2
        rw [HE.out]
        exact GotSp.nil rfl HL.out
    · obtain rfl : k = cn := by omega
      have hr := HR.out (by omega)
      have HE := Lib.hid (HYes.out (by omega))
      rw [← HT.out] at HE
      go_wp2_with fail
      go_ret2
      rw [HE.out]
      exact ⟨q, e, rfl, OwnK.row encS_len HO.out, HL.out⟩
end Go.Proofs.Ytfnpindohoflaaa
