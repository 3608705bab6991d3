/-
  The contract of the document's Get for layer 6. No conditions beyond those stated.
-/
import Derived.Test.YtchhjfocanjniaaHmRef
namespace Go.Proofs.Ytchhjfocanjniaa
open Go.RowKit

set_option maxHeartbeats 800000 in
theorem hrget_arg (s : ByteArray) (g m : Int) (w : World) (h : g < 1 ∨ 65535 < g ∨ m < 1 ∨ g < m) :
    Calls Try.prog 7 #[.string s, .int .i64 g, .int .i64 m] w (GotMet ([], 1) w) := by
  by_cases h1 : g < 1
  · go_enter Try.func7, Try.ntmps7
    go_wp2_with fail
    go_ret2
    exact GotMet.nil rfl (Lo.refl _)
  · by_cases h2 : 65535 < g
    · go_enter Try.func7, Try.ntmps7
      go_wp2_with fail
      go_ret2
      exact GotMet.nil rfl (Lo.refl _)
    · by_cases h3 : m < 1
      · go_enter Try.func7, Try.ntmps7
        go_wp2_with fail
        go_ret2
        exact GotMet.nil rfl (Lo.refl _)
      · have h4 : g < m := by omega
        go_enter Try.func7, Try.ntmps7
        go_wp2_with fail
        go_ret2
        exact GotMet.nil rfl (Lo.refl _)

set_option maxHeartbeats 800000 in
theorem hrget_more (s : List UInt8) (g m : Nat) (w : World) (hg : g ≤ 65535) (h1 : 1 ≤ m) (h2 : m ≤ g) (hs : s.length < 4 * m + 2 * (g - m)) :
    Calls Try.prog 7 #[.string ⟨s.toArray⟩, .int .i64 g, .int .i64 m] w (GotMet ([], 4) w) := by
  have i1 : (s.length : Int) < 4 * (m : Int) + 2 * ((g : Int) - (m : Int)) := by omega
  go_enter Try.func7, Try.ntmps7
  go_wp2_with fail
  go_ret2
  exact GotMet.nil rfl (Lo.refl _)

theorem cell_low (s : List UInt8) {m i : Nat} (h : i < m) : Hm.cell s m i = (Bn.one ((s.drop (4 * i)).take 2) 2, Bn.one ((s.drop (4 * i + 2)).take 2) (-2)) := by
  unfold Hm.cell
  rw [if_pos h]; rfl
theorem cell_high (s : List UInt8) {m i : Nat} (h : m ≤ i) (h1 : 1 ≤ m) : Hm.cell s m i = ((Hm.cell s m (m - 1)).1, Bn.one ((s.drop (4 * m + 2 * (i - m))).take 2) (-2)) := by
  unfold Hm.cell
  rw [if_neg (by omega), if_pos (by omega)]; rfl
theorem range_snoc {α : Type} (f : Nat → α) (k : Nat) : (List.range (k + 1)).map f = (List.range k).map f ++ [f k] := by rw [List.range_succ, List.map_append]; rfl

set_option maxRecDepth 100000 in
set_option maxHeartbeats 2000000 in
theorem hrget_ok (s : List UInt8) (g m : Nat) (w : World) (hg : g ≤ 65535) (h1 : 1 ≤ m) (h2 : m ≤ g) (hs : 4 * m + 2 * (g - m) ≤ s.length) (hl : s.length ≤ 9223372036854775807) :
    Calls Try.prog 7 #[.string ⟨s.toArray⟩, .int .i64 g, .int .i64 m] w (GotMet ((List.range g).map (Hm.cell s m), 0) w) := by
  have i1 : ¬ (s.length : Int) < 4 * (m : Int) + 2 * ((g : Int) - (m : Int)) := by omega
  have HOne := Lib.hid (fun (l : List UInt8) (z : Int) (W : World) (h : l.length = 2) => rone_any l z W (by omega))
  have HLen := Lib.hid (fun k => (by simp : ((List.range k).map (Hm.cell s m)).length = k))
  have HSn := Lib.hid (range_snoc (Hm.cell s m))
  have HLow := Lib.hid (fun i h => @cell_low s m i h)
  have HHigh := Lib.hid (fun i h => @cell_high s m i h h1)
  have HAt : Hid (∀ k, m ≤ k → ((List.range k).map (Hm.cell s m))[m - 1]? = some (Hm.cell s m (m - 1))) := Lib.hid (fun k hk => by
    rw [List.getElem?_map, List.getElem?_range (by omega)]; rfl)
  go_enter Try.func7, Try.ntmps7
  go_wp2_with fail
  go_loopw [8, 9, 10] (fun u i _ W => ∃ (k : Nat) (p : Option Addr) (c : Nat), k ≤ g ∧ i = .int .i64 k ∧ u = .slice p k c ∧ Hid (OwnM W w.heap.size (.slice p k c) ((List.range k).map (Hm.cell s m))) ∧ Hid (Lo w W)) (fun _ i _ _ => g - (intOf i).toNat)
  case atStart => exact ⟨0, none, 0, Nat.zero_le _, rfl, rfl, Lib.hid (OwnK.none _ _ _ _ _), Lib.hid (Lo.refl _)⟩
  case round =>
    obtain ⟨k, p, c, hk, rfl, rfl, HO, HL⟩ := hrel
    by_cases hlt : k < g
    · by_cases hkm : k < m
      · have HC := Lib.hid (HLow.out k hkm)
        obtain ⟨x, hx⟩ : ∃ x : Nat, x = 4 * k := ⟨_, rfl⟩
        rw [← hx] at HC
        have hxs : x + 4 ≤ s.length := by omega
        have hx1 : (4 : Int) * (k : Int) = (x : Int) := by omega
        have l1 : ((s.drop x).take 2).length = 2 := by rw [List.length_take, List.length_drop]; omega
        have l2 : ((s.drop (x + 2)).take 2).length = 2 := by rw [List.length_take, List.length_drop]; omega
        have e1 : (⟨s.toArray⟩ : ByteArray).extract x (x + 2) = ⟨((s.drop x).take 2).toArray⟩ := by rw [Gk.extract_list, Nat.add_sub_cancel_left]
        have e2 : (⟨s.toArray⟩ : ByteArray).extract (x + 2) (x + 4) = ⟨((s.drop (x + 2)).take 2).toArray⟩ := by rw [Gk.extract_list, show x + 4 - (x + 2) = 2 by omega]
        have HX := Lib.hid hx
        have c1 := HOne.out _ 2 w.drew l1
        clear hx c1
        generalize (s.drop x).take 2 = t1 at *
        generalize (s.drop (x + 2)).take 2 = t2 at *
        have HL1 := Lib.hid l1
        have HL2 := Lib.hid l2
        have HSnk := Lib.hid (HSn.out k)
        rw [HC.out] at HSnk
        generalize hz1 : Bn.one t1 2 = z1 at *
        generalize hz2 : Bn.one t2 (-2) = z2 at *
        have HZ1 := Lib.hid hz1
        have HZ2 := Lib.hid hz2
        have C1 : Hid (∀ W, Calls Try.prog 19 #[.string ⟨t1.toArray⟩, .int .i64 2] W fun e w' => e = .returned (.int .i64 z1) ∧ W = w') := Lib.hid (fun W => by rw [← HZ1.out]; exact HOne.out t1 2 W HL1.out)
        have C2 : Hid (∀ W, Calls Try.prog 19 #[.string ⟨t2.toArray⟩, .int .i64 (-2)] W fun e w' => e = .returned (.int .i64 z2) ∧ W = w') := Lib.hid (fun W => by rw [← HZ2.out]; exact HOne.out t2 (-2) W HL2.out)
        clear l1 l2 hz1 hz2 HC
        have a0 : (0 : Int) ≤ (x : Int) := by omega
        have a1 : IntKind.i64.wrap (x : Int) = (x : Int) := IntWalk.i64_in _ (by omega)
        have a2 : IntKind.i64.wrap ((x : Int) + 2) = (x : Int) + 2 := IntWalk.i64_in _ (by omega)
        have a3 : IntKind.i64.wrap ((x : Int) + 4) = (x : Int) + 4 := IntWalk.i64_in _ (by omega)
        have a4 : (0 : Int) ≤ (x : Int) + 2 := by omega
        have a5 : (0 : Int) ≤ (x : Int) + 4 := by omega
        have a6 : (x : Int) ≤ (x : Int) + 2 := by omega
        have a7 : (x : Int) + 2 ≤ (x : Int) + 4 := by omega
        have a8 : (x : Int) + 2 ≤ (s.length : Int) := by omega
        have a9 : (x : Int) + 4 ≤ (s.length : Int) := by omega
        have b1 : ((x : Int) + 2).toNat = x + 2 := by omega
        have b2 : ((x : Int) + 4).toNat = x + 4 := by omega
        have HTL := Lib.hid (HLen.out k)
        go_wp2_with fail
        go_region_held3 (fun W => Hid (Lo w W)) (first | assumption | exact Lib.hid HL.out.drew | exact Lib.hid (Lo.alloc (Hid.out (by assumption)) _))
          (first
            | (go_at_call_of 19 t1; refine (C1.out _).mono ?_; rintro e w2 ⟨rfl, rfl⟩)
            | (go_at_call_of 19 t2; refine (C2.out _).mono ?_; rintro e w2 ⟨rfl, rfl⟩)
            | (refine step_appM rfl (.tmp 44) (.tmp 63) rfl w.heap.size (.slice p k c) _ rfl (OwnK.lo2 HO.out (((Lo.refl _).drew).alloc _)) _ (z1, z2) rfl (by simp [go_sem]) (by simp [go_sem]) (by rw [HTL.out]; omega) (by have := HL.out.size; simp; omega) ?_; intro q1 c1 w3 hown hlo; have HO3 := Lib.hid hown; have HL3 := Lib.hid (hlo w (((HL.out).drew).alloc _) rfl); clear hown hlo; rw [HTL.out] at HO3; rw [HTL.out]))
        all_goals
          clear e1 e2 a1 a2 a3 a4 a5 a6 a7 a8 a9 b1 b2 hx1 C1 C2
          go_wp2_with fail
          go_roundw
          case rel => exact ⟨k + 1, q1, c1, by omega, by go_num, rfl, Lib.hid (by rw [HSnk.out]; exact HO3.out), HL3⟩
          case measure => simp [intOf]; omega
      · have HC := Lib.hid (HHigh.out k (by omega))
        obtain ⟨x, hx⟩ : ∃ x : Nat, x = 4 * m + 2 * (k - m) := ⟨_, rfl⟩
        rw [← hx] at HC
        have hxs : x + 2 ≤ s.length := by omega
        have hx1 : (4 : Int) * (m : Int) + 2 * ((k : Int) - (m : Int)) = (x : Int) := by omega
        have l1 : ((s.drop x).take 2).length = 2 := by rw [List.length_take, List.length_drop]; omega
        have e1 : (⟨s.toArray⟩ : ByteArray).extract x (x + 2) = ⟨((s.drop x).take 2).toArray⟩ := by rw [Gk.extract_list, Nat.add_sub_cancel_left]
        obtain ⟨b2, off2, rfl, hcell, _⟩ := MRow.at2 (OwnK.row encM_len HO.out) (HAt.out k (by omega))
        clear hx
        generalize (s.drop x).take 2 = t1 at *
        have HL1 := Lib.hid l1
        have HSnk := Lib.hid (HSn.out k)
        rw [HC.out] at HSnk
        generalize hz1 : (Hm.cell s m (m - 1)).1 = z1 at *
        generalize hz2 : Bn.one t1 (-2) = z2 at *
        have HZ2 := Lib.hid hz2
        have C1 : Hid (∀ W, Calls Try.prog 19 #[.string ⟨t1.toArray⟩, .int .i64 (-2)] W fun e w' => e = .returned (.int .i64 z2) ∧ W = w') := Lib.hid (fun W => by rw [← HZ2.out]; exact HOne.out t1 (-2) W HL1.out)
        clear l1 hz1 hz2 HC
        have a0 : (0 : Int) ≤ (x : Int) := by omega
        have a2 : IntKind.i64.wrap ((x : Int) + 2) = (x : Int) + 2 := IntWalk.i64_in _ (by omega)
        have a4 : (0 : Int) ≤ (x : Int) + 2 := by omega
        have a6 : (x : Int) ≤ (x : Int) + 2 := by omega
        have a8 : (x : Int) + 2 ≤ (s.length : Int) := by omega
        have b1 : ((x : Int) + 2).toNat = x + 2 := by omega
        have j2 : IntKind.i64.wrap ((m : Int) - 1) = (m : Int) - 1 := IntWalk.i64_in _ (by omega)
        have j4 : (0 : Int) ≤ (m : Int) - 1 := by omega
        have j4' : (1 : Int) ≤ (m : Int) := by omega
        have j6 : (m : Int) - 1 < (k : Int) := by omega
        have j8 : ((m : Int) - 1).toNat = m - 1 := by omega
        have HTL := Lib.hid (HLen.out k)
        go_wp2_with fail
        go_region_law (first
          | (show (if Region.wanted (Oper.mk _ (Op.call { callee := .builtin .append, args := _, argTypes := _ }) _ _ _ _) _ = true then _ else _)
             refine step_appM rfl (.tmp 72) (.tmp 86) rfl w.heap.size (.slice (some ⟨b2, off2, none⟩) k c) _ rfl (OwnK.lo2 HO.out (((Lo.refl _).drew).alloc _)) _ (z1, z2) rfl (by simp [go_sem]) (by simp [go_sem]) (by rw [HTL.out]; omega) (by have := HL.out.size; simp; omega) ?_; intro q1 c1 w3 hown hlo; have HO3 := Lib.hid hown; have HL3 := Lib.hid (hlo w (((HL.out).drew).alloc _) rfl); clear hown hlo; rw [HTL.out] at HO3; rw [HTL.out])
          | (go_simp; go_at_call_of 19 t1; refine (C1.out _).mono ?_; rintro e w2 ⟨rfl, rfl⟩))
        all_goals
          clear e1 a2 a4 a6 a8 b1 j2 j4 j6 j8 hx1 C1 hcell
          go_wp2_with fail
          go_roundw
          case rel => exact ⟨k + 1, q1, c1, by omega, by go_num, rfl, Lib.hid (by rw [HSnk.out]; exact HO3.out), HL3⟩
          case measure => simp [intOf]; omega
    · obtain rfl : k = g := by omega
      go_wp2_with fail
      go_ret2
      refine ⟨p, c, ?_, ?_, HL.out⟩
      · rw [HLen.out]; rfl
      · rw [HLen.out]; exact OwnK.row encM_len HO.out

/-- The document's Get. -/
theorem hrget_any (s : List UInt8) (g m : Int) (w : World) (hl : s.length ≤ 9223372036854775807) :
    Calls Try.prog 7 #[.string ⟨s.toArray⟩, .int .i64 g, .int .i64 m] w (GotMet (Hm.get s g m) w) := by
  by_cases h : g < 1 ∨ 65535 < g ∨ m < 1 ∨ g < m
  · rw [Hm.get_arg s h]; exact hrget_arg _ g m w h
  · obtain ⟨g', rfl⟩ := Int.eq_ofNat_of_zero_le (show 0 ≤ g by omega)
    obtain ⟨m', rfl⟩ := Int.eq_ofNat_of_zero_le (show 0 ≤ m by omega)
    rcases Nat.lt_or_ge s.length (4 * m' + 2 * (g' - m')) with hs | hs
    · rw [((Hm.get_by s (by omega) (by omega) (by omega)).1 hs).2]
      exact hrget_more s g' m' w (by omega) (by omega) (by omega) hs
    · rw [((Hm.get_by s (by omega) (by omega) (by omega)).2 hs).2, ← Hm.rows_two s (by omega) (by omega)]
      exact hrget_ok s g' m' w (by omega) (by omega) (by omega) hs hl
end Go.Proofs.Ytchhjfocanjniaa
