/-
  The contract of the document's answer for layer 13, Get. No conditions beyond those stated.
-/
import Derived.Test.YtcbchnckeeklkaaKoRef
import Derived.Deep.RegionLaw
namespace Go.Proofs.Ytcbchnckeeklkaa
open Go.RowKit

set_option maxRecDepth 100000 in
set_option maxHeartbeats 1600000 in
theorem rkget_yes (s : List UInt8) (pos : Nat) (w : World) (h : pos + 214 ≤ s.length) (hl : s.length ≤ 9223372036854775807) :
    Calls Try.prog 9 #[.string ⟨s.toArray⟩, .int .i64 (pos : Int)] w (GotRow (Ko.row (s.drop pos), 0) w) := by
  have HS := Lib.hid (fun k W => rsize13_any k W)
  have HW := Lib.hid (fun k W => rwide13_any k W)
  have h0 : ¬ (pos : Int) < 0 := by omega
  have h2 : ¬ (s.length : Int) < (pos : Int) := by omega
  have h3 : ¬ (s.length : Int) - (pos : Int) < 214 := by omega
  have hsz : (ByteArray.mk s.toArray).size = s.length := rfl
  go_enter Try.func9, Try.ntmps9
  go_wp2_with fail
  go_loopw [1, 6, 7] (fun a u i W => ∃ (k x : Nat) (p : Option Addr) (c : Nat), k ≤ 56 ∧ i = .int .i64 k ∧ a = .int .i64 x ∧ u = .slice p k c ∧ Hid (x = pos + Ko.place k) ∧ Hid (Own W w.heap.size (.slice p k c) (Ko.rowTo (s.drop pos) k)) ∧ Hid (Lo w W)) (fun _ _ i _ => 56 - (intOf i).toNat)
  case atStart => exact ⟨0, pos, none, 0, by omega, rfl, rfl, rfl, Lib.hid rfl, Lib.hid (Own.none _ _), Lib.hid (Lo.refl _)⟩
  case round =>
    obtain ⟨k, x, p, c, hk, rfl, rfl, rfl, HX, HO, HL⟩ := hrel
    by_cases hlt : k < 56
    · have hp := Ko.place_end hlt
      have hxl : x + 2 ≤ s.length := by rw [HX.out]; omega
      have HSk := Lib.hid (fun W => HS.out k W)
      have HWk := Lib.hid (fun W => HW.out k W)
      have hw4 : Ko.wide k ≤ 4 := by unfold Ko.wide; split <;> omega
      have hex : (⟨s.toArray⟩ : ByteArray).extract x (x + 2) = ⟨((s.drop x).take 2).toArray⟩ := by rw [Gk.extract_list, Nat.add_sub_cancel_left]
      have HOne := Lib.hid (fun W => rone_any ((s.drop x).take 2) (Ko.size k) W (by simp; omega))
      have HF : Hid (Ko.rowTo (s.drop pos) (k + 1) = Ko.rowTo (s.drop pos) k ++ [Bn.one ((s.drop x).take 2) (Ko.size k)]) := Lib.hid (by rw [Ko.rowTo_step, List.drop_drop, HX.out])
      have HX1 : Hid (x + Ko.wide k = pos + Ko.place (k + 1)) := Lib.hid (by rw [Ko.place_step hlt, HX.out]; omega)
      have hpl := Ko.place_le (show k + 1 ≤ 56 by omega)
      have hxq : x + Ko.wide k ≤ s.length := by rw [HX1.out]; omega
      generalize Bn.one ((s.drop x).take 2) (Ko.size k) = yv at *
      generalize (s.drop x).take 2 = body at *
      generalize Ko.size k = z at *
      generalize Ko.wide k = q at *
      have HFL : Hid ((Ko.rowTo (s.drop pos) k).length = k) := Lib.hid (Ko.rowTo_len _ _)
      have hx0 : (0 : Int) ≤ (x : Int) := by omega
      have hx1 : (x : Int) ≤ (x : Int) + 2 := by omega
      have hx2 : (x : Int) + 2 ≤ (s.length : Int) := by omega
      have hx3 : IntKind.i64.wrap (↑x + 2) = ↑x + 2 := IntWalk.i64_in _ (by omega)
      have hx4 : (0 : Int) ≤ ↑x + 2 := by omega
      have hx5 : ((x : Int) + 2).toNat = x + 2 := by omega
      clear hp hpl
      go_wp2_with fail
      go_region_law (first
        | (show (if Region.wanted (Oper.mk _ (Op.call { callee := .builtin .append, args := _, argTypes := _ }) _ _ _ _) _ = true then _ else _)
           refine step_app rfl (.tmp 25) (.tmp 34) rfl w.heap.size (.slice p k c) _ rfl (HO.out.lo (((Lo.refl _).drew).alloc _)) _ yv rfl (by simp [go_sem]) (by rw [HFL.out]; omega) (by have := HL.out.size; simp; omega) ?_; intro q1 c1 w3 hown hlo; have HO3 := Lib.hid hown; have HL3 := Lib.hid (hlo w (((HL.out).drew).alloc _) rfl); clear hown hlo; rw [HFL.out] at HO3; rw [HFL.out])
        | (go_simp; go_at_call 24; refine (HSk.out _).mono ?_; rintro e w2 ⟨rfl, rfl⟩)
        | (go_simp; go_at_call 23; refine (HOne.out _).mono ?_; rintro e w2 ⟨rfl, rfl⟩))
      all_goals
        clear hex hx3 hx4 hx5 hx1 hx2 hx0
        go_wp2_with fail
        refine (HWk.out _).mono ?_
        rintro e w5 ⟨rfl, rfl⟩
        go_wp2_with fail
        go_roundw
        case rel => exact ⟨k + 1, x + q, q1, c1, by omega, by go_num, by go_num, rfl, HX1, Lib.hid (by rw [HF.out]; exact HO3.out), HL3⟩
        case measure => simp [intOf]; omega
    · obtain rfl : k = 56 := by omega
      rw [Ko.rowTo_all] at HO
      go_wp2_with fail
      go_ret2
      have h2 := Ko.row_len (s.drop pos)
      unfold GotRow
      dsimp only
      rw [h2]
      exact ⟨p, c, rfl, HO.out.row, HL.out⟩

set_option maxHeartbeats 400000 in
/-- Get. -/
theorem rkget_any (s : List UInt8) (pos : Int) (w : World) (hl : s.length ≤ 9223372036854775807) :
    Calls Try.prog 9 #[.string ⟨s.toArray⟩, .int .i64 pos] w (GotRow (Ko.get s pos) w) := by
  unfold Ko.get
  have hsz : (ByteArray.mk s.toArray).size = s.length := rfl
  by_cases c1 : pos < 0
  · rw [if_pos c1]
    go_enter Try.func9, Try.ntmps9
    go_wp2_with fail
    go_ret2
    exact GotRow.nil rfl (Lo.refl _)
  · rw [if_neg c1]
    by_cases c2 : (s.length : Int) < pos
    · rw [if_pos (.inl c2)]
      go_enter Try.func9, Try.ntmps9
      go_wp2_with fail
      go_ret2
      exact GotRow.nil rfl (Lo.refl _)
    · by_cases c3 : (s.length : Int) - pos < 214
      · rw [if_pos (.inr c3)]
        go_enter Try.func9, Try.ntmps9
        go_wp2_with fail
        go_ret2
        exact GotRow.nil rfl (Lo.refl _)
      · rw [if_neg (by rintro (h | h); exact c2 h; exact c3 h)]
        obtain ⟨n, rfl⟩ := Int.eq_ofNat_of_zero_le (show 0 ≤ pos by omega)
        rw [Int.toNat_natCast]
        exact rkget_yes s n w (by omega) hl
end Go.Proofs.Ytcbchnckeeklkaa
