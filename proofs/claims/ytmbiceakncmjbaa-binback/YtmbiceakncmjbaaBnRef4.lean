/-
  The contract of the document's answer Get of layer 3. No conditions beyond those stated.
-/
import Derived.Test.YtmbiceakncmjbaaBnRef3
namespace Go.Proofs.Ytmbiceakncmjbaa
open Go.RowKit

set_option maxHeartbeats 4000000 in
theorem rget_any (l : List UInt8) (pos : Int) (v : Value) (sizes : List Int) (w : World) (hr : Row w v sizes) (hn : sizes.length ≤ 100000) (hl : l.length ≤ 1000000) :
    Calls Try.prog 11 #[.string ⟨l.toArray⟩, .int .i64 pos, v] w fun e w' => GotRow (Bn.get l pos sizes) w e w' := by
  obtain ⟨p, c, rfl, hlen⟩ := hr.form
  have HR := Lib.hid hr
  generalize hy : Bn.get l pos sizes = y
  have HY1 : Hid (Bn.allSizes sizes = false ∨ pos < 0 → y = ([], 1)) := Lib.hid (by intro h; rw [← hy, Bn.get, if_pos h])
  have HY2 : Hid (Bn.allSizes sizes = true → 0 ≤ pos → ((l.length : Int) < pos ∨ (l.length : Int) - pos < (Bn.many sizes : Nat)) → y = ([], 4)) := Lib.hid (by intro h0 h1 h2; rw [← hy, Bn.get, if_neg (by rw [h0]; simp; omega), if_pos h2])
  have HY3 : Hid (Bn.allSizes sizes = true → 0 ≤ pos → ¬ ((l.length : Int) < pos ∨ (l.length : Int) - pos < (Bn.many sizes : Nat)) → y = (Bn.fields (l.drop pos.toNat) sizes, 0)) := Lib.hid (by intro h0 h1 h2; rw [← hy, Bn.get, if_neg (by rw [h0]; simp; omega), if_neg h2])
  generalize hnn : sizes.length = n at *
  have HN := Lib.hid hnn
  clear hr hnn hy
  go_enter Try.func11, Try.ntmps11
  go_wp2_with fail
  go_loop [8, 9] (fun s i => ∃ k m : Nat, k ≤ n ∧ m ≤ 4 * k ∧ i = .int .i64 k ∧ s = .int .i64 m ∧ Hid (m = Bn.many (sizes.take k)) ∧ Hid (Bn.allSizes (sizes.take k) = true)) (fun _ i => n - (intOf i).toNat)
  case atStart => exact ⟨0, 0, Nat.zero_le _, Nat.le_refl _, rfl, rfl, Lib.hid rfl, Lib.hid rfl⟩
  case round =>
    obtain ⟨k, m, hk, hm, rfl, rfl, HM, HS⟩ := hrel
    by_cases hlt : k < n
    · obtain ⟨b, off, rfl, hcell⟩ := HR.out.at_ hlt
      have HK : Hid (k < sizes.length) := Lib.hid (by rw [HN.out]; exact hlt)
      have HT := Lib.hid (Bn.take_snoc HK.out)
      have HNo := Lib.hid (Bn.allSizes_false HK.out)
      generalize sizes.getD k 0 = z at *
      have HSz := Lib.hid (fun W => rsize_any z W)
      by_cases hz : Bn.isSize z = true
      · rw [hz] at HSz
        have HZ := Lib.hid hz
        have HW := Lib.hid (fun W => rwide_any z W hz)
        have hz4 := (Bn.isSize_wide hz).2
        clear hz HNo
        generalize hq : z.natAbs = q at *
        have HQ := Lib.hid hq
        clear hq
        go_wp2_with fail
        refine (HSz.out _).mono ?_
        rintro e w1 ⟨rfl, rfl⟩
        go_wp2_with fail
        refine (HW.out _).mono ?_
        rintro e w1 ⟨rfl, rfl⟩
        go_wp2_with fail
        go_round
        case rel => exact ⟨k + 1, m + q, by omega, by omega, by go_num, by go_num, Lib.hid (by rw [HT.out, Bn.many_snoc, ← HM.out, HQ.out]), Lib.hid (by rw [HT.out, Bn.allSizes_snoc, HS.out, HZ.out]; rfl)⟩
        case measure => simp [intOf]; omega
      · have hzf : Bn.isSize z = false := by simpa using hz
        rw [hzf] at HSz
        have HYY := Lib.hid (HY1.out (.inl (HNo.out hzf)))
        clear hz hzf HNo HY1 HY2 HY3
        go_wp2_with fail
        refine (HSz.out _).mono ?_
        rintro e w1 ⟨rfl, rfl⟩
        go_wp2_with fail
        go_ret2
        rw [HYY.out]
        exact GotRow.nil rfl (Lo.refl _)
    · have h1 : sizes.take k = sizes := List.take_of_length_le (by rw [HN.out]; omega)
      rw [h1] at HM HS
      clear h1
      have hy2 := HY2.out HS.out
      have hy3 := HY3.out HS.out
      rw [← HM.out] at hy2 hy3
      by_cases c0 : pos < 0
      · have HYY := Lib.hid (HY1.out (.inr c0))
        clear HY1 HY2 HY3 hy2 hy3
        go_wp2_with fail
        go_ret2
        rw [HYY.out]
        exact GotRow.nil rfl (Lo.refl _)
      · by_cases c1 : (l.length : Int) < pos
        · have HYY := Lib.hid (hy2 (by omega) (.inl c1))
          clear HY1 HY2 HY3 hy2 hy3
          go_wp2_with fail
          go_ret2
          rw [HYY.out]
          exact GotRow.nil rfl (Lo.refl _)
        · by_cases c2 : (l.length : Int) - pos < (m : Nat)
          · have HYY := Lib.hid (hy2 (by omega) (.inr c2))
            clear HY1 HY2 HY3 hy2 hy3
            go_wp2_with fail
            go_ret2
            rw [HYY.out]
            exact GotRow.nil rfl (Lo.refl _)
          · have HYY := Lib.hid (hy3 (by omega) (by omega))
            clear HY1 HY2 HY3 hy2 hy3
            obtain ⟨at0, rfl⟩ := Int.eq_ofNat_of_zero_le (show 0 ≤ pos by omega)
            rw [Int.toNat_natCast] at HYY
            have hfit : at0 + m ≤ l.length := by omega
            go_wp2_with fail
            go_loopw [1, 10, 11] (fun a u i W => ∃ (t x : Nat) (pu : Option Addr) (cu : Nat), t ≤ n ∧ x ≤ at0 + m ∧ i = .int .i64 t ∧ a = .int .i64 x ∧ u = .slice pu t cu ∧ Hid (x = at0 + Bn.many (sizes.take t)) ∧ Hid (Own W w.heap.size (.slice pu t cu) (Bn.fields (l.drop at0) (sizes.take t))) ∧ Hid (Lo w W)) (fun _ _ i _ => n - (intOf i).toNat)
            case atStart => exact ⟨0, at0, none, 0, Nat.zero_le _, by omega, rfl, rfl, rfl, Lib.hid (by simp [Bn.many]), Lib.hid (Own.none _ _), Lib.hid (Lo.refl _)⟩
            case round =>
              obtain ⟨t, x, pu, cu, ht, hx, rfl, rfl, rfl, HX, HO, HL⟩ := hrel
              by_cases htl : t < n
              · obtain ⟨b, off, rfl, hcell⟩ := (HR.out.lo HL.out).at_ htl
                have HK : Hid (t < sizes.length) := Lib.hid (by rw [HN.out]; exact htl)
                have HT := Lib.hid (Bn.take_snoc HK.out)
                have HZ := Lib.hid (Bn.allSizes_at HS.out HK.out)
                have hmd := Bn.many_drop_le sizes t HK.out
                rw [← HM.out] at hmd
                generalize sizes.getD t 0 = z at *
                have HW := Lib.hid (fun W => rwide_any z W HZ.out)
                have hz4 := (Bn.isSize_wide HZ.out).2
                generalize hq : z.natAbs = q at *
                have HQ := Lib.hid hq
                clear hq
                have hxq : x + q ≤ at0 + m := by rw [HX.out]; omega
                have hex : (⟨l.toArray⟩ : ByteArray).extract x (x + q) = ⟨((l.drop x).take q).toArray⟩ := by rw [Gk.extract_list, Nat.add_sub_cancel_left]
                have HOne := Lib.hid (fun W => rone_any ((l.drop x).take q) z W (by simp; omega))
                have HF : Hid (Bn.fields (l.drop at0) (sizes.take (t + 1)) = Bn.fields (l.drop at0) (sizes.take t) ++ [Bn.one ((l.drop x).take q) z]) := Lib.hid (by rw [HT.out, Bn.fields_snoc, List.drop_drop, HQ.out, HX.out])
                have HX1 : Hid (x + q = at0 + Bn.many (sizes.take (t + 1))) := Lib.hid (by rw [HT.out, Bn.many_snoc, HQ.out, HX.out]; omega)
                generalize Bn.one ((l.drop x).take q) z = yv at *
                generalize (l.drop x).take q = body at *
                have HFL : Hid ((Bn.fields (l.drop at0) (sizes.take t)).length = t) := Lib.hid (by rw [Bn.fields_len, List.length_take]; have := HK.out; omega)
                clear hmd
                have ht0 : (0 : Int) ≤ (t : Int) := by omega
                have htn : (t : Int) < (n : Int) := by omega
                have hx0 : (0 : Int) ≤ (x : Int) := by omega
                have hx1 : (x : Int) ≤ (x : Int) + (q : Int) := by omega
                have hx2 : (x : Int) + (q : Int) ≤ (l.length : Int) := by omega
                have hx3 : IntKind.i64.wrap (↑x + ↑q) = ↑x + ↑q := IntWalk.i64_in _ (by omega)
                have hx4 : (0 : Int) ≤ ↑x + ↑q := by omega
                have hx5 : ((x : Int) + ↑q).toNat = x + q := by omega
                go_wp2_with fail
                refine (HW.out _).mono ?_
                rintro e w1 ⟨rfl, rfl⟩
                go_wp2_with fail
                go_region_law (first
                  | (refine step_app rfl (.tmp 57) (.tmp 69) rfl w.heap.size (.slice pu t cu) _ rfl (HO.out.lo (((Lo.refl _).drew).alloc _)) _ yv rfl (by simp [go_sem]) (by rw [HFL.out]; omega) (by have := HL.out.size; simp; omega) ?_; intro q1 c1 w3 hown hlo; have HO3 := Lib.hid hown; have HL3 := Lib.hid (hlo w (((HL.out).drew).alloc _) rfl); clear hown hlo; rw [HFL.out] at HO3; rw [HFL.out])
                  | (go_simp; go_at_call 31; refine (HOne.out _).mono ?_; rintro e w2 ⟨rfl, rfl⟩))
                clear hcell hex hx3 hx4 hx5 hx1 hx2 hx0
                go_wp2_with fail
                go_roundw
                case rel => exact ⟨t + 1, x + q, q1, c1, by omega, hxq, by go_num, by go_num, rfl, HX1, Lib.hid (by rw [HF.out]; exact HO3.out), HL3⟩
                case measure => simp [intOf]; omega
              · go_wp2_with fail
                go_ret2
                have h1 : sizes.take t = sizes := List.take_of_length_le (by rw [HN.out]; omega)
                have h2 : t = (Bn.fields (l.drop at0) sizes).length := by rw [Bn.fields_len, HN.out]; omega
                have ho := HO.out
                rw [h1] at ho
                rw [HYY.out]
                subst h2
                exact ⟨pu, cu, rfl, ho.row, HL.out⟩
end Go.Proofs.Ytmbiceakncmjbaa
