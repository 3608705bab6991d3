/-
  The contract of the document's answer Put of layer 3. No conditions beyond those stated.
-/
import Derived.Test.YtmbiceakncmjbaaBnRef4
import Derived.Deep.RegionWith
namespace Go.Proofs.Ytmbiceakncmjbaa
open Go.RowKit

set_option maxHeartbeats 4000000 in
theorem rput_any (l m : List Int) (v u : Value) (w : World) (hr : Row w v l) (hr2 : Row w u m) (hn : l.length ≤ 100000) :
    Calls Try.prog 13 #[v, u] w fun e w' => e = strErr (Bn.put l m) ∧ Lo w w' := by
  obtain ⟨p, c, rfl, hlen⟩ := hr.form
  obtain ⟨p2, c2, rfl, hlen2⟩ := hr2.form
  have HR := Lib.hid hr
  have HR2 := Lib.hid hr2
  generalize hy : Bn.put l m = y
  have HY1 : Hid (Bn.allSizes l = false ∨ l.length ≠ m.length → y = ([], 1)) := Lib.hid (by intro h; rw [← hy, Bn.put, if_pos h])
  have HY2 : Hid (Bn.allSizes l = true → l.length = m.length → Bn.allFit l m = false → y = ([], 2)) := Lib.hid (by intro h0 h1 h2; rw [← hy, Bn.put, if_neg (by rw [h0]; simpa using h1), if_pos h2])
  have HY3 : Hid (Bn.allSizes l = true → l.length = m.length → Bn.allFit l m = true → y = (Bn.join l m, 0)) := Lib.hid (by intro h0 h1 h2; rw [← hy, Bn.put, if_neg (by rw [h0]; simpa using h1), if_neg (by rw [h2]; simp)])
  generalize hnn : l.length = n at *
  have HN := Lib.hid hnn
  clear hr hr2 hnn hy
  go_enter Try.func13, Try.ntmps13
  go_wp2_with fail
  go_loop [6] (fun i => ∃ k : Nat, k ≤ n ∧ i = .int .i64 k ∧ Hid (Bn.allSizes (l.take k) = true)) (fun i => n - (intOf i).toNat)
  case atStart => exact ⟨0, Nat.zero_le _, rfl, Lib.hid rfl⟩
  case round =>
    obtain ⟨k, hk, rfl, HS⟩ := hrel
    by_cases hlt : k < n
    · obtain ⟨b, off, rfl, hcell⟩ := HR.out.at_ hlt
      have HK : Hid (k < l.length) := Lib.hid (by rw [HN.out]; exact hlt)
      have HT := Lib.hid (Bn.take_snoc HK.out)
      have HNo := Lib.hid (Bn.allSizes_false HK.out)
      generalize l.getD k 0 = z at *
      have HSz := Lib.hid (fun W => rsize_any z W)
      by_cases hz : Bn.isSize z = true
      · rw [hz] at HSz
        have HZ := Lib.hid hz
        clear hz HNo
        go_wp2_with fail
        refine (HSz.out _).mono ?_
        rintro e w1 ⟨rfl, rfl⟩
        go_wp2_with fail
        go_round
        case rel => exact ⟨k + 1, by omega, by go_num, Lib.hid (by rw [HT.out, Bn.allSizes_snoc, HS.out, HZ.out]; rfl)⟩
        case measure => simp [intOf]; omega
      · have hzf : Bn.isSize z = false := by simpa using hz
        rw [hzf] at HSz
        have HYY := Lib.hid (HY1.out (.inl (HNo.out hzf)))
        clear hz hzf HNo HY1 HY2 HY3
        go_wp2_with fail
        refine (HSz.out _).mono ?_
        rintro e w1 ⟨rfl, rfl⟩
        go_wp2_with fail
        go_ret2
        exact ⟨by rw [HYY.out]; rfl, Lo.refl _⟩
    · have h1 : l.take k = l := List.take_of_length_le (by rw [HN.out]; omega)
      rw [h1] at HS
      clear h1
      by_cases hne : n = m.length
      · have HM := Lib.hid hne
        have HYF := Lib.hid (HY2.out HS.out hne)
        have HYT := Lib.hid (HY3.out HS.out hne)
        rw [← hne]
        rw [← hne] at HR2
        clear HY1 HY2 HY3 hne hlen2
        go_wp2_with fail
        go_loopw [7, 8] (fun o i W => ∃ (t : Nat) (s : List UInt8), t ≤ n ∧ i = .int .i64 t ∧ o = .string ⟨s.toArray⟩ ∧ Hid (s = Bn.join (l.take t) (m.take t)) ∧ Hid (Bn.allFit (l.take t) (m.take t) = true) ∧ Hid (Lo w W)) (fun _ i _ => n - (intOf i).toNat)
        case atStart => exact ⟨0, [], Nat.zero_le _, rfl, rfl, Lib.hid rfl, Lib.hid rfl, Lib.hid (Lo.refl _)⟩
        case round =>
          obtain ⟨t, s, ht, rfl, rfl, HJ, HF, HL⟩ := hrel
          by_cases htl : t < n
          · obtain ⟨b, off, rfl, hcell⟩ := (HR.out.lo HL.out).at_ htl
            obtain ⟨b', off', rfl, hcell2⟩ := (HR2.out.lo HL.out).at_ htl
            have HK : Hid (t < l.length) := Lib.hid (by rw [HN.out]; exact htl)
            have HK2 : Hid (t < m.length) := Lib.hid (by rw [← HM.out]; exact htl)
            have HT := Lib.hid (Bn.take_snoc HK.out)
            have HT2 := Lib.hid (Bn.take_snoc HK2.out)
            have HZ := Lib.hid (Bn.allSizes_at HS.out HK.out)
            have HNo := Lib.hid (Bn.allFit_false l m t HK.out HK2.out)
            have hsl : s.length ≤ 400000 := by
              have hall : Bn.allSizes (l.take t) = true := by
                have := HS.out
                unfold Bn.allSizes at *
                rw [List.all_eq_true] at *
                exact fun y hy => this y (List.mem_of_mem_take hy)
              have h1 := Bn.join_len_le (l.take t) (m.take t) hall
              have h2 : (l.take t).length ≤ t := by simp; omega
              rw [HJ.out]; omega
            have HTL : Hid ((l.take t).length = (m.take t).length) := Lib.hid (by simp; have := HK.out; have := HK2.out; omega)
            generalize l.getD t 0 = z at *
            generalize m.getD t 0 = x at *
            have HFA := Lib.hid (fun W => rfits_any x z W HZ.out)
            have ht0 : (0 : Int) ≤ (t : Int) := by omega
            have htn : (t : Int) < (n : Int) := by omega
            by_cases hfit : Bn.fits x z = true
            · rw [hfit] at HFA
              have HW := Lib.hid (fun W => rwide_any z W HZ.out)
              have HBy := Lib.hid (fun W => rbytes_any x z W HZ.out hfit)
              have HJ1 : Hid (s ++ Bn.bytes x z.natAbs = Bn.join (l.take (t + 1)) (m.take (t + 1))) := Lib.hid (by rw [HT.out, HT2.out, Bn.join_snoc _ _ _ _ HTL.out, HJ.out])
              have HF1 : Hid (Bn.allFit (l.take (t + 1)) (m.take (t + 1)) = true) := Lib.hid (by rw [HT.out, HT2.out, Bn.allFit_snoc _ _ _ _ HTL.out, HF.out, hfit]; rfl)
              have hbl : (Bn.bytes x z.natAbs).length ≤ 4 := by rw [Bn.bytes_len]; exact (Bn.isSize_wide HZ.out).2
              generalize Bn.bytes x z.natAbs = body at *
              generalize z.natAbs = q at *
              clear hfit HNo
              go_wp2_with fail
              go_quiet (first | (go_at_call 35; exact quiet' (HFA.out _)))
              generalize hw2 : wr.drewN nq = w2
              have HL2 : Hid (Lo w w2) := Lib.hid (by rw [← hw2]; exact HL.out.drewN nq)
              have hcell3 : w2.cell? ⟨b, off + t, none⟩ = some (.int .i64 z) := by rw [← hw2]; exact hcell
              have hcell4 : w2.cell? ⟨b', off' + t, none⟩ = some (.int .i64 x) := by rw [← hw2]; exact hcell2
              clear hw2 hcell hcell2
              go_wp2_with fail
              go_region_with (first
                | (go_at_call 22; refine (HW.out _).mono ?_; rintro e w3 ⟨rfl, rfl⟩)
                | (go_at_call 36; refine (HBy.out _).mono ?_; rintro e w3 ⟨rfl, hlo⟩; have HL3 := Lib.hid ((HL2.out.drew).trans hlo); clear hlo))
              all_goals
                go_wp2_with fail
                go_roundw
                case rel => exact ⟨t + 1, s ++ body, by omega, by go_num, congrArg Value.string (Gk.cat_list s body), HJ1, HF1, HL3⟩
                case measure => simp [intOf]; omega
            · have hff : Bn.fits x z = false := by simpa using hfit
              rw [hff] at HFA
              have HYY := Lib.hid (HYF.out (HNo.out hff))
              clear hfit hff HNo HYF HYT
              go_wp2_with fail
              go_quiet (first | (go_at_call 35; exact quiet' (HFA.out _)))
              have HL2 := Lib.hid (HL.out.drewN nq)
              go_wp2_with fail
              go_ret2
              exact ⟨by rw [HYY.out]; rfl, HL2.out⟩
          · have h1 : l.take t = l := List.take_of_length_le (by rw [HN.out]; omega)
            have h2 : m.take t = m := List.take_of_length_le (by rw [← HM.out]; omega)
            have hj := HJ.out
            have hf := HF.out
            rw [h1, h2] at hj hf
            have HYY := Lib.hid (HYT.out hf)
            have HJ2 := Lib.hid hj
            clear h1 h2 hj hf HYT HYF
            go_wp2_with fail
            go_ret2
            exact ⟨by rw [HYY.out]; exact congrArg (fun l : List UInt8 => Ending.returned (.tuple #[.string ⟨l.toArray⟩, .int .i64 0])) HJ2.out, HL.out⟩
      · have hb : ((n : Int) == (m.length : Int)) = false := by simp; omega
        have HYY := Lib.hid (HY1.out (.inr hne))
        clear HY1 HY2 HY3 hne
        go_wp2_with fail
        go_ret2
        exact ⟨by rw [HYY.out]; rfl, Lo.refl _⟩
end Go.Proofs.Ytmbiceakncmjbaa
