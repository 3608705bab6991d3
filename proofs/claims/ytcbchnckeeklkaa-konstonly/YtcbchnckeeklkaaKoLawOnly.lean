/-
  The walk of the law KonstOnly. No conditions beyond those stated.
-/
import Derived.Test.YtcbchnckeeklkaaKoTold
import Derived.Deep.RegionHeld3
import Derived.SizedLaws
namespace Go.Proofs.Ytcbchnckeeklkaa
open Go.RowKit

set_option maxHeartbeats 400000 in
theorem konstOnly_far (s : List UInt8) (pos : Int) (w : World) (h : 600 < s.length) : Calls Try.prog 5 #[.string ⟨s.toArray⟩, .int .i64 pos] w fun e w' => e = .returned (.bool true) ∧ Lo w w' := by
  have hsz : (ByteArray.mk s.toArray).size = s.length := rfl
  generalize s.length = n at *
  go_enter Try.func5, Try.ntmps5
  go_wp2_with fail
  go_ret
  exact ⟨rfl, Lo.refl _⟩

set_option maxHeartbeats 800000 in
theorem konstOnly_no (s : List UInt8) (pos : Int) (w : World) (h : s.length ≤ 600) (h1 : pos ≤ 9223372036854775807) (h0 : (Ko.get s pos).2 ≠ 0) : Calls Try.prog 5 #[.string ⟨s.toArray⟩, .int .i64 pos] w fun e w' => e = .returned (.bool true) ∧ Lo w w' := by
  have HG := Lib.hid (fun W => kget_any s pos W (by omega) h1)
  rcases Ko.get_cases s pos with ⟨hh, _⟩ | ⟨_, e⟩
  · exact absurd hh h0
  rw [e] at HG
  unfold GotRow at HG
  dsimp only at HG
  rw [show ([] : List Int).length = 0 from rfl] at HG
  have hkb : ((Ko.get s pos).2 == 0) = false := by simpa using h0
  have HT := Lib.hid (fun W => ktold_any W)
  have hsz : (ByteArray.mk s.toArray).size = s.length := rfl
  generalize (Ko.get s pos).2 = k at *
  generalize s.length = n at *
  clear e h0 h1
  go_enter Try.func5, Try.ntmps5
  go_wp2_with fail
  refine (HG.out _).mono ?_
  rintro e w1 ⟨p, c, rfl, _, lo⟩
  have HL := Lib.hid lo
  clear lo HG
  go_wp2_with fail
  refine (HT.out _).mono ?_
  rintro e w2 ⟨rfl, lo⟩
  have HL2 := Lib.hid (HL.out.trans lo)
  clear lo HT
  go_wp2_with fail
  go_ret
  exact ⟨rfl, HL2.out⟩

abbrev LastS (b1 o1 b2 o2 : Nat) (x : Int) (w0 W : World) : Prop := W.cell? ⟨b1, o1, none⟩ = some (.int .i64 x) ∧ W.cell? ⟨b2, o2, none⟩ = some (.int .i64 x) ∧ Hid (Lo w0 W)

set_option maxRecDepth 100000 in
set_option maxHeartbeats 3200000 in
theorem konstOnly_yes (s : List UInt8) (pos : Int) (w : World) (h : s.length ≤ 600) (h1 : pos ≤ 9223372036854775807) (h0 : (Ko.get s pos).2 = 0) : Calls Try.prog 5 #[.string ⟨s.toArray⟩, .int .i64 pos] w fun e w' => e = .returned (.bool true) ∧ Lo w w' := by
  have HG := Lib.hid (fun W => kget_any s pos W (by omega) h1)
  obtain ⟨hk, hp, hg⟩ := Ko.get_again h0
  obtain ⟨hb1, hb2⟩ := Ko.get_bin h0
  obtain ⟨q0, q1, _⟩ := Ko.get_ok h0
  have hlen := Ko.isK_len hk
  have e1 : Ko.get s pos = ((Ko.get s pos).1, 0) := Prod.ext rfl h0
  rw [e1] at HG
  have e2 : Ko.put (Ko.get s pos).1 = ((Ko.put (Ko.get s pos).1).1, 0) := Prod.ext rfl hp
  have e3 := (Ko.get_put hp [] []).2.1
  have HP := Lib.hid (fun v W (k : Row W v (Ko.get s pos).1) => kput_any v _ W k)
  rw [e2] at HP
  have HG2 := Lib.hid (fun W => kget_any (Ko.put (Ko.get s pos).1).1 0 W (by omega) (by omega))
  rw [hg] at HG2
  have HB1 := Lib.hid (fun W v (k : Row W v [-2, -2, 2, 2, -2]) => get_any s pos v [-2, -2, 2, 2, -2] W k (by decide) (by omega) h1)
  rw [hb1] at HB1
  have HB2 := Lib.hid (fun W v (k : Row W v [-2]) => get_any s (pos + 212) v [-2] W k (by decide) (by omega) (by omega))
  rw [hb2] at HB2
  have HI := Lib.hid (fun v W (k : Row W v (Ko.get s pos).1) => kis_any v _ W k)
  rw [hk] at HI
  have HT := Lib.hid (fun W => ktold_any W)
  have HN := Lib.hid (fun (v u : Value) (l : List Int) (W : World) (k : Row W v l) (k2 : Row W u l) => (show Calls Try.prog 17 #[v, u] W fun e w' => e = .returned (.bool true) ∧ Lo W w' from by have h := rints_any v u l l W k k2; rw [decide_eq_true rfl] at h; exact h))
  have hsz : (ByteArray.mk s.toArray).size = s.length := rfl
  generalize (Ko.put (Ko.get s pos).1).1 = t at *
  generalize (Ko.get s pos).1 = l at *
  unfold GotRow at HG HG2 HB1 HB2
  unfold strErr at HP
  dsimp only at HG HG2 HB1 HB2 HP
  have h5 : (l.take 5).length = 5 := by rw [List.length_take, hlen]; rfl
  rw [hlen] at HG HG2
  rw [h5] at HB1
  rw [show ([l.getD 55 0] : List Int).length = 1 from rfl] at HB2
  have HLen := Lib.hid hlen
  have j1 : pos + 212 ≤ 1000 := by omega
  have j2 : (s.length : Int) ≤ 600 := by omega
  generalize s.length = n at *
  clear hk hp hg hb1 hb2 h0 e1 e2 e3 h5 hlen q1
  go_enter Try.func5, Try.ntmps5
  go_wp2_with fail
  refine (HG.out _).mono ?_
  rintro e w1 ⟨p, c, rfl, hrow, lo⟩
  have HL := Lib.hid lo
  have HR := Lib.hid hrow
  clear lo HG hrow
  go_wp2_with fail
  refine (HP.out _ _ HR.out).mono ?_
  rintro e w2 ⟨rfl, lo⟩
  have HL2 := Lib.hid (HL.out.trans lo)
  have HR2 := Lib.hid (HR.out.lo lo)
  clear lo HP HL HR
  go_wp2_with fail
  refine (HG2.out _).mono ?_
  rintro e w3 ⟨p3, c3, rfl, hrow, lo⟩
  have HL3 := Lib.hid (HL2.out.trans lo)
  have HR3 := Lib.hid (HR2.out.lo lo)
  have HM3 := Lib.hid hrow
  clear lo HG2 HL2 HR2 hrow
  go_wp2_with fail
  refine (HB1.out _ _ (row_five w3 w3.heap.size rfl (-2) (-2) 2 2 (-2))).mono ?_
  rintro e w4 ⟨p4, c4, rfl, hrow, lo⟩
  have lo2 := ((Lo.refl w3).alloc _).trans lo
  have HL4 := Lib.hid (HL3.out.trans lo2)
  have HR4 := Lib.hid (HR3.out.lo lo2)
  have HM4 := Lib.hid (HM3.out.lo lo2)
  have HA4 := Lib.hid hrow
  clear lo lo2 HB1 HL3 HR3 HM3 hrow
  go_wp2_with fail
  refine (HB2.out _ _ (row1 w4 w4.heap.size rfl (-2))).mono ?_
  rintro e w5 ⟨p5, c5, rfl, hrow, lo⟩
  have lo2 := ((Lo.refl w4).alloc _).trans lo
  have HL5 := Lib.hid (HL4.out.trans lo2)
  have HR5 := Lib.hid (HR4.out.lo lo2)
  have HM5 := Lib.hid (HM4.out.lo lo2)
  have HA5 := Lib.hid (HA4.out.lo lo2)
  have HB5 := Lib.hid hrow
  clear lo lo2 HB2 HL4 HR4 HM4 HA4 hrow
  obtain ⟨p6, c6, hsl, hrow6⟩ := row_upto HR5.out 5 5 rfl (by rw [HLen.out]; omega) (by rw [HLen.out]; omega)
  have HT6 := Lib.hid hrow6
  obtain ⟨b1, o1, rfl, cA⟩ := HR5.out.at_ (k := 55) (by omega)
  obtain ⟨b2, o2, rfl, cB⟩ := HB5.out.at_ (k := 0) (by omega)
  rw [Nat.add_zero, show ([l.getD 55 0] : List Int).getD 0 0 = l.getD 55 0 from rfl] at cB
  have z1 := World.block_lt_of_cell? w5 _ cA
  have z2 := World.block_lt_of_cell? w5 _ cB
  generalize l.getD 55 0 = x at *
  have HS : Hid (∀ W, Lo w5 W → LastS b1 (o1 + 55) b2 o2 x w5 W) := Lib.hid (fun W lo => ⟨(lo.cell z1).trans cA, (lo.cell z2).trans cB, Lib.hid lo⟩)
  have C1 : Hid (∀ W, LastS b1 (o1 + 55) b2 o2 x w5 W → Calls Try.prog 16 #[] W fun e w' => e = .returned (.bool true) ∧ LastS b1 (o1 + 55) b2 o2 x w5 w') :=
    Lib.hid (fun W hW => (HT.out W).mono fun e w' hh => ⟨hh.1, HS.out w' (hW.2.2.out.trans hh.2)⟩)
  have C2 : Hid (∀ W, LastS b1 (o1 + 55) b2 o2 x w5 W → Calls Try.prog 18 #[.slice (some ⟨b1, o1, none⟩) 56 c] W fun e w' => e = .returned (.bool true) ∧ LastS b1 (o1 + 55) b2 o2 x w5 w') :=
    Lib.hid (fun W hW => (HI.out _ W (HR5.out.lo hW.2.2.out)).mono fun e w' hh => ⟨hh.1, HS.out w' (hW.2.2.out.trans hh.2)⟩)
  have C3 : Hid (∀ W u1 u2, LastS b1 (o1 + 55) b2 o2 x w5 W → ((u1 = .slice (some ⟨b1, o1, none⟩) 56 c ∧ u2 = .slice p3 56 c3) ∨ (u1 = .slice p6 5 c6 ∧ u2 = .slice p4 5 c4)) → Calls Try.prog 17 #[u1, u2] W fun e w' => e = .returned (.bool true) ∧ LastS b1 (o1 + 55) b2 o2 x w5 w') :=
    Lib.hid (fun W u1 u2 hW hu => by
      rcases hu with ⟨rfl, rfl⟩ | ⟨rfl, rfl⟩
      · have h := HN.out _ _ l W (HR5.out.lo hW.2.2.out) (HM5.out.lo hW.2.2.out)
        exact h.mono fun e w' hh => ⟨hh.1, HS.out w' (hW.2.2.out.trans hh.2)⟩
      · have h := HN.out _ _ (l.take 5) W (HT6.out.lo hW.2.2.out) (HA5.out.lo hW.2.2.out)
        exact h.mono fun e w' hh => ⟨hh.1, HS.out w' (hW.2.2.out.trans hh.2)⟩)
  clear HT HI HN HR5 HM5 HA5 HB5 HT6 hrow6 cA cB z1 z2
  go_wp2_with fail
  go_region_held3 (fun W => LastS b1 (o1 + 55) b2 o2 x w5 W) (first | assumption | exact HS.out _ (Lo.drew (Lo.refl _)))
    (first
      | (go_at_call 16; refine (C1.out _ (by assumption)).mono ?_; rintro e wA ⟨rfl, hSA⟩)
      | (go_at_call 18; refine (C2.out _ (by assumption)).mono ?_; rintro e wB ⟨rfl, hSB⟩)
      | (go_at_call 17; refine (C3.out _ _ _ (by assumption) (by first | exact .inl ⟨rfl, rfl⟩ | exact .inr ⟨rfl, rfl⟩)).mono ?_; rintro e wC ⟨rfl, hSC⟩))
  all_goals
    have HL9 : Hid (Lo w _) := Lib.hid (HL5.out.trans hSC.2.2.out)
    go_wp2_with fail
    go_ret
    refine ⟨?_, HL9.out⟩
    first | rfl | (apply ret_bool; simp)

theorem konstOnly_walk (a : ByteArray) (pos : Int) (w : World) (_w0 : a.size ≤ maxLen) (w1 : (Lit.int .i64 pos).wf = true) :
    Calls Try.prog 5 #[.string a, .int .i64 pos] w fun e w' => e = .returned (.bool true) ∧ Below w.heap.size w w' := by
  have h1 : pos ≤ 9223372036854775807 := by
    have h1 : (decide (IntKind.i64.min ≤ pos) && decide (pos ≤ IntKind.i64.max)) = true := w1
    rw [show IntKind.i64.min = -9223372036854775808 by decide, show IntKind.i64.max = 9223372036854775807 by decide] at h1
    simp only [Bool.and_eq_true, decide_eq_true_eq] at h1
    exact h1.2
  by_cases hc : 600 < a.data.toList.length
  · exact konstOnly_far a.data.toList pos w hc
  · by_cases h0 : (Ko.get a.data.toList pos).2 = 0
    · exact konstOnly_yes a.data.toList pos w (by omega) h1 h0
    · exact konstOnly_no a.data.toList pos w (by omega) h1 h0
end Go.Proofs.Ytcbchnckeeklkaa
