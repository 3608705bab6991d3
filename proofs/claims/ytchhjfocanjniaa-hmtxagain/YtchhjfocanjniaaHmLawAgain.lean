/-
  The walk of the law HmtxAgain: it returns true for all texts and numbers. No conditions.
-/
import Derived.Test.YtchhjfocanjniaaHmWide
namespace Go.Proofs.Ytchhjfocanjniaa
open Go.RowKit

set_option maxRecDepth 100000 in
set_option maxHeartbeats 800000 in
theorem hmtxAgain_long (a : ByteArray) (g m : Int) (w : World) (h : ¬ a.size ≤ 3000) :
    Calls Try.prog 5 #[.string a, .int .i64 g, .int .i64 m] w fun e w' => e = .returned (.bool true) ∧ Lo w w' := by
  go_enter Try.func5, Try.ntmps5
  go_wp2_with fail
  go_ret
  exact ⟨rfl, Lo.refl _⟩

set_option maxRecDepth 100000 in
set_option maxHeartbeats 800000 in
theorem hmtxAgain_none (s : List UInt8) (g m : Int) (w : World) (h : s.length ≤ 3000) (hn : (Hm.get s g m).2 ≠ 0) :
    Calls Try.prog 5 #[.string ⟨s.toArray⟩, .int .i64 g, .int .i64 m] w fun e w' => e = .returned (.bool true) ∧ Lo w w' := by
  have HG := Lib.hid (fun W => hget_any s g m W (by omega))
  unfold GotMet at HG
  rw [Hm.get_none hn] at HG
  generalize (Hm.get s g m).2 = er at *
  have hb : (er != 0) = true := by simpa using hn
  clear hn
  simp only [List.length_nil] at HG
  go_enter Try.func5, Try.ntmps5
  go_wp2_with fail
  refine (HG.out _).mono ?_
  rintro e w1 ⟨p, c, rfl, _, lo⟩
  have HL := Lib.hid lo
  clear lo HG
  go_wp2_with fail
  refine (wide_any _).mono ?_
  rintro e w2 ⟨rfl, lo⟩
  have HL2 := Lib.hid (HL.out.trans lo)
  clear lo HL
  go_wp2_with fail
  go_ret
  exact ⟨rfl, HL2.out⟩

theorem widthOf_some (l : List Hm.Metric) (i : Nat) (h : i < l.length) : widthOf l (i : Int) = ((Hm.at0 l i).1, 0) := by
  unfold widthOf
  rw [if_neg (by omega), Int.toNat_natCast]

set_option maxRecDepth 100000 in
set_option maxHeartbeats 2000000 in
theorem hmtxAgain_some (s : List UInt8) (g m : Nat) (w : World) (h : s.length ≤ 3000) (hn : (Hm.get s g m).2 = 0) :
    Calls Try.prog 5 #[.string ⟨s.toArray⟩, .int .i64 g, .int .i64 m] w fun e w' => e = .returned (.bool true) ∧ Lo w w' := by
  have HG := Lib.hid (fun W => hget_any s g m W (by omega))
  unfold GotMet at HG
  obtain ⟨⟨g1, g2⟩, ⟨m1, m2⟩, hs, _⟩ := Hm.get_ok hn
  obtain ⟨a1, a2, a3, a4, a5, a6⟩ := Hm.get_again hn
  rw [hn] at HG
  generalize (Hm.get s g m).1 = l at *
  rw [a1] at HG
  have hg : g ≤ 1500 := by omega
  have HP := Lib.hid (fun (u : Value) (W : World) (hr : MRow W u l) => hput_any u l W hr (by omega))
  have HG2 := Lib.hid (fun W => hget_any (Hm.put l).1 g (Hm.put l).2.1 W (by omega))
  unfold GotMet at HG2
  unfold strNumErr at HP
  rw [a5] at HG2
  rw [a2] at HP
  dsimp only at HG2
  rw [a1] at HG2
  have HSm := Lib.hid (fun (v u : Value) (W : World) (h : MRow W v l) (h2 : MRow W u l) => msame_any l v u W h h2)
  have HW := Lib.hid (fun (v : Value) (i : Nat) (W : World) (hi : i < g) (h : MRow W v l) => width_any' v l i W h)
  have HWv : Hid (∀ i, i < g → widthOf l (i : Int) = ((Hm.at0 l i).1, 0)) := Lib.hid (fun i hi => widthOf_some l i (by omega))
  have HA6 := Lib.hid a6
  generalize (Hm.put l).1 = t at *
  generalize (Hm.put l).2.1 = n at *
  have b1 : decide (m < n) = false := by simp; omega
  have b2 : decide (s.length < t.length) = false := by simp; omega
  have hm1 : 1 ≤ m := by omega
  have hm2 : m ≤ g := by omega
  clear hn a1 a2 a5 a6 hs g1 g2 m1 m2
  go_enter Try.func5, Try.ntmps5
  go_wp2_with fail
  refine (HG.out _).mono ?_
  rintro e w1 ⟨p, c, rfl, hrow, lo⟩
  have HL1 := Lib.hid lo
  have HR1 := Lib.hid hrow
  clear lo hrow HG
  go_wp2_with fail
  refine (HP.out _ _ HR1.out).mono ?_
  rintro e w2 ⟨rfl, lo⟩
  have HL2 := Lib.hid (HL1.out.trans lo)
  have HR2 := Lib.hid (RowK.lo HR1.out lo)
  clear lo HP HL1 HR1
  go_wp2_with fail
  refine (HG2.out _).mono ?_
  rintro e w3 ⟨p3, c3, rfl, hrow, lo⟩
  have HL3 := Lib.hid (HL2.out.trans lo)
  have HR3 := Lib.hid (RowK.lo HR2.out lo)
  have HM3 := Lib.hid hrow
  clear lo HG2 HL2 HR2 hrow
  go_wp2_with fail
  refine (HSm.out _ _ _ HR3.out HM3.out).mono ?_
  rintro e w4 ⟨rfl, lo⟩
  have HL4 := Lib.hid (HL3.out.trans lo)
  have HR4 := Lib.hid (RowK.lo HR3.out lo)
  clear lo HL3 HR3 HM3 HSm
  obtain ⟨q, hq⟩ : ∃ q : Nat, m - 1 = q := ⟨_, rfl⟩
  have i1 : (m : Int) - 1 = (q : Int) := by omega
  have hqg : q < g := by omega
  rw [hq] at HA6
  clear hq
  go_wp2_with fail
  refine (HW.out _ q _ hqg HR4.out).mono ?_
  rw [HWv.out q hqg]
  rintro e w5 ⟨rfl, rfl⟩
  clear i1
  dsimp only
  have HA7 : Hid (∀ i, m ≤ i → i < g → (Hm.at0 l i).1 = (Hm.at0 l q).1) := HA6
  clear HA6
  generalize (Hm.at0 l q).1 = adv at *
  go_wp2_with fail
  go_loop [16, 17, 18] (fun i _ _ => ∃ k : Nat, m ≤ k ∧ k ≤ g ∧ i = .int .i64 k) (fun i _ _ => g - (intOf i).toNat)
  case atStart => exact ⟨m, Nat.le_refl _, hm2, rfl⟩
  case round =>
    obtain ⟨k, hk1, hk, rfl⟩ := hrel
    by_cases hlt : k < g
    · have HC := HW.out (.slice p g c) k w4 hlt HR4.out
      rw [HWv.out k hlt, HA7.out k hk1 hlt] at HC
      have HCC := Lib.hid HC
      clear HC
      go_wp2_with fail
      refine HCC.out.mono ?_
      rintro e w6 ⟨rfl, rfl⟩
      clear HCC
      go_wp2_with fail
      go_round
      case rel => exact ⟨k + 1, by omega, by omega, by go_num⟩
      case measure => simp [intOf]; omega
    · go_wp2_with fail
      refine (wide_any _).mono ?_
      rintro e w7 ⟨rfl, lo⟩
      have HL7 := Lib.hid (HL4.out.trans lo)
      clear lo HL4
      go_wp2_with fail
      go_ret
      exact ⟨rfl, HL7.out⟩

theorem hmtxAgain_walk (a : ByteArray) (g m : Int) (w : World) (_wa : a.size ≤ maxLen) (_wg : (Lit.int .i64 g).wf = true) (_wm : (Lit.int .i64 m).wf = true) :
    Calls Try.prog 5 #[.string a, .int .i64 g, .int .i64 m] w fun e w' => e = .returned (.bool true) ∧ Below w.heap.size w w' := by
  by_cases h : a.size ≤ 3000
  · by_cases hn : (Hm.get a.data.toList g m).2 = 0
    · obtain ⟨⟨g1, _⟩, ⟨m1, _⟩, _⟩ := Hm.get_ok hn
      obtain ⟨g', rfl⟩ := Int.eq_ofNat_of_zero_le (show 0 ≤ g by omega)
      obtain ⟨m', rfl⟩ := Int.eq_ofNat_of_zero_le (show 0 ≤ m by omega)
      exact hmtxAgain_some a.data.toList g' m' w h hn
    · exact hmtxAgain_none a.data.toList g m w h hn
  · exact hmtxAgain_long a g m w h
end Go.Proofs.Ytchhjfocanjniaa
