/-
  The contract of the document's answer for layer 13, Put. No conditions beyond those stated.
-/
import Derived.Test.YtcbchnckeeklkaaKoRef
import Derived.Test.YtcbchnckeeklkaaBnRefB
import Derived.Deep.RegionHeld3
namespace Go.Proofs.Ytcbchnckeeklkaa
open Go.RowKit

theorem rkadd (a b c : List UInt8) (hc : a ++ b = c) (h : a.length + b.length ≤ 100000000) (W : World) : (Op.stringOp .add ⟨a.toArray⟩ ⟨b.toArray⟩).run Try.prog W = .ok (.string ⟨c.toArray⟩) W := by
  rw [← hc, run_string_add_sum W _ _ (by show a.length + b.length ≤ _; omega), Gk.cat_list]
theorem rkbytes (x z : Int) (W : World) (hz : z.natAbs = 2) (hs : Bn.isSize z = true) (h : Bn.fits x z = true) : Calls Try.prog 27 #[.int .i64 x, .int .i64 2] W fun e w' => e = .returned (.string ⟨(Bn.bytes x 2).toArray⟩) ∧ Lo W w' := by
  have h := rbytes_any x z W hs h
  rw [hz, show ((2 : Nat) : Int) = 2 from rfl] at h
  exact h

set_option maxHeartbeats 400000 in
theorem rkput_no (v : Value) (l : List Int) (w : World) (h : Row w v l) (hc : Ko.isK l = false) : Calls Try.prog 11 #[v] w fun e w' => e = strErr ([], 1) ∧ Lo w w' := by
  have HI := Lib.hid (ris13_any v l w h)
  rw [hc] at HI
  obtain ⟨p, c, rfl, _⟩ := h.form
  unfold strErr
  clear h hc
  go_enter Try.func11, Try.ntmps11
  go_wp2_with fail
  refine HI.out.mono ?_
  rintro e w1 ⟨rfl, lo⟩
  have HL := Lib.hid lo
  clear lo
  go_wp2_with fail
  go_ret2
  exact ⟨rfl, HL.out⟩

set_option maxRecDepth 100000 in
set_option maxHeartbeats 3200000 in
theorem rkput_yes (v : Value) (l : List Int) (w : World) (h : Row w v l) (hc : Ko.isK l = true) : Calls Try.prog 11 #[v] w fun e w' => e = strErr (Ko.put l) ∧ Lo w w' := by
  have h56 := Ko.isK_len hc
  have HI := Lib.hid (ris13_any v l w h)
  rw [hc] at HI
  have HFt := Lib.hid (fun k (hk : k < 56) => Ko.isK_at hc hk)
  have HWd := Lib.hid (fun k W => rwide13_any k W)
  have hput : Ko.put l = (Ko.outTo l 56, 0) := by unfold Ko.put; rw [if_neg (by rw [hc]; simp)]
  rw [hput]
  obtain ⟨p, c, rfl, _⟩ := h.form
  have HR := Lib.hid h
  rw [h56] at HI HR ⊢
  unfold strErr
  clear h hc hput
  go_enter Try.func11, Try.ntmps11
  go_wp2_with fail
  refine HI.out.mono ?_
  rintro e w1 ⟨rfl, lo⟩
  have HL := Lib.hid lo
  have HR1 := Lib.hid (HR.out.lo lo)
  clear lo HI HR
  go_wp2_with fail
  go_loopw [4, 5] (fun so si W => ∃ (k : Nat) (o : List UInt8), k ≤ 56 ∧ si = .int .i64 (k : Int) ∧ so = .string ⟨o.toArray⟩ ∧ Hid (o = Ko.outTo l k) ∧ Hid (Lo w1 W)) (fun _ si _ => 56 - (intOf si).toNat)
  case atStart => exact ⟨0, [], by omega, rfl, rfl, Lib.hid rfl, Lib.hid (Lo.refl _)⟩
  case round =>
    obtain ⟨k, o, hk, rfl, rfl, HO, HLk⟩ := hrel
    by_cases hlt : k < 56
    · obtain ⟨b, off, rfl, hcell⟩ := (HR1.out.lo HLk.out).at_ hlt
      have hol : o.length ≤ 214 := by rw [HO.out, Ko.outTo_len l k hk]; have := Ko.place_end hlt; omega
      have hfit := HFt.out k hlt
      have CB := Lib.hid (fun W => rkbytes (l.getD k 0) (Ko.size k) W (Ko.size_abs k) (Ko.size_is k) hfit)
      have HWk := Lib.hid (fun W => HWd.out k W)
      obtain ⟨o1, ho1⟩ : ∃ q, o ++ Bn.bytes (l.getD k 0) 2 = q := ⟨_, rfl⟩
      have ho1l : o1.length = o.length + 2 := by rw [← ho1, List.length_append, Bn.bytes_len]
      have x0 := fun W => rkadd o _ o1 ho1 (by rw [Bn.bytes_len]; omega) W
      obtain ⟨o2, ho2⟩ : ∃ q, o1 ++ [0, 0] = q := ⟨_, rfl⟩
      have x1 := fun W => rkadd o1 [0, 0] o2 ho2 (by show o1.length + 2 ≤ _; omega) W
      have hz0 : (⟨([0, 0] : List UInt8).toArray⟩ : ByteArray) = ⟨#[0, 0]⟩ := rfl
      rw [hz0] at x1
      have HPc : Hid (Ko.outTo l (k + 1) = o ++ (Bn.bytes (l.getD k 0) 2 ++ List.replicate (Ko.wide k - 2) 0)) := Lib.hid (by rw [Ko.outTo, Ko.piece, HO.out])
      generalize Bn.bytes (l.getD k 0) 2 = by2 at *
      generalize l.getD k 0 = x at *
      rcases Ko.szK_cases k with ⟨_, hw⟩ | ⟨_, hw⟩
      · rw [hw] at HWk HPc
        have HO1 : Hid (o1 = Ko.outTo l (k + 1)) := Lib.hid (by rw [HPc.out, ← ho1]; simp)
        clear ho1 ho2 x1 hw hfit
        go_wp2_with fail
        refine (CB.out _).mono ?_
        rintro e w2 ⟨rfl, lo⟩
        have HL2 := Lib.hid (HLk.out.trans lo)
        clear lo CB
        go_wp2_with fail
        refine (HWk.out _).mono ?_
        rintro e w3 ⟨rfl, rfl⟩
        go_wp2_with fail
        go_roundw
        case rel => exact ⟨k + 1, o1, by omega, by go_num, rfl, HO1, HL2⟩
        case measure => simp [intOf]; omega
      · rw [hw] at HWk HPc
        have HO2 : Hid (o2 = Ko.outTo l (k + 1)) := Lib.hid (by rw [HPc.out, ← ho2, ← ho1, List.append_assoc]; rfl)
        clear ho1 ho2 hw hfit
        go_wp2_with fail
        refine (CB.out _).mono ?_
        rintro e w2 ⟨rfl, lo⟩
        have HL2 := Lib.hid (HLk.out.trans lo)
        clear lo CB
        go_wp2_with fail
        refine (HWk.out _).mono ?_
        rintro e w3 ⟨rfl, rfl⟩
        go_wp2_with fail
        go_roundw
        case rel => exact ⟨k + 1, o2, by omega, by go_num, rfl, HO2, HL2⟩
        case measure => simp [intOf]; omega
    · obtain rfl : k = 56 := by omega
      go_wp2_with fail
      go_ret2
      rw [HO.out]
      exact ⟨rfl, HL.out.trans HLk.out⟩

/-- Put. -/
theorem rkput_any (v : Value) (l : List Int) (w : World) (h : Row w v l) : Calls Try.prog 11 #[v] w fun e w' => e = strErr (Ko.put l) ∧ Lo w w' := by
  cases hc : Ko.isK l with
  | false => rw [show Ko.put l = ([], 1) by unfold Ko.put; rw [if_pos hc]]; exact rkput_no v l w h hc
  | true => exact rkput_yes v l w h hc
end Go.Proofs.Ytcbchnckeeklkaa
