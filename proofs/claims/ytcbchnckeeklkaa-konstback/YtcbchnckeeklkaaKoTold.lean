/-
  The contract of the law's closed rows of layer 13. No conditions beyond those stated.
-/
import Derived.Test.YtcbchnckeeklkaaKoGet
import Derived.Test.YtcbchnckeeklkaaKoPut
import Derived.Test.YtcbchnckeeklkaaKoName
import Derived.Test.YtcbchnckeeklkaaGkOwnSet
import Derived.Test.YtcbchnckeeklkaaBnRefI
namespace Go.Proofs.Ytcbchnckeeklkaa
open Go.RowKit

/-- The numbers from -3 on, so many. -/
def koA (k : Nat) : List Int := (List.range k).map fun (j : Nat) => (j : Int) - 3
theorem koA_len (k : Nat) : (koA k).length = k := by simp [koA]
theorem koA_step (k : Nat) : koA (k + 1) = koA k ++ [(k : Int) - 3] := by unfold koA; rw [List.range_succ, List.map_append]; rfl
def koL : List Int := (koA 56).set 2 65535
theorem koL_is : Ko.isK koL = true := by kernel_rfl
theorem koL_len : koL.length = 56 := by kernel_rfl
theorem koL_put : (Ko.put koL).2 = 0 := by unfold Ko.put; rw [koL_is]; rfl
def koS : List UInt8 := (Ko.put koL).1
theorem ko_put : Ko.put koL = (koS, 0) := Prod.ext rfl koL_put
theorem koS_len : koS.length = 214 := (Ko.get_put koL_put [] []).2.1
theorem ko_get : Ko.get (120 :: koS) 1 = (koL, 0) := by
  have := (Ko.get_put koL_put [120] []).1
  rw [List.append_nil] at this
  exact this
theorem ko_axis : Ko.name 5 = ([65, 120, 105, 115, 72, 101, 105, 103, 104, 116], 0) := by kernel_rfl
theorem ko_find : Ko.find [70, 114, 97, 99, 116, 105, 111, 110, 82, 117, 108, 101, 84, 104, 105, 99, 107, 110, 101, 115, 115] = (38, 0) := Ko.find_first (k := 38) (by omega) (by kernel_rfl)
theorem ko_empty : Ko.find [] = (0, 9) := Ko.find_never fun k hk e => by
  have h := List.all_eq_true.1 Ko.names_short _ (Ko.name_mem hk)
  rw [e] at h
  cases h

set_option maxRecDepth 100000 in
set_option maxHeartbeats 3200000 in
theorem ktold_any (w : World) : Calls Try.prog 16 #[] w fun e w' => e = .returned (.bool true) ∧ Lo w w' := by
  have HP := Lib.hid (fun (v : Value) (W : World) (h : Row W v koL) => kput_any v koL W h)
  rw [ko_put] at HP
  have HG := Lib.hid (fun W => kget_any (120 :: koS) 1 W (by rw [List.length_cons, koS_len]; omega) (by omega))
  rw [ko_get] at HG
  unfold GotRow at HG
  dsimp only at HG
  rw [koL_len] at HG
  have HNa := Lib.hid (fun W => kname_any 5 W)
  rw [ko_axis] at HNa
  have HF := Lib.hid (fun W => kfind_any [70, 114, 97, 99, 116, 105, 111, 110, 82, 117, 108, 101, 84, 104, 105, 99, 107, 110, 101, 115, 115] W)
  rw [ko_find] at HF
  have HNb := Lib.hid (fun W => kname_any 56 W)
  rw [Ko.name_no (.inr (by omega))] at HNb
  have HFe := Lib.hid (fun W => kfind_any [] W)
  rw [ko_empty] at HFe
  have HN := Lib.hid (fun (v u : Value) (W : World) (h : Row W v koL) (h2 : Row W u koL) => rints_any v u koL koL W h h2)
  have hdec : decide (koL = koL) = true := decide_eq_true rfl
  rw [hdec] at HN
  have HI := Lib.hid (fun (v : Value) (W : World) (h : Row W v koL) => kis_any v koL W h)
  rw [koL_is] at HI
  have HIn := Lib.hid (fun (W : World) => kis_any (.slice none 0 0) [] W (.inl ⟨_, _, rfl, fun _ => rfl, rfl⟩))
  rw [Ko.isK_short (by decide)] at HIn
  unfold strErr at HP HNa HNb
  have hadd : ∀ W, (Op.stringOp .add ⟨#[120]⟩ ⟨koS.toArray⟩).run Try.prog W = .ok (.string ⟨(120 :: koS).toArray⟩) W := fun W => by
    have : ([120] : List UInt8).toArray = #[120] := rfl
    rw [← this, run_string_add_sum W _ _ (by show 1 + koS.length ≤ _; rw [koS_len]; decide), Gk.cat_list]; rfl
  have hsz : (ByteArray.mk koS.toArray).size = 214 := koS_len
  have HL56 : Hid ((koA 56).length = 56) := Lib.hid (koA_len 56)
  have HLset : Hid ((koA 56).set 2 65535 = koL) := Lib.hid rfl
  dsimp only at HP HNa HF HNb HFe
  generalize hU : (120 :: koS).toArray = U at *
  generalize koS = s at *
  generalize koL = l at *
  clear hdec hU
  go_enter Try.func16, Try.ntmps16
  go_wp2_with fail
  go_loopw [1, 2] (fun v i W => ∃ (k : Nat) (p : Option Addr) (c : Nat), k ≤ 56 ∧ i = .int .i64 k ∧ v = .slice p k c ∧ Hid (Own W w.heap.size (.slice p k c) (koA k)) ∧ Hid (Lo w W)) (fun _ i _ => 56 - (intOf i).toNat)
  case atStart => exact ⟨0, none, 0, by omega, rfl, rfl, Lib.hid (Own.none _ _), Lib.hid (Lo.refl _)⟩
  case round =>
    obtain ⟨k, p, c, hk, rfl, rfl, HO, HL⟩ := hrel
    by_cases hlt : k < 56
    · have HX : Hid ((koA k).length + [(k : Int) - 3].length = k + 1) := Lib.hid (by rw [koA_len]; rfl)
      have HB : Hid ((koA k).length + [(k : Int) - 3].length ≤ 1000000) := Lib.hid (by rw [HX.out]; omega)
      have HS : Hid (koA (k + 1) = koA k ++ [(k : Int) - 3]) := Lib.hid (koA_step k)
      go_wp2_with (at_builtin; refine wpList_app _ rfl (.tmp 19) (.tmp 22) rfl w.heap.size _ (koA k) rfl (HO.out.lo ((Lo.refl _).alloc _)) _ [(k : Int) - 3] rfl (row1 wr wr.heap.size rfl _) HB.out (Nat.le_trans HL.out.size (by simp)) ?_; intro q2 c2 w3 hown hlo; have HO3 := Lib.hid hown; have HL3 := Lib.hid (hlo w (HL.out.alloc _) rfl); clear hown hlo; rw [HX.out, ← HS.out] at HO3; rw [HX.out])
      go_roundw
      case rel => exact ⟨k + 1, q2, c2, by omega, by go_num, rfl, HO3, HL3⟩
      case measure => simp [intOf]; omega
    · obtain rfl : k = 56 := by omega
      obtain ⟨g, cp, hv, hbg, hgs, hcell, hfz, hset⟩ := own_block HO.out (i := 2) (by rw [HL56.out]; omega)
      rw [HL56.out] at hv
      injection hv with hv1 _ hv2
      subst hv1 hv2
      have HRs := Lib.hid (hset 65535).row
      rw [HLset.out] at HRs
      have HLs := Lib.hid (HL.out.set (p := ⟨g, 2, none⟩) hbg (.int .i64 65535))
      clear hset
      generalize hw5 : wr.setCell ⟨g, 2, none⟩ (.int .i64 65535) = w5 at *
      go_wp2_with fail
      refine (HP.out _ _ HRs.out).mono ?_
      rintro e w6 ⟨rfl, lo⟩
      have HL6 := Lib.hid (HLs.out.trans lo)
      have HR6 := Lib.hid (HRs.out.lo lo)
      clear lo HP
      go_wp2_with fail
      refine (HG.out _).mono ?_
      rintro e w7 ⟨p7, c7, rfl, hrow, lo⟩
      have HL7 := Lib.hid (HL6.out.trans lo)
      have HR7 := Lib.hid (HR6.out.lo lo)
      have HM7 := Lib.hid hrow
      clear lo hrow HG hadd
      go_wp2_with fail
      refine (HNa.out _).mono ?_
      rintro e w8 ⟨rfl, lo⟩
      have HL8 := Lib.hid (HL7.out.trans lo)
      have HR8 := Lib.hid (HR7.out.lo lo)
      have HM8 := Lib.hid (HM7.out.lo lo)
      clear lo HNa
      go_wp2_with fail
      refine (HF.out _).mono ?_
      rintro e w9 ⟨rfl, lo⟩
      have HL9 := Lib.hid (HL8.out.trans lo)
      have HR9 := Lib.hid (HR8.out.lo lo)
      have HM9 := Lib.hid (HM8.out.lo lo)
      clear lo HF
      go_wp2_with fail
      refine (HNb.out _).mono ?_
      rintro e w10 ⟨rfl, lo⟩
      have HL10 := Lib.hid (HL9.out.trans lo)
      have HR10 := Lib.hid (HR9.out.lo lo)
      have HM10 := Lib.hid (HM9.out.lo lo)
      clear lo HNb
      go_wp2_with fail
      refine (HFe.out _).mono ?_
      rintro e w11 ⟨rfl, lo⟩
      have HL11 := Lib.hid (HL10.out.trans lo)
      have HR11 := Lib.hid (HR10.out.lo lo)
      have HM11 := Lib.hid (HM10.out.lo lo)
      clear lo HFe
      go_wp2_with fail
      refine (HN.out _ _ _ HR11.out HM11.out).mono ?_
      rintro e w12 ⟨rfl, lo⟩
      have HL12 := Lib.hid (HL11.out.trans lo)
      have HR12 := Lib.hid (HR11.out.lo lo)
      clear lo HN
      go_wp2_with fail
      refine (HI.out _ _ HR12.out).mono ?_
      rintro e w13 ⟨rfl, lo⟩
      have HL13 := Lib.hid (HL12.out.trans lo)
      clear lo HI
      go_wp2_with fail
      refine (HIn.out _).mono ?_
      rintro e w14 ⟨rfl, lo⟩
      have HL14 := Lib.hid (HL13.out.trans lo)
      clear lo HIn
      go_wp2_with fail
      go_ret
      exact ⟨rfl, HL14.out⟩
end Go.Proofs.Ytcbchnckeeklkaa
