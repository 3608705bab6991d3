/-
  Facts that the walks rest on: CuTold, CuLawFlat, GkOpenR. No conditions beyond those stated.
-/
import Derived.Test.YtcnmfgdeanbhoaaPart10
import Derived.Test.YtcnmfgdeanbhoaaPart14
import Derived.Test.YtcnmfgdeanbhoaaPart16
import Derived.Deep.RegionHeld3
import Derived.Test.YtcnmfgdeanbhoaaPart01
import Derived.Deep.Slices
import Derived.Deep.Fields
import Derived.OpenShut
/-
  The contract of the law's closed rows of layer 15. No conditions beyond those stated.
-/
namespace Go.Proofs.Ytcnmfgdeanbhoaa
open Go.RowKit

def cuX : Cu.Stair := ([100], [-5, 7])
def cuL : List Cu.Kern := [(3, [([], []), cuX, ([], []), ([], [])])]
def cuS : List UInt8 := [0, 12, 0, 1, 0, 0, 0, 18, 0, 0, 0, 0, 0, 1, 0, 1, 0, 3, 0, 1, 0, 100, 0, 0, 255, 251, 0, 0, 0, 7, 0, 0]
def cuT : List UInt8 := [0, 12, 0, 1, 0, 0, 0, 18, 0, 0, 0, 0, 0, 1, 0, 1, 0, 3, 0, 1, 0, 100, 0, 0, 255, 251, 0, 0, 0, 7, 0]
theorem cu_put : Cu.put cuL = (cuS, 0) := by kernel_rfl
theorem cu_get : Cu.get (121 :: cuS) 1 = (cuL, 0) := by kernel_rfl
theorem cu_more : Cu.get cuT 0 = ([], 4) := by kernel_rfl
theorem cu_a : Cu.ht cuX 99 = -5 := by kernel_rfl
theorem cu_b : Cu.ht cuX 100 = 7 := by kernel_rfl
theorem cu_c : Cu.find cuL 3 1 100 = 7 := by kernel_rfl
theorem cu_d : Cu.find cuL 3 0 100 = 0 := by kernel_rfl
theorem cu_is : Cu.isS cuX = true := by kernel_rfl
theorem cu_right : Cu.isK cuL = true := by kernel_rfl
theorem cu_wrong : Cu.isK [Cu.zK] = false := by kernel_rfl

set_option maxHeartbeats 400000 in
theorem cufront_any (w : World) : Calls Try.prog 40 #[.string ⟨cuS.toArray⟩, .int .i64 31] w fun e w' => e = .returned (.string ⟨cuT.toArray⟩) ∧ w = w' := by
  have hs : (ByteArray.mk cuS.toArray).size = 32 := rfl
  have hx : (ByteArray.mk cuS.toArray).extract 0 31 = ⟨cuT.toArray⟩ := by
    have := Gk.extract_list cuS 0 31
    exact this
  generalize ByteArray.mk cuS.toArray = B at *
  generalize cuT.toArray = T at *
  go_enter Try.func40, Try.ntmps40
  go_wp2_with fail
  go_ret
  exact ⟨rfl, rfl⟩

theorem two_at {W : World} {B o : Nat} {a b : Value} (c0 : W.cell? ⟨B, o, none⟩ = some a) (c1 : W.cell? ⟨B, o + 1, none⟩ = some b) : ∀ j, j < 2 → W.cell? ⟨B, o + j, none⟩ = [a, b][j]?
  | 0, _ => c0
  | 1, _ => c1
  | j + 2, h => absurd h (by omega)
/-- The literal of four stairs, of which the second one has kerns. -/
theorem srow_lit (W : World) (B : Nat) (u v : Value) (x : Cu.Stair) (h : W.heap[B]? = some (.cells #[.slice none 0 0, .slice none 0 0, u, v, .slice none 0 0, .slice none 0 0, .slice none 0 0, .slice none 0 0] 35 (0, 0))) (h1 : Row W u x.1) (h2 : Row W v x.2) :
    SRowC W (.slice (some ⟨B, 0, none⟩) 4 4) [([], []), x, ([], []), ([], [])] := by
  refine .inr ⟨B, 0, 4, rfl, by simp, by simp, (by
    rcases Nat.lt_or_ge B W.heap.size with hlt | hge
    · exact hlt
    · rw [Array.getElem?_eq_none hge] at h; cases h), fun i y hy => ?_⟩
  have hn : Row W (.slice none 0 0) [] := .inl ⟨_, _, rfl, fun _ => rfl, rfl⟩
  match i, hy with
  | 0, hy => simp at hy; subst hy; exact ⟨[.slice none 0 0, .slice none 0 0], rfl, ⟨_, _, rfl, hn, hn⟩, two_at (o := 0) (block_cell h rfl) (block_cell h rfl)⟩
  | 1, hy => simp at hy; subst hy; exact ⟨[u, v], rfl, ⟨_, _, rfl, h1, h2⟩, two_at (o := 2) (block_cell h rfl) (block_cell h rfl)⟩
  | 2, hy => simp at hy; subst hy; exact ⟨[.slice none 0 0, .slice none 0 0], rfl, ⟨_, _, rfl, hn, hn⟩, two_at (o := 4) (block_cell h rfl) (block_cell h rfl)⟩
  | 3, hy => simp at hy; subst hy; exact ⟨[.slice none 0 0, .slice none 0 0], rfl, ⟨_, _, rfl, hn, hn⟩, two_at (o := 6) (block_cell h rfl) (block_cell h rfl)⟩
  | i + 4, hy => simp at hy
theorem krow_lit (W : World) (B : Nat) (u : Value) (x : Cu.Kern) (h : W.heap[B]? = some (.cells #[.int .i64 x.1, u] 42 (0, 0))) (h1 : SRowC W u x.2) : KRowC W (.slice (some ⟨B, 0, none⟩) 1 1) [x] := by
  refine .inr ⟨B, 0, 1, rfl, by simp, by simp, (by
    rcases Nat.lt_or_ge B W.heap.size with hlt | hge
    · exact hlt
    · rw [Array.getElem?_eq_none hge] at h; cases h), fun i y hy => ?_⟩
  match i, hy with
  | 0, hy => simp at hy; subst hy; exact ⟨[.int .i64 x.1, u], rfl, ⟨_, rfl, h1⟩, two_at (o := 0) (block_cell h rfl) (block_cell h rfl)⟩
  | i + 1, hy => simp at hy

theorem stepped_world (w : World) : Lo w (((((w.alloc (.cells #[.int .i64 100] 3)).alloc (.cells #[.int .i64 (-5), .int .i64 7] 3)).alloc (.cells #[.slice (some ⟨w.heap.size, 0, none⟩) 1 1, .slice (some ⟨w.heap.size + 1, 0, none⟩) 2 2] 35)).alloc (.cells #[.slice none 0 0, .slice none 0 0, .slice (some ⟨w.heap.size, 0, none⟩) 1 1, .slice (some ⟨w.heap.size + 1, 0, none⟩) 2 2, .slice none 0 0, .slice none 0 0, .slice none 0 0, .slice none 0 0] 35)).alloc (.cells #[.int .i64 3, .slice (some ⟨w.heap.size + 1 + 1 + 1, 0, none⟩) 4 4] 42)) ∧ Row (((((w.alloc (.cells #[.int .i64 100] 3)).alloc (.cells #[.int .i64 (-5), .int .i64 7] 3)).alloc (.cells #[.slice (some ⟨w.heap.size, 0, none⟩) 1 1, .slice (some ⟨w.heap.size + 1, 0, none⟩) 2 2] 35)).alloc (.cells #[.slice none 0 0, .slice none 0 0, .slice (some ⟨w.heap.size, 0, none⟩) 1 1, .slice (some ⟨w.heap.size + 1, 0, none⟩) 2 2, .slice none 0 0, .slice none 0 0, .slice none 0 0, .slice none 0 0] 35)).alloc (.cells #[.int .i64 3, .slice (some ⟨w.heap.size + 1 + 1 + 1, 0, none⟩) 4 4] 42)) (.slice (some ⟨w.heap.size, 0, none⟩) 1 1) [100] ∧ Row (((((w.alloc (.cells #[.int .i64 100] 3)).alloc (.cells #[.int .i64 (-5), .int .i64 7] 3)).alloc (.cells #[.slice (some ⟨w.heap.size, 0, none⟩) 1 1, .slice (some ⟨w.heap.size + 1, 0, none⟩) 2 2] 35)).alloc (.cells #[.slice none 0 0, .slice none 0 0, .slice (some ⟨w.heap.size, 0, none⟩) 1 1, .slice (some ⟨w.heap.size + 1, 0, none⟩) 2 2, .slice none 0 0, .slice none 0 0, .slice none 0 0, .slice none 0 0] 35)).alloc (.cells #[.int .i64 3, .slice (some ⟨w.heap.size + 1 + 1 + 1, 0, none⟩) 4 4] 42)) (.slice (some ⟨w.heap.size + 1, 0, none⟩) 2 2) [-5, 7] ∧
    (((((w.alloc (.cells #[.int .i64 100] 3)).alloc (.cells #[.int .i64 (-5), .int .i64 7] 3)).alloc (.cells #[.slice (some ⟨w.heap.size, 0, none⟩) 1 1, .slice (some ⟨w.heap.size + 1, 0, none⟩) 2 2] 35)).alloc (.cells #[.slice none 0 0, .slice none 0 0, .slice (some ⟨w.heap.size, 0, none⟩) 1 1, .slice (some ⟨w.heap.size + 1, 0, none⟩) 2 2, .slice none 0 0, .slice none 0 0, .slice none 0 0, .slice none 0 0] 35)).alloc (.cells #[.int .i64 3, .slice (some ⟨w.heap.size + 1 + 1 + 1, 0, none⟩) 4 4] 42)).heap[w.heap.size + 1 + 1]? = some (.cells #[.slice (some ⟨w.heap.size, 0, none⟩) 1 1, .slice (some ⟨w.heap.size + 1, 0, none⟩) 2 2] 35 (0, 0)) ∧ KRowC (((((w.alloc (.cells #[.int .i64 100] 3)).alloc (.cells #[.int .i64 (-5), .int .i64 7] 3)).alloc (.cells #[.slice (some ⟨w.heap.size, 0, none⟩) 1 1, .slice (some ⟨w.heap.size + 1, 0, none⟩) 2 2] 35)).alloc (.cells #[.slice none 0 0, .slice none 0 0, .slice (some ⟨w.heap.size, 0, none⟩) 1 1, .slice (some ⟨w.heap.size + 1, 0, none⟩) 2 2, .slice none 0 0, .slice none 0 0, .slice none 0 0, .slice none 0 0] 35)).alloc (.cells #[.int .i64 3, .slice (some ⟨w.heap.size + 1 + 1 + 1, 0, none⟩) 4 4] 42)) (.slice (some ⟨w.heap.size + 1 + 1 + 1 + 1, 0, none⟩) 1 1) cuL := by
  have h1 := row1 w w.heap.size rfl 100
  have l1 := (Lo.refl w).alloc (.cells #[.int .i64 100] 3)
  have e1 : (w.alloc (.cells #[.int .i64 100] 3)).heap.size = w.heap.size + 1 := by simp
  generalize w.alloc (.cells #[.int .i64 100] 3) = w1 at *
  have h2 := row2 w1 (w.heap.size + 1) e1.symm (-5) 7
  have l2 := (Lo.refl w1).alloc (.cells #[.int .i64 (-5), .int .i64 7] 3)
  have e2 : (w1.alloc (.cells #[.int .i64 (-5), .int .i64 7] 3)).heap.size = w.heap.size + 1 + 1 := by simp [e1]
  generalize w1.alloc (.cells #[.int .i64 (-5), .int .i64 7] 3) = w2 at *
  have h3 := new_block w2 (.cells #[.slice (some ⟨w.heap.size, 0, none⟩) 1 1, .slice (some ⟨w.heap.size + 1, 0, none⟩) 2 2] 35)
  have l3 := (Lo.refl w2).alloc (.cells #[.slice (some ⟨w.heap.size, 0, none⟩) 1 1, .slice (some ⟨w.heap.size + 1, 0, none⟩) 2 2] 35)
  have e3 : (w2.alloc (.cells #[.slice (some ⟨w.heap.size, 0, none⟩) 1 1, .slice (some ⟨w.heap.size + 1, 0, none⟩) 2 2] 35)).heap.size = w.heap.size + 1 + 1 + 1 := by simp [e2]
  rw [e2] at h3
  generalize w2.alloc (.cells #[.slice (some ⟨w.heap.size, 0, none⟩) 1 1, .slice (some ⟨w.heap.size + 1, 0, none⟩) 2 2] 35) = w3 at *
  have h4 := new_block w3 (.cells #[.slice none 0 0, .slice none 0 0, .slice (some ⟨w.heap.size, 0, none⟩) 1 1, .slice (some ⟨w.heap.size + 1, 0, none⟩) 2 2, .slice none 0 0, .slice none 0 0, .slice none 0 0, .slice none 0 0] 35)
  have l4 := (Lo.refl w3).alloc (.cells #[.slice none 0 0, .slice none 0 0, .slice (some ⟨w.heap.size, 0, none⟩) 1 1, .slice (some ⟨w.heap.size + 1, 0, none⟩) 2 2, .slice none 0 0, .slice none 0 0, .slice none 0 0, .slice none 0 0] 35)
  have e4 : (w3.alloc (.cells #[.slice none 0 0, .slice none 0 0, .slice (some ⟨w.heap.size, 0, none⟩) 1 1, .slice (some ⟨w.heap.size + 1, 0, none⟩) 2 2, .slice none 0 0, .slice none 0 0, .slice none 0 0, .slice none 0 0] 35)).heap.size = w.heap.size + 1 + 1 + 1 + 1 := by simp [e3]
  rw [e3] at h4
  generalize w3.alloc (.cells #[.slice none 0 0, .slice none 0 0, .slice (some ⟨w.heap.size, 0, none⟩) 1 1, .slice (some ⟨w.heap.size + 1, 0, none⟩) 2 2, .slice none 0 0, .slice none 0 0, .slice none 0 0, .slice none 0 0] 35) = w4 at *
  have h5 := new_block w4 (.cells #[.int .i64 3, .slice (some ⟨w.heap.size + 1 + 1 + 1, 0, none⟩) 4 4] 42)
  have l5 := (Lo.refl w4).alloc (.cells #[.int .i64 3, .slice (some ⟨w.heap.size + 1 + 1 + 1, 0, none⟩) 4 4] 42)
  rw [e4] at h5
  generalize w4.alloc (.cells #[.int .i64 3, .slice (some ⟨w.heap.size + 1 + 1 + 1, 0, none⟩) 4 4] 42) = w5 at *
  have l35 := l4.trans l5
  have l25 := l3.trans l35
  have r1 := (h1.lo l2).lo l25
  have r2 := h2.lo l25
  exact ⟨((l1.trans l2).trans l25), r1, r2, lo_block l35 h3, krow_lit _ _ _ (3, [([], []), cuX, ([], []), ([], [])]) h5 (srow_lit _ _ _ _ cuX (lo_block l5 h4) r1 r2)⟩

set_option maxRecDepth 100000 in
set_option maxHeartbeats 3200000 in
theorem stepped_any (w : World) : Calls Try.prog 14 #[] w fun e w' => e = .returned (.bool true) ∧ Lo w w' := by
  have HP := Lib.hid (fun (v : Value) (W : World) (h : KRowC W v cuL) => cuput_any v cuL W h (by decide))
  rw [cu_put] at HP
  have HG := Lib.hid (fun W => cuget_any (121 :: cuS) 1 W (by decide) (by omega))
  rw [cu_get] at HG
  have HG2 := Lib.hid (fun W => cuget_any cuT 0 W (by decide) (by omega))
  rw [cu_more] at HG2
  have HA := Lib.hid (fun (u v : Value) (W : World) (h : Row W u cuX.1) (h2 : Row W v cuX.2) => cuat_any u v cuX 99 W h h2)
  rw [cu_a] at HA
  have HB := Lib.hid (fun (u v : Value) (W : World) (h : Row W u cuX.1) (h2 : Row W v cuX.2) => cuat_any u v cuX 100 W h h2)
  rw [cu_b] at HB
  have HC := Lib.hid (fun (v : Value) (W : World) (h : KRowC W v cuL) => cufind_any v cuL 3 1 100 W h (by decide))
  rw [cu_c] at HC
  have HD := Lib.hid (fun (v : Value) (W : World) (h : KRowC W v cuL) => cufind_any v cuL 3 0 100 W h (by decide))
  rw [cu_d] at HD
  have HI := Lib.hid (fun (u v : Value) (W : World) (h : Row W u cuX.1) (h2 : Row W v cuX.2) => cuis_any u v cuX W h h2)
  rw [cu_is] at HI
  have HRt := Lib.hid (fun (v : Value) (W : World) (h : KRowC W v cuL) => curight_any v cuL W h (by decide))
  rw [cu_right] at HRt
  have HWr := Lib.hid (fun (v : Value) (W : World) (h : KRowC W v [Cu.zK]) => curight_any v [Cu.zK] W h (by decide))
  rw [cu_wrong] at HWr
  have HS := Lib.hid (fun (v u : Value) (W : World) (h : KRowC W v cuL) (h2 : KRowC W u cuL) => samek_any cuL v u W h h2)
  have HFr := Lib.hid (fun W => cufront_any W)
  unfold strErr at HP
  unfold GotKerns at HG HG2
  rw [show (cuL, (0 : Int)).1.length = 1 from rfl] at HG
  have hs : (ByteArray.mk cuS.toArray).size = 32 := rfl
  have hadd : ∀ W, (Op.stringOp .add ⟨#[121]⟩ ⟨cuS.toArray⟩).run Try.prog W = .ok (.string ⟨(121 :: cuS).toArray⟩) W := fun W => by
    have := run_string_add_sum (P := Try.prog) W ⟨([121] : List UInt8).toArray⟩ ⟨cuS.toArray⟩ (by decide)
    rw [Gk.cat_list] at this
    exact this
  dsimp only at HP HG HG2
  generalize (121 :: cuS).toArray = S1 at *
  generalize cuS.toArray = S0 at *
  generalize cuT.toArray = T at *
  go_enter Try.func14, Try.ntmps14
  go_wp2_with fail
  obtain ⟨k1, k2, k3, k4, k5⟩ := stepped_world w
  generalize (((((w.alloc (.cells #[.int .i64 100] 3)).alloc (.cells #[.int .i64 (-5), .int .i64 7] 3)).alloc (.cells #[.slice (some ⟨w.heap.size, 0, none⟩) 1 1, .slice (some ⟨w.heap.size + 1, 0, none⟩) 2 2] 35)).alloc (.cells #[.slice none 0 0, .slice none 0 0, .slice (some ⟨w.heap.size, 0, none⟩) 1 1, .slice (some ⟨w.heap.size + 1, 0, none⟩) 2 2, .slice none 0 0, .slice none 0 0, .slice none 0 0, .slice none 0 0] 35)).alloc (.cells #[.int .i64 3, .slice (some ⟨w.heap.size + 1 + 1 + 1, 0, none⟩) 4 4] 42)) = W0 at *
  have HL := Lib.hid k1
  have HR1 := Lib.hid k2
  have HR2 := Lib.hid k3
  have HX := Lib.hid k4
  have HR := Lib.hid k5
  clear k1 k2 k3 k4 k5
  refine (HP.out _ _ HR.out).mono ?_
  rintro e w1 ⟨rfl, lo⟩
  have HW := Lib.hid lo
  clear lo HP
  go_wp2_with fail
  refine (HG.out _).mono ?_
  rintro e w2 ⟨p, c, rfl, hrow, lo⟩
  have HW2 := Lib.hid (HW.out.trans lo)
  have HM := Lib.hid hrow
  clear lo hrow HG HW
  go_wp2_with fail
  refine (HFr.out _).mono ?_
  rintro e w3 ⟨rfl, rfl⟩
  go_wp2_with fail
  refine (HG2.out _).mono ?_
  rintro e w4 ⟨p4, c4, rfl, _, lo⟩
  have HW4 := Lib.hid (HW2.out.trans lo)
  have HM4 := Lib.hid (KRowC.lo HM.out lo)
  clear lo HM HG2 HW2
  go_wp2_with fail
  refine (HS.out _ _ _ (KRowC.lo HR.out HW4.out) HM4.out).mono ?_
  rintro e w5 ⟨rfl, lo⟩
  have HW5 := Lib.hid (HW4.out.trans lo)
  clear lo HM4 HS HW4
  obtain ⟨d0, d1⟩ := two_cells (lo_block HW5.out HX.out)
  go_wp2_with fail
  refine (HA.out _ _ _ (HR1.out.lo HW5.out) (HR2.out.lo HW5.out)).mono ?_
  rintro e w6 ⟨rfl, lo⟩
  have HW6 := Lib.hid (HW5.out.trans lo)
  clear lo HA HW5 d0 d1
  obtain ⟨d0, d1⟩ := two_cells (lo_block HW6.out HX.out)
  go_wp2_with fail
  refine (HB.out _ _ _ (HR1.out.lo HW6.out) (HR2.out.lo HW6.out)).mono ?_
  rintro e w7 ⟨rfl, lo⟩
  have HW7 := Lib.hid (HW6.out.trans lo)
  clear lo HB HW6 d0 d1
  go_wp2_with fail
  refine (HC.out _ _ (KRowC.lo HR.out HW7.out)).mono ?_
  rintro e w8 ⟨rfl, lo⟩
  have HW8 := Lib.hid (HW7.out.trans lo)
  clear lo HC HW7
  go_wp2_with fail
  refine (HD.out _ _ (KRowC.lo HR.out HW8.out)).mono ?_
  rintro e w9 ⟨rfl, lo⟩
  have HW9 := Lib.hid (HW8.out.trans lo)
  clear lo HD HW8
  obtain ⟨d0, d1⟩ := two_cells (lo_block HW9.out HX.out)
  go_wp2_with fail
  refine (HI.out _ _ _ (HR1.out.lo HW9.out) (HR2.out.lo HW9.out)).mono ?_
  rintro e w10 ⟨rfl, lo⟩
  have HW10 := Lib.hid (HW9.out.trans lo)
  clear lo HI HW9 d0 d1
  go_wp2_with fail
  refine (HRt.out _ _ (KRowC.lo HR.out HW10.out)).mono ?_
  rintro e w11 ⟨rfl, lo⟩
  have HW11 := Lib.hid (HW10.out.trans lo)
  clear lo HRt HW10
  go_wp2_with fail
  refine (HWr.out _ _ (krow_lit _ _ _ Cu.zK (new_block w11 _) (.inl ⟨_, _, rfl, fun _ => rfl, rfl⟩))).mono ?_
  rintro e w12 ⟨rfl, lo⟩
  have HW12 := Lib.hid (HW11.out.trans (((Lo.refl _).alloc _).trans lo))
  clear lo HWr HW11
  go_wp2_with fail
  go_ret
  exact ⟨rfl, HL.out.trans HW12.out⟩
end Go.Proofs.Ytcnmfgdeanbhoaa
/-
  The walk of the law CutinFlat. No conditions beyond those stated.
-/
namespace Go.Proofs.Ytcnmfgdeanbhoaa
open Go.RowKit

/-- What stands in the class of worlds that the drawn regions walk: the stair's two slices, two of its kerns. -/
abbrev FlatAt (B b o1 o2 : Nat) (u v : Value) (z1 z2 : Int) (w0 W : World) : Prop :=
  W.cell? ⟨B, 0, none⟩ = some u ∧ W.cell? ⟨B, 1, none⟩ = some v ∧ W.cell? ⟨b, o1, none⟩ = some (.int .i64 z1) ∧ W.cell? ⟨b, o2, none⟩ = some (.int .i64 z2) ∧ Hid (Lo w0 W)

set_option maxHeartbeats 800000 in
theorem flat_out (u v : Value) (x : Cu.Stair) (i more : Int) (w : World) (h1 : Row w u x.1) (h2 : Row w v x.2) (h : 80 < x.1.length ∨ 80 < x.2.length ∨ Cu.isS x = false) :
    Calls Try.prog 7 #[.agg #[u, v], .int .i64 i, .int .i64 more] w fun e w' => e = .returned (.bool true) ∧ Lo w w' := by
  have HD := Lib.hid (fun W => stepped_any W)
  have HI := Lib.hid (fun W (a : Row W u x.1) (b : Row W v x.2) => cuis_any u v x W a b)
  obtain ⟨pu, cu, rfl, _⟩ := h1.form
  obtain ⟨pv, cv, rfl, _⟩ := h2.form
  have HR1 := Lib.hid h1
  have HR2 := Lib.hid h2
  by_cases c1 : 80 < x.1.length
  · clear h h1 h2 HI HR1 HR2
    generalize x.1.length = n at *
    generalize x.2.length = m at *
    have q1 : (80 : Int) < (n : Int) := by omega
    go_enter Try.func7, Try.ntmps7
    go_wp2_with fail
    refine (HD.out _).mono ?_
    rintro e w1 ⟨rfl, lo⟩
    have HL := Lib.hid (((Lo.refl w).alloc _).trans lo)
    clear lo
    go_wp2_with fail
    go_ret
    exact ⟨rfl, HL.out⟩
  · by_cases c2 : 80 < x.2.length
    · clear h h1 h2 HI HR1 HR2
      generalize x.1.length = n at *
      generalize x.2.length = m at *
      have q1 : ¬ (80 : Int) < (n : Int) := by omega
      have q2 : (80 : Int) < (m : Int) := by omega
      go_enter Try.func7, Try.ntmps7
      go_wp2_with fail
      refine (HD.out _).mono ?_
      rintro e w1 ⟨rfl, lo⟩
      have HL := Lib.hid (((Lo.refl w).alloc _).trans lo)
      clear lo
      go_wp2_with fail
      go_ret
      exact ⟨rfl, HL.out⟩
    · have hs : Cu.isS x = false := by
        rcases h with h | h | h
        · exact absurd h c1
        · exact absurd h c2
        · exact h
      rw [hs] at HI
      clear h h1 h2 hs
      generalize x.1.length = n at *
      generalize x.2.length = m at *
      have q1 : ¬ (80 : Int) < (n : Int) := by omega
      have q2 : ¬ (80 : Int) < (m : Int) := by omega
      go_enter Try.func7, Try.ntmps7
      go_wp2_with fail
      refine (HI.out _ (HR1.out.lo ((Lo.refl _).alloc _)) (HR2.out.lo ((Lo.refl _).alloc _))).mono ?_
      rintro e w1 ⟨rfl, lo⟩
      have HL := Lib.hid (((Lo.refl w).alloc _).trans lo)
      clear lo
      go_wp2_with fail
      refine (HD.out _).mono ?_
      rintro e w2 ⟨rfl, lo⟩
      have HL2 := Lib.hid (HL.out.trans lo)
      clear lo
      go_wp2_with fail
      go_ret
      exact ⟨rfl, HL2.out⟩

set_option maxHeartbeats 800000 in
theorem flat_none (u v : Value) (x : Cu.Stair) (i more : Int) (w : World) (h1 : Row w u x.1) (h2 : Row w v x.2) (c1 : x.1.length ≤ 80) (hs : Cu.isS x = true) (hk : x.2 = []) :
    Calls Try.prog 7 #[.agg #[u, v], .int .i64 i, .int .i64 more] w fun e w' => e = .returned (.bool true) ∧ Lo w w' := by
  have HD := Lib.hid (fun W => stepped_any W)
  have HI := Lib.hid (fun W (a : Row W u x.1) (b : Row W v x.2) => cuis_any u v x W a b)
  have HA := Lib.hid (fun W (a : Row W u x.1) (b : Row W v x.2) => cuat_any u v x more W a b)
  rw [hs] at HI
  rw [Cu.ht_none hs hk] at HA
  obtain ⟨pu, cu, rfl, _⟩ := h1.form
  obtain ⟨pv, cv, rfl, _⟩ := h2.form
  have HR1 := Lib.hid h1
  have HR2 := Lib.hid h2
  have hm : x.2.length = 0 := by rw [hk]; rfl
  rw [hm] at HR2 HI HA
  rw [hm]
  clear h1 h2 hs hk hm
  generalize x.1.length = n at *
  have q1 : ¬ (80 : Int) < (n : Int) := by omega
  go_enter Try.func7, Try.ntmps7
  go_wp2_with fail
  refine (HI.out _ (HR1.out.lo ((Lo.refl _).alloc _)) (HR2.out.lo ((Lo.refl _).alloc _))).mono ?_
  rintro e w1 ⟨rfl, lo⟩
  have HL := Lib.hid (((Lo.refl w).alloc _).trans lo)
  have HX := Lib.hid (lo_block lo (new_block w _))
  obtain ⟨d0, d1⟩ := two_cells HX.out
  clear lo
  go_wp2_with fail
  refine (HD.out _).mono ?_
  rintro e w2 ⟨rfl, lo⟩
  have HL2 := Lib.hid (HL.out.trans lo)
  clear d0 d1
  obtain ⟨d0, d1⟩ := two_cells (lo_block lo HX.out)
  clear lo
  go_wp2_with fail
  refine (HA.out _ (HR1.out.lo HL2.out) (HR2.out.lo HL2.out)).mono ?_
  rintro e w3 ⟨rfl, lo⟩
  have HL3 := Lib.hid (HL2.out.trans lo)
  clear lo
  go_wp2_with fail
  go_ret
  exact ⟨rfl, HL3.out⟩

set_option maxRecDepth 100000 in
set_option maxHeartbeats 6400000 in
theorem flat_in (u v : Value) (x : Cu.Stair) (i more : Int) (w : World) (h1 : Row w u x.1) (h2 : Row w v x.2) (hs : Cu.isS x = true) (hk : x.2 ≠ []) :
    Calls Try.prog 7 #[.agg #[u, v], .int .i64 i, .int .i64 more] w fun e w' => e = .returned (.bool true) ∧ Lo w w' := by
  have HD := Lib.hid (fun W => stepped_any W)
  have HI := Lib.hid (fun W (a : Row W u x.1) (b : Row W v x.2) => cuis_any u v x W a b)
  have HA := Lib.hid (fun h W (a : Row W u x.1) (b : Row W v x.2) => cuat_any u v x h W a b)
  rw [hs] at HI
  obtain ⟨f1, f2, f3, f4, f5⟩ := Cu.ht_flat hs hk
  obtain ⟨g1, _, g3, _, _⟩ := Cu.isS_has hs hk
  have j1 := f2 (-40000) (by omega)
  have j2 := f3 40000 (by omega)
  have HF4 := Lib.hid f4
  have HF5 := Lib.hid f5
  have HFt := Lib.hid (fun k (hk : k < x.1.length) => Cu.fits_s.1 (g3 _ (Cu.getI_mem hk)))
  obtain ⟨pu, cu, rfl, _⟩ := h1.form
  obtain ⟨pv, cv, rfl, _⟩ := h2.form
  have HR1 := Lib.hid h1
  have HR2 := Lib.hid h2
  rw [f1] at HR2 HI HA ⊢
  generalize Cu.ht x = H at *
  obtain ⟨a, b⟩ := x
  dsimp only at *
  generalize a.length = n at *
  clear h1 h2 hs hk f1 f2 f3 f4 f5 g3
  have q1 : ¬ (80 : Int) < (n : Int) := by omega
  have q2 : ¬ (80 : Int) < ((n + 1 : Nat) : Int) := by omega
  go_enter Try.func7, Try.ntmps7
  go_wp2_with fail
  refine (HI.out _ (HR1.out.lo ((Lo.refl _).alloc _)) (HR2.out.lo ((Lo.refl _).alloc _))).mono ?_
  rintro e w1 ⟨rfl, lo⟩
  have HL := Lib.hid (((Lo.refl w).alloc _).trans lo)
  have HX := Lib.hid (lo_block lo (new_block w _))
  obtain ⟨d0, d1⟩ := two_cells HX.out
  have HRa := Lib.hid (HR1.out.lo HL.out)
  have HRb := Lib.hid (HR2.out.lo HL.out)
  clear lo HI HR1 HR2
  have hmb : (((n + 1 : Nat) : Int) == 0) = false := by rw [beq_eq_false_iff_ne]; omega
  have hB := (World.block_lt_of_cell? _ _ d0)
  generalize w.heap.size = B at *
  obtain ⟨b2, off2, rfl, c0⟩ := HRb.out.at_ (k := 0) (by omega)
  obtain ⟨b2', off2', he, cn⟩ := HRb.out.at_ (k := n) (by omega)
  simp only [Option.some.injEq, Addr.mk.injEq, and_true] at he
  obtain ⟨rfl, rfl⟩ := he
  rw [Nat.add_zero] at c0
  have hb2 := World.block_lt_of_cell? _ _ c0
  rw [← j1] at c0
  rw [← j2] at cn
  have HRb2 := HRb
  generalize hz1 : H (-40000) = z1 at *
  generalize hz2 : H 40000 = z2 at *
  have HS : Hid (∀ W, Lo w1 W → FlatAt B b2 off2 (off2 + n) (.slice pu n cu) (.slice (some ⟨b2, off2, none⟩) (n + 1) cv) z1 z2 w1 W) := Lib.hid (fun W lo => ⟨(lo.cell hB).trans d0, (lo.cell hB).trans d1, (lo.cell hb2).trans c0, (lo.cell hb2).trans cn, Lib.hid lo⟩)
  have C1 : Hid (∀ h W, FlatAt B b2 off2 (off2 + n) (.slice pu n cu) (.slice (some ⟨b2, off2, none⟩) (n + 1) cv) z1 z2 w1 W → Calls Try.prog 20 #[.agg #[.slice pu n cu, .slice (some ⟨b2, off2, none⟩) (n + 1) cv], .int .i64 h] W fun e w' => e = .returned (.int .i64 (H h)) ∧ FlatAt B b2 off2 (off2 + n) (.slice pu n cu) (.slice (some ⟨b2, off2, none⟩) (n + 1) cv) z1 z2 w1 w') := Lib.hid (fun h W hW => (HA.out h W (HRa.out.lo hW.2.2.2.2.out) (HRb.out.lo hW.2.2.2.2.out)).mono fun e w' hh => ⟨hh.1, HS.out w' (hW.2.2.2.2.out.trans hh.2)⟩)
  have HLw := Lib.hid HL.out
  have hn0 : (0 : Int) ≤ (n : Int) := by omega
  have hn1 : (n : Int) < (n : Int) + 1 := by omega
  have hn2 : (n : Int) < ((n + 1 : Nat) : Int) := by omega
  clear HL j1 j2 HRb2
  go_wp2_with fail
  clear d0 d1 c0 cn
  go_region_held3 (fun W => FlatAt B b2 off2 (off2 + n) (.slice pu n cu) (.slice (some ⟨b2, off2, none⟩) (n + 1) cv) z1 z2 w1 W) (first | assumption | exact HS.out _ (Lo.drew (Lo.refl _)))
    (first | (go_at_call 20; refine (C1.out _ _ (by assumption)).mono ?_; rintro e wA ⟨rfl, hSA⟩))
  have HLB := Lib.hid (hSA.2.2.2.2.out)
  have HXB := Lib.hid (lo_block HLB.out HX.out)
  have HRaB := Lib.hid (HRa.out.lo HLB.out)
  have HRbB := Lib.hid (HRb.out.lo HLB.out)
  clear hSA HS C1 hB hb2 HX
  obtain ⟨d0, d1⟩ := two_cells HXB.out
  by_cases p1 : i < 0
  · skip
    go_wp2_with fail
    refine (HD.out _).mono ?_
    rintro e w2 ⟨rfl, lo⟩
    have HL2 := Lib.hid (HLw.out.trans (HLB.out.trans lo))
    clear lo
    go_wp2_with fail
    go_ret
    exact ⟨rfl, HL2.out⟩
  by_cases p2 : (n : Int) ≤ i
  · skip
    go_wp2_with fail
    refine (HD.out _).mono ?_
    rintro e w2 ⟨rfl, lo⟩
    have HL2 := Lib.hid (HLw.out.trans (HLB.out.trans lo))
    clear lo
    go_wp2_with fail
    go_ret
    exact ⟨rfl, HL2.out⟩
  by_cases p3 : more < 0
  · skip
    go_wp2_with fail
    refine (HD.out _).mono ?_
    rintro e w2 ⟨rfl, lo⟩
    have HL2 := Lib.hid (HLw.out.trans (HLB.out.trans lo))
    clear lo
    go_wp2_with fail
    go_ret
    exact ⟨rfl, HL2.out⟩
  by_cases p4 : 70000 < more
  · skip
    go_wp2_with fail
    refine (HD.out _).mono ?_
    rintro e w2 ⟨rfl, lo⟩
    have HL2 := Lib.hid (HLw.out.trans (HLB.out.trans lo))
    clear lo
    go_wp2_with fail
    go_ret
    exact ⟨rfl, HL2.out⟩
  obtain ⟨k, rfl⟩ := Int.eq_ofNat_of_zero_le (show 0 ≤ i by omega)
  have hkn : k < n := by omega
  obtain ⟨b1, off1, rfl, ck⟩ := HRaB.out.at_ (k := k) hkn
  obtain ⟨b3, off3, he, c3⟩ := HRbB.out.at_ (k := k) (by omega)
  simp only [Option.some.injEq, Addr.mk.injEq, and_true] at he
  obtain ⟨rfl, rfl⟩ := he
  obtain ⟨b3, off3, he, c4⟩ := HRbB.out.at_ (k := k + 1) (by omega)
  simp only [Option.some.injEq, Addr.mk.injEq, and_true] at he
  obtain ⟨rfl, rfl⟩ := he
  obtain ⟨t1, t2⟩ := HFt.out k hkn
  have hz3 := HF4.out k hkn
  have HF5k := Lib.hid (fun v => HF5.out k v hkn)
  have hB := World.block_lt_of_cell? _ _ d0
  have hb2 := World.block_lt_of_cell? _ _ c3
  have hk0 : (0 : Int) ≤ (k : Int) := by omega
  have hk1 : (k : Int) < (n : Int) := by omega
  have hk2 : (k : Int) < (n : Int) + 1 := by omega
  have hk3 : (k : Int) + 1 < (n : Int) + 1 := by omega
  have hk4 : (0 : Int) ≤ (k : Int) + 1 := by omega
  have hkw : IntKind.i64.wrap ((k : Int) + 1) = (k : Int) + 1 := IntWalk.i64_in _ (by omega)
  have hkt : ((k : Int) + 1).toNat = k + 1 := by omega
  clear HFt HF4 HF5 hz1 hz2
  generalize hh : a.getD k 0 = h at *
  generalize hz : b.getD k 0 = z at *
  generalize hy : b.getD (k + 1) 0 = y at *
  clear hz hy
  have hw1 : IntKind.i64.wrap (h - 1) = h - 1 := IntWalk.i64_in _ (by omega)
  have hw2 : IntKind.i64.wrap (h + more) = h + more := IntWalk.i64_in _ (by omega)
  have HS : Hid (∀ W, Lo wA W → FlatAt B b2 (off2 + k) (off2 + (k + 1)) (.slice (some ⟨b1, off1, none⟩) n cu) (.slice (some ⟨b2, off2, none⟩) (n + 1) cv) z y wA W) := Lib.hid (fun W lo => ⟨(lo.cell hB).trans d0, (lo.cell hB).trans d1, (lo.cell hb2).trans c3, (lo.cell hb2).trans c4, Lib.hid lo⟩)
  have C1 : Hid (∀ h W, FlatAt B b2 (off2 + k) (off2 + (k + 1)) (.slice (some ⟨b1, off1, none⟩) n cu) (.slice (some ⟨b2, off2, none⟩) (n + 1) cv) z y wA W → Calls Try.prog 20 #[.agg #[.slice (some ⟨b1, off1, none⟩) n cu, .slice (some ⟨b2, off2, none⟩) (n + 1) cv], .int .i64 h] W fun e w' => e = .returned (.int .i64 (H h)) ∧ FlatAt B b2 (off2 + k) (off2 + (k + 1)) (.slice (some ⟨b1, off1, none⟩) n cu) (.slice (some ⟨b2, off2, none⟩) (n + 1) cv) z y wA w') := Lib.hid (fun h W hW => (HA.out h W (HRaB.out.lo hW.2.2.2.2.out) (HRbB.out.lo hW.2.2.2.2.out)).mono fun e w' hh => ⟨hh.1, HS.out w' (hW.2.2.2.2.out.trans hh.2)⟩)
  go_wp2_with fail
  clear d0 d1 ck c3 c4
  go_region_held3 (fun W => FlatAt B b2 (off2 + k) (off2 + (k + 1)) (.slice (some ⟨b1, off1, none⟩) n cu) (.slice (some ⟨b2, off2, none⟩) (n + 1) cv) z y wA W) (first | assumption | exact HS.out _ (Lo.drew (Lo.refl _)))
    (first | (go_at_call 20; refine (C1.out _ _ (by assumption)).mono ?_; rintro e wB ⟨rfl, hSB⟩))
  have HLC := Lib.hid (hSB.2.2.2.2.out)
  clear hSB
  obtain ⟨d0, d1⟩ := two_cells (lo_block HLC.out HXB.out)
  have C2 : Hid (∀ W, FlatAt B b2 (off2 + k) (off2 + (k + 1)) (.slice (some ⟨b1, off1, none⟩) n cu) (.slice (some ⟨b2, off2, none⟩) (n + 1) cv) z y wA W → Calls Try.prog 14 #[] W fun e w' => e = .returned (.bool true) ∧ FlatAt B b2 (off2 + k) (off2 + (k + 1)) (.slice (some ⟨b1, off1, none⟩) n cu) (.slice (some ⟨b2, off2, none⟩) (n + 1) cv) z y wA w') := Lib.hid (fun W hW => (HD.out W).mono fun e w' hh => ⟨hh.1, HS.out w' (hW.2.2.2.2.out.trans hh.2)⟩)
  by_cases hL : k + 1 < n
  · obtain ⟨b3, off3, he, c5⟩ := (HRaB.out.lo HLC.out).at_ (k := k + 1) hL
    simp only [Option.some.injEq, Addr.mk.injEq, and_true] at he
    obtain ⟨rfl, rfl⟩ := he
    have hL2 : (k : Int) + 1 < (n : Int) := by omega
    by_cases hm : a.getD (k + 1) 0 ≤ h + more
    · generalize a.getD (k + 1) 0 = h2 at *
      go_wp2_with fail
      refine (HD.out _).mono ?_
      rintro e w2 ⟨rfl, lo⟩
      have HL2 := Lib.hid ((HLw.out.trans HLB.out).trans (HLC.out.trans lo))
      clear lo
      go_wp2_with fail
      go_ret
      exact ⟨rfl, HL2.out⟩
    · have HYY := HF5k.out (h + more) (by omega) (fun _ => by omega)
      clear HF5k
      generalize a.getD (k + 1) 0 = h2 at *
      have HY := Lib.hid HYY
      go_wp2_with fail
      have hyy := HY.out
      clear d0 d1
      go_region_held3 (fun W => FlatAt B b2 (off2 + k) (off2 + (k + 1)) (.slice (some ⟨b1, off1, none⟩) n cu) (.slice (some ⟨b2, off2, none⟩) (n + 1) cv) z y wA W) (first | assumption | exact HS.out _ (Lo.drew HLC.out))
        (first
          | (go_at_call 14; refine (C2.out _ (by assumption)).mono ?_; rintro e wC ⟨rfl, hSC⟩)
          | (go_at_call 20; refine (C1.out _ _ (by assumption)).mono ?_; rintro e wC ⟨rfl, hSC⟩))
      have HLD := Lib.hid (hSC.2.2.2.2.out)
      clear hSC
      go_wp2_with fail
      go_ret
      exact ⟨ret_bool (by simp), (HLw.out.trans HLB.out).trans HLD.out⟩
  · have HYY := HF5k.out (h + more) (by omega) (fun hh => absurd hh hL)
    have hL2 : ¬ (k : Int) + 1 < (n : Int) := by omega
    clear HF5k
    have HY := Lib.hid HYY
    go_wp2_with fail
    have hyy := HY.out
    clear d0 d1
    go_region_held3 (fun W => FlatAt B b2 (off2 + k) (off2 + (k + 1)) (.slice (some ⟨b1, off1, none⟩) n cu) (.slice (some ⟨b2, off2, none⟩) (n + 1) cv) z y wA W) (first | assumption | exact HS.out _ (Lo.drew HLC.out))
      (first
        | (go_at_call 14; refine (C2.out _ (by assumption)).mono ?_; rintro e wC ⟨rfl, hSC⟩)
        | (go_at_call 20; refine (C1.out _ _ (by assumption)).mono ?_; rintro e wC ⟨rfl, hSC⟩))
    have HLD := Lib.hid (hSC.2.2.2.2.out)
    clear hSC
    go_wp2_with fail
    go_ret
    exact ⟨ret_bool (by simp), (HLw.out.trans HLB.out).trans HLD.out⟩

theorem cutinFlat_walk (u v : Value) (x : Cu.Stair) (i more : Int) (w : World) (h1 : Row w u x.1) (h2 : Row w v x.2) (_ : (Lit.int .i64 i).wf = true) (_ : (Lit.int .i64 more).wf = true) :
    Calls Try.prog 7 #[.agg #[u, v], .int .i64 i, .int .i64 more] w fun e w' => e = .returned (.bool true) ∧ Lo w w' := by
  by_cases h : 80 < x.1.length ∨ 80 < x.2.length ∨ Cu.isS x = false
  · exact flat_out u v x i more w h1 h2 h
  · have hs : Cu.isS x = true := by
      cases hh : Cu.isS x with
      | true => rfl
      | false => exact absurd (.inr (.inr hh)) h
    by_cases hk : x.2 = []
    · exact flat_none u v x i more w h1 h2 (by omega) hs hk
    · exact flat_in u v x i more w h1 h2 hs hk
end Go.Proofs.Ytcnmfgdeanbhoaa
/-
  Arguments that are slices of slices, opened: a slice whose elements open each reads by a relation. Nothing of the program but the type int. No conditions beyond those stated.
-/
namespace Go.Proofs.Ytcnmfgdeanbhoaa
open Go.RowKit Go.ChangeShapes Go.WideShapes Go.Deep
variable {α : Type}

theorem list_made (P : Nat → α → Prop) : ∀ (n : Nat), (∀ i, i < n → ∃ x, P i x) → ∃ l : List α, l.length = n ∧ ∀ i x, l[i]? = some x → P i x
  | 0, _ => ⟨[], rfl, by simp⟩
  | n + 1, h => by
    obtain ⟨l, hl, hp⟩ := list_made P n fun i hi => h i (by omega)
    obtain ⟨x, hx⟩ := h n (by omega)
    refine ⟨l ++ [x], by simp [hl], fun i y hy => ?_⟩
    rcases Nat.lt_or_ge i l.length with hlt | hge
    · rw [List.getElem?_append_left hlt] at hy; exact hp i y hy
    · rw [List.getElem?_append_right hge] at hy
      have : i - l.length < 1 := (List.getElem?_eq_some_iff.1 hy).1
      have hi : i = n := by omega
      rw [show i - l.length = 0 by omega] at hy
      simp at hy
      subst hy
      rw [hi]; exact hx
theorem add_plainR (b off i : Nat) : (⟨b, off, none⟩ : Addr).add i = ⟨b, off + i, none⟩ := by unfold Addr.add; split <;> simp_all

variable {H : Type} {enc : TypeId × Value → H} {W : World} {R : World → List Value → α → Prop}
/-- A slice whose elements open. -/
theorem open_rowR {t e k fuel : Nat} {cs : List Value} {x : DataW H × List MemPlace} (hu : Try.prog.underlying t = some (.slice e)) (hc : Try.prog.cellsOf e = k) (hk : 0 < k)
    (each : ∀ (f : Nat) (cs' : List Value) (y : DataW H × List MemPlace), cs'.length = k → DataW.trod enc Try.prog W 0 (fun _ => true) true f e cs' = some y → ∃ a : α, R W cs' a)
    (h : DataW.trod enc Try.prog W 0 (fun _ => true) true fuel t cs = some x) : ∃ (v : Value) (l : List α), cs = [v] ∧ RowR R k W v l := by
  rcases open_slice hu h with ⟨rfl, _⟩ | ⟨a, len, cap, m, n, D, Pl, rfl, _, hl, hm, hmm, _, hi⟩
  · exact ⟨_, [], rfl, RowR.nil _ _ _⟩
  · simp only [if_true] at hmm
    subst hmm
    by_cases h0 : len = 0
    · subst h0; exact ⟨_, [], rfl, .inl ⟨_, _, rfl, fun h => (by cases h), rfl⟩⟩
    · obtain ⟨b, off, spot⟩ := a
      rw [hc] at hi
      have get : ∀ i, i < m → ∃ y : α, ∃ cs' : List Value, cs'.length = k ∧ R W cs' y ∧ ∀ j, j < k → W.cell? ((⟨b, off, spot⟩ : Addr).add (i * k + j)) = cs'[j]? := by
        intro i him
        obtain ⟨cs', h1, h2⟩ := hi i him
        obtain ⟨_, hlen, hcell⟩ := World.cells?_some h1
        obtain ⟨y, hy⟩ := each n cs' _ hlen h2
        refine ⟨y, cs', hlen, hy, fun j hj => ?_⟩
        have q := hcell j hj
        rwa [add_add] at q
      have hspot : spot = none := by
        obtain ⟨_, cs', hlen, _, hy⟩ := get 0 (by omega)
        have q := hy 0 hk
        rw [List.getElem?_eq_getElem (by omega)] at q
        have q2 := World.cell?_spot q
        simpa [Addr.add] using q2
      subst hspot
      obtain ⟨l, hll, hlp⟩ := list_made (fun i y => ∃ cs' : List Value, cs'.length = k ∧ R W cs' y ∧ ∀ j, j < k → W.cell? ((⟨b, off, none⟩ : Addr).add (i * k + j)) = cs'[j]?) len (fun i hil => get i (by omega))
      refine ⟨_, l, rfl, .inr ⟨b, off, m, by rw [hll], by unfold maxLen at hm; omega, by omega, ?_, ?_⟩⟩
      · have hx : l[0]? = some l[0] := List.getElem?_eq_getElem (by omega)
        obtain ⟨cs', hlen, _, hy⟩ := hlp 0 _ hx
        have q := hy 0 hk
        rw [add_plainR, List.getElem?_eq_getElem (by omega)] at q
        exact World.block_lt_of_cell? W _ q
      · intro i y hy
        obtain ⟨cs', hlen, hR, hcell⟩ := hlp i y hy
        refine ⟨cs', hlen, hR, fun j hj => ?_⟩
        have q := hcell j hj
        rw [add_plainR, ← Nat.add_assoc] at q
        exact q
/-- A slice of ints. -/
theorem open_rowI {t e fuel : Nat} {cs : List Value} {x : DataW H × List MemPlace} (hu : Try.prog.underlying t = some (.slice e)) (he : Try.prog.underlying e = some (.int .i64)) (hc : Try.prog.cellsOf e = 1)
    (h : DataW.trod enc Try.prog W 0 (fun _ => true) true fuel t cs = some x) : ∃ (v : Value) (l : List Int), cs = [v] ∧ Row W v l := by
  obtain ⟨v, l, rfl, hr⟩ := open_rowR (R := fun _ cs (z : Int) => cs = [.int .i64 z]) hu hc (by omega) (fun f cs' y _ hy => by
    obtain ⟨n, hn, _⟩ := DataW.trod_int he hy
    exact ⟨n, hn⟩) h
  refine ⟨v, l, rfl, ?_⟩
  rcases hr with h | ⟨b, off, cap, rfl, h2, h2b, h3, h4⟩
  · exact .inl h
  · refine .inr ⟨b, off, cap, rfl, h2, h2b, h3, fun i hi => ?_⟩
    obtain ⟨cs, _, rfl, q⟩ := h4 i l[i] (List.getElem?_eq_getElem hi)
    have := q 0 (by omega)
    rw [Nat.mul_one, Nat.add_zero] at this
    rw [this]
    simp [List.getD, hi]
/-- An argument: its one cell is itself. -/
theorem open_argR {t : Nat} {v : Value} {d : DataW H} {p : List MemPlace} {P : List Value → Prop} (hcs : v.cells = #[v]) (h : DataW.Trod enc Try.prog W 0 (fun _ => true) true t v d p)
    (each : ∀ (f : Nat) (cs' : List Value) (y : DataW H × List MemPlace), DataW.trod enc Try.prog W 0 (fun _ => true) true f t cs' = some y → P cs') : P [v] := by
  obtain ⟨fuel, hf⟩ := h
  have := each fuel _ _ hf
  rw [hcs] at this
  exact this
end Go.Proofs.Ytcnmfgdeanbhoaa
