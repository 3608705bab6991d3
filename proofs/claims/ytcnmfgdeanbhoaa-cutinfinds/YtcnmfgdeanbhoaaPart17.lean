/-
  Facts that the walks rest on: CuTold, CuLawFinds, GkOpenR. No conditions beyond those stated.
-/
import Derived.Test.YtcnmfgdeanbhoaaPart10
import Derived.Test.YtcnmfgdeanbhoaaPart14
import Derived.Test.YtcnmfgdeanbhoaaPart16
import Derived.Deep.RegionHeld3
import Derived.Test.YtcnmfgdeanbhoaaPart01
import Derived.Deep.Slices
import Derived.Deep.Fields
import Derived.OpenShut
/-
  The contract of the law's closed rows of layer 15. No conditions beyond those stated.
-/
namespace Go.Proofs.Ytcnmfgdeanbhoaa
open Go.RowKit

def cuX : Cu.Stair := ([100], [-5, 7])
def cuL : List Cu.Kern := [(3, [([], []), cuX, ([], []), ([], [])])]
def cuS : List UInt8 := [0, 12, 0, 1, 0, 0, 0, 18, 0, 0, 0, 0, 0, 1, 0, 1, 0, 3, 0, 1, 0, 100, 0, 0, 255, 251, 0, 0, 0, 7, 0, 0]
def cuT : List UInt8 := [0, 12, 0, 1, 0, 0, 0, 18, 0, 0, 0, 0, 0, 1, 0, 1, 0, 3, 0, 1, 0, 100, 0, 0, 255, 251, 0, 0, 0, 7, 0]
theorem cu_put : Cu.put cuL = (cuS, 0) := by kernel_rfl
theorem cu_get : Cu.get (121 :: cuS) 1 = (cuL, 0) := by kernel_rfl
theorem cu_more : Cu.get cuT 0 = ([], 4) := by kernel_rfl
theorem cu_a : Cu.ht cuX 99 = -5 := by kernel_rfl
theorem cu_b : Cu.ht cuX 100 = 7 := by kernel_rfl
theorem cu_c : Cu.find cuL 3 1 100 = 7 := by kernel_rfl
theorem cu_d : Cu.find cuL 3 0 100 = 0 := by kernel_rfl
theorem cu_is : Cu.isS cuX = true := by kernel_rfl
theorem cu_right : Cu.isK cuL = true := by kernel_rfl
theorem cu_wrong : Cu.isK [Cu.zK] = false := by kernel_rfl

set_option maxHeartbeats 400000 in
theorem cufront_any (w : World) : Calls Try.prog 40 #[.string ⟨cuS.toArray⟩, .int .i64 31] w fun e w' => e = .returned (.string ⟨cuT.toArray⟩) ∧ w = w' := by
  have hs : (ByteArray.mk cuS.toArray).size = 32 := rfl
  have hx : (ByteArray.mk cuS.toArray).extract 0 31 = ⟨cuT.toArray⟩ := by
    have := Gk.extract_list cuS 0 31
    exact this
  generalize ByteArray.mk cuS.toArray = B at *
  generalize cuT.toArray = T at *
  go_enter Try.func40, Try.ntmps40
  go_wp2_with fail
  go_ret
  exact ⟨rfl, rfl⟩

theorem two_at {W : World} {B o : Nat} {a b : Value} (c0 : W.cell? ⟨B, o, none⟩ = some a) (c1 : W.cell? ⟨B, o + 1, none⟩ = some b) : ∀ j, j < 2 → W.cell? ⟨B, o + j, none⟩ = [a, b][j]?
  | 0, _ => c0
  | 1, _ => c1
  | j + 2, h => absurd h (by omega)
/-- The literal of four stairs, of which the second one has kerns. -/
theorem srow_lit (W : World) (B : Nat) (u v : Value) (x : Cu.Stair) (h : W.heap[B]? = some (.cells #[.slice none 0 0, .slice none 0 0, u, v, .slice none 0 0, .slice none 0 0, .slice none 0 0, .slice none 0 0] 35 (0, 0))) (h1 : Row W u x.1) (h2 : Row W v x.2) :
    SRowC W (.slice (some ⟨B, 0, none⟩) 4 4) [([], []), x, ([], []), ([], [])] := by
  refine .inr ⟨B, 0, 4, rfl, by simp, by simp, (by
    rcases Nat.lt_or_ge B W.heap.size with hlt | hge
    · exact hlt
    · rw [Array.getElem?_eq_none hge] at h; cases h), fun i y hy => ?_⟩
  have hn : Row W (.slice none 0 0) [] := .inl ⟨_, _, rfl, fun _ => rfl, rfl⟩
  match i, hy with
  | 0, hy => simp at hy; subst hy; exact ⟨[.slice none 0 0, .slice none 0 0], rfl, ⟨_, _, rfl, hn, hn⟩, two_at (o := 0) (block_cell h rfl) (block_cell h rfl)⟩
  | 1, hy => simp at hy; subst hy; exact ⟨[u, v], rfl, ⟨_, _, rfl, h1, h2⟩, two_at (o := 2) (block_cell h rfl) (block_cell h rfl)⟩
  | 2, hy => simp at hy; subst hy; exact ⟨[.slice none 0 0, .slice none 0 0], rfl, ⟨_, _, rfl, hn, hn⟩, two_at (o := 4) (block_cell h rfl) (block_cell h rfl)⟩
  | 3, hy => simp at hy; subst hy; exact ⟨[.slice none 0 0, .slice none 0 0], rfl, ⟨_, _, rfl, hn, hn⟩, two_at (o := 6) (block_cell h rfl) (block_cell h rfl)⟩
  | i + 4, hy => simp at hy
theorem krow_lit (W : World) (B : Nat) (u : Value) (x : Cu.Kern) (h : W.heap[B]? = some (.cells #[.int .i64 x.1, u] 42 (0, 0))) (h1 : SRowC W u x.2) : KRowC W (.slice (some ⟨B, 0, none⟩) 1 1) [x] := by
  refine .inr ⟨B, 0, 1, rfl, by simp, by simp, (by
    rcases Nat.lt_or_ge B W.heap.size with hlt | hge
    · exact hlt
    · rw [Array.getElem?_eq_none hge] at h; cases h), fun i y hy => ?_⟩
  match i, hy with
  | 0, hy => simp at hy; subst hy; exact ⟨[.int .i64 x.1, u], rfl, ⟨_, rfl, h1⟩, two_at (o := 0) (block_cell h rfl) (block_cell h rfl)⟩
  | i + 1, hy => simp at hy

theorem stepped_world (w : World) : Lo w (((((w.alloc (.cells #[.int .i64 100] 3)).alloc (.cells #[.int .i64 (-5), .int .i64 7] 3)).alloc (.cells #[.slice (some ⟨w.heap.size, 0, none⟩) 1 1, .slice (some ⟨w.heap.size + 1, 0, none⟩) 2 2] 35)).alloc (.cells #[.slice none 0 0, .slice none 0 0, .slice (some ⟨w.heap.size, 0, none⟩) 1 1, .slice (some ⟨w.heap.size + 1, 0, none⟩) 2 2, .slice none 0 0, .slice none 0 0, .slice none 0 0, .slice none 0 0] 35)).alloc (.cells #[.int .i64 3, .slice (some ⟨w.heap.size + 1 + 1 + 1, 0, none⟩) 4 4] 42)) ∧ Row (((((w.alloc (.cells #[.int .i64 100] 3)).alloc (.cells #[.int .i64 (-5), .int .i64 7] 3)).alloc (.cells #[.slice (some ⟨w.heap.size, 0, none⟩) 1 1, .slice (some ⟨w.heap.size + 1, 0, none⟩) 2 2] 35)).alloc (.cells #[.slice none 0 0, .slice none 0 0, .slice (some ⟨w.heap.size, 0, none⟩) 1 1, .slice (some ⟨w.heap.size + 1, 0, none⟩) 2 2, .slice none 0 0, .slice none 0 0, .slice none 0 0, .slice none 0 0] 35)).alloc (.cells #[.int .i64 3, .slice (some ⟨w.heap.size + 1 + 1 + 1, 0, none⟩) 4 4] 42)) (.slice (some ⟨w.heap.size, 0, none⟩) 1 1) [100] ∧ Row (((((w.alloc (.cells #[.int .i64 100] 3)).alloc (.cells #[.int .i64 (-5), .int .i64 7] 3)).alloc (.cells #[.slice (some ⟨w.heap.size, 0, none⟩) 1 1, .slice (some ⟨w.heap.size + 1, 0, none⟩) 2 2] 35)).alloc (.cells #[.slice none 0 0, .slice none 0 0, .slice (some ⟨w.heap.size, 0, none⟩) 1 1, .slice (some ⟨w.heap.size + 1, 0, none⟩) 2 2, .slice none 0 0, .slice none 0 0, .slice none 0 0, .slice none 0 0] 35)).alloc (.cells #[.int .i64 3, .slice (some ⟨w.heap.size + 1 + 1 + 1, 0, none⟩) 4 4] 42)) (.slice (some ⟨w.heap.size + 1, 0, none⟩) 2 2) [-5, 7] ∧
    (((((w.alloc (.cells #[.int .i64 100] 3)).alloc (.cells #[.int .i64 (-5), .int .i64 7] 3)).alloc (.cells #[.slice (some ⟨w.heap.size, 0, none⟩) 1 1, .slice (some ⟨w.heap.size + 1, 0, none⟩) 2 2] 35)).alloc (.cells #[.slice none 0 0, .slice none 0 0, .slice (some ⟨w.heap.size, 0, none⟩) 1 1, .slice (some ⟨w.heap.size + 1, 0, none⟩) 2 2, .slice none 0 0, .slice none 0 0, .slice none 0 0, .slice none 0 0] 35)).alloc (.cells #[.int .i64 3, .slice (some ⟨w.heap.size + 1 + 1 + 1, 0, none⟩) 4 4] 42)).heap[w.heap.size + 1 + 1]? = some (.cells #[.slice (some ⟨w.heap.size, 0, none⟩) 1 1, .slice (some ⟨w.heap.size + 1, 0, none⟩) 2 2] 35 (0, 0)) ∧ KRowC (((((w.alloc (.cells #[.int .i64 100] 3)).alloc (.cells #[.int .i64 (-5), .int .i64 7] 3)).alloc (.cells #[.slice (some ⟨w.heap.size, 0, none⟩) 1 1, .slice (some ⟨w.heap.size + 1, 0, none⟩) 2 2] 35)).alloc (.cells #[.slice none 0 0, .slice none 0 0, .slice (some ⟨w.heap.size, 0, none⟩) 1 1, .slice (some ⟨w.heap.size + 1, 0, none⟩) 2 2, .slice none 0 0, .slice none 0 0, .slice none 0 0, .slice none 0 0] 35)).alloc (.cells #[.int .i64 3, .slice (some ⟨w.heap.size + 1 + 1 + 1, 0, none⟩) 4 4] 42)) (.slice (some ⟨w.heap.size + 1 + 1 + 1 + 1, 0, none⟩) 1 1) cuL := by
  have h1 := row1 w w.heap.size rfl 100
  have l1 := (Lo.refl w).alloc (.cells #[.int .i64 100] 3)
  have e1 : (w.alloc (.cells #[.int .i64 100] 3)).heap.size = w.heap.size + 1 := by simp
  generalize w.alloc (.cells #[.int .i64 100] 3) = w1 at *
  have h2 := row2 w1 (w.heap.size + 1) e1.symm (-5) 7
  have l2 := (Lo.refl w1).alloc (.cells #[.int .i64 (-5), .int .i64 7] 3)
  have e2 : (w1.alloc (.cells #[.int .i64 (-5), .int .i64 7] 3)).heap.size = w.heap.size + 1 + 1 := by simp [e1]
  generalize w1.alloc (.cells #[.int .i64 (-5), .int .i64 7] 3) = w2 at *
  have h3 := new_block w2 (.cells #[.slice (some ⟨w.heap.size, 0, none⟩) 1 1, .slice (some ⟨w.heap.size + 1, 0, none⟩) 2 2] 35)
  have l3 := (Lo.refl w2).alloc (.cells #[.slice (some ⟨w.heap.size, 0, none⟩) 1 1, .slice (some ⟨w.heap.size + 1, 0, none⟩) 2 2] 35)
  have e3 : (w2.alloc (.cells #[.slice (some ⟨w.heap.size, 0, none⟩) 1 1, .slice (some ⟨w.heap.size + 1, 0, none⟩) 2 2] 35)).heap.size = w.heap.size + 1 + 1 + 1 := by simp [e2]
  rw [e2] at h3
  generalize w2.alloc (.cells #[.slice (some ⟨w.heap.size, 0, none⟩) 1 1, .slice (some ⟨w.heap.size + 1, 0, none⟩) 2 2] 35) = w3 at *
  have h4 := new_block w3 (.cells #[.slice none 0 0, .slice none 0 0, .slice (some ⟨w.heap.size, 0, none⟩) 1 1, .slice (some ⟨w.heap.size + 1, 0, none⟩) 2 2, .slice none 0 0, .slice none 0 0, .slice none 0 0, .slice none 0 0] 35)
  have l4 := (Lo.refl w3).alloc (.cells #[.slice none 0 0, .slice none 0 0, .slice (some ⟨w.heap.size, 0, none⟩) 1 1, .slice (some ⟨w.heap.size + 1, 0, none⟩) 2 2, .slice none 0 0, .slice none 0 0, .slice none 0 0, .slice none 0 0] 35)
  have e4 : (w3.alloc (.cells #[.slice none 0 0, .slice none 0 0, .slice (some ⟨w.heap.size, 0, none⟩) 1 1, .slice (some ⟨w.heap.size + 1, 0, none⟩) 2 2, .slice none 0 0, .slice none 0 0, .slice none 0 0, .slice none 0 0] 35)).heap.size = w.heap.size + 1 + 1 + 1 + 1 := by simp [e3]
  rw [e3] at h4
  generalize w3.alloc (.cells #[.slice none 0 0, .slice none 0 0, .slice (some ⟨w.heap.size, 0, none⟩) 1 1, .slice (some ⟨w.heap.size + 1, 0, none⟩) 2 2, .slice none 0 0, .slice none 0 0, .slice none 0 0, .slice none 0 0] 35) = w4 at *
  have h5 := new_block w4 (.cells #[.int .i64 3, .slice (some ⟨w.heap.size + 1 + 1 + 1, 0, none⟩) 4 4] 42)
  have l5 := (Lo.refl w4).alloc (.cells #[.int .i64 3, .slice (some ⟨w.heap.size + 1 + 1 + 1, 0, none⟩) 4 4] 42)
  rw [e4] at h5
  generalize w4.alloc (.cells #[.int .i64 3, .slice (some ⟨w.heap.size + 1 + 1 + 1, 0, none⟩) 4 4] 42) = w5 at *
  have l35 := l4.trans l5
  have l25 := l3.trans l35
  have r1 := (h1.lo l2).lo l25
  have r2 := h2.lo l25
  exact ⟨((l1.trans l2).trans l25), r1, r2, lo_block l35 h3, krow_lit _ _ _ (3, [([], []), cuX, ([], []), ([], [])]) h5 (srow_lit _ _ _ _ cuX (lo_block l5 h4) r1 r2)⟩

set_option maxRecDepth 100000 in
set_option maxHeartbeats 3200000 in
theorem stepped_any (w : World) : Calls Try.prog 14 #[] w fun e w' => e = .returned (.bool true) ∧ Lo w w' := by
  have HP := Lib.hid (fun (v : Value) (W : World) (h : KRowC W v cuL) => cuput_any v cuL W h (by decide))
  rw [cu_put] at HP
  have HG := Lib.hid (fun W => cuget_any (121 :: cuS) 1 W (by decide) (by omega))
  rw [cu_get] at HG
  have HG2 := Lib.hid (fun W => cuget_any cuT 0 W (by decide) (by omega))
  rw [cu_more] at HG2
  have HA := Lib.hid (fun (u v : Value) (W : World) (h : Row W u cuX.1) (h2 : Row W v cuX.2) => cuat_any u v cuX 99 W h h2)
  rw [cu_a] at HA
  have HB := Lib.hid (fun (u v : Value) (W : World) (h : Row W u cuX.1) (h2 : Row W v cuX.2) => cuat_any u v cuX 100 W h h2)
  rw [cu_b] at HB
  have HC := Lib.hid (fun (v : Value) (W : World) (h : KRowC W v cuL) => cufind_any v cuL 3 1 100 W h (by decide))
  rw [cu_c] at HC
  have HD := Lib.hid (fun (v : Value) (W : World) (h : KRowC W v cuL) => cufind_any v cuL 3 0 100 W h (by decide))
  rw [cu_d] at HD
  have HI := Lib.hid (fun (u v : Value) (W : World) (h : Row W u cuX.1) (h2 : Row W v cuX.2) => cuis_any u v cuX W h h2)
  rw [cu_is] at HI
  have HRt := Lib.hid (fun (v : Value) (W : World) (h : KRowC W v cuL) => curight_any v cuL W h (by decide))
  rw [cu_right] at HRt
  have HWr := Lib.hid (fun (v : Value) (W : World) (h : KRowC W v [Cu.zK]) => curight_any v [Cu.zK] W h (by decide))
  rw [cu_wrong] at HWr
  have HS := Lib.hid (fun (v u : Value) (W : World) (h : KRowC W v cuL) (h2 : KRowC W u cuL) => samek_any cuL v u W h h2)
  have HFr := Lib.hid (fun W => cufront_any W)
  unfold strErr at HP
  unfold GotKerns at HG HG2
  rw [show (cuL, (0 : Int)).1.length = 1 from rfl] at HG
  have hs : (ByteArray.mk cuS.toArray).size = 32 := rfl
  have hadd : ∀ W, (Op.stringOp .add ⟨#[121]⟩ ⟨cuS.toArray⟩).run Try.prog W = .ok (.string ⟨(121 :: cuS).toArray⟩) W := fun W => by
    have := run_string_add_sum (P := Try.prog) W ⟨([121] : List UInt8).toArray⟩ ⟨cuS.toArray⟩ (by decide)
    rw [Gk.cat_list] at this
    exact this
  dsimp only at HP HG HG2
  generalize (121 :: cuS).toArray = S1 at *
  generalize cuS.toArray = S0 at *
  generalize cuT.toArray = T at *
  go_enter Try.func14, Try.ntmps14
  go_wp2_with fail
  obtain ⟨k1, k2, k3, k4, k5⟩ := stepped_world w
  generalize (((((w.alloc (.cells #[.int .i64 100] 3)).alloc (.cells #[.int .i64 (-5), .int .i64 7] 3)).alloc (.cells #[.slice (some ⟨w.heap.size, 0, none⟩) 1 1, .slice (some ⟨w.heap.size + 1, 0, none⟩) 2 2] 35)).alloc (.cells #[.slice none 0 0, .slice none 0 0, .slice (some ⟨w.heap.size, 0, none⟩) 1 1, .slice (some ⟨w.heap.size + 1, 0, none⟩) 2 2, .slice none 0 0, .slice none 0 0, .slice none 0 0, .slice none 0 0] 35)).alloc (.cells #[.int .i64 3, .slice (some ⟨w.heap.size + 1 + 1 + 1, 0, none⟩) 4 4] 42)) = W0 at *
  have HL := Lib.hid k1
  have HR1 := Lib.hid k2
  have HR2 := Lib.hid k3
  have HX := Lib.hid k4
  have HR := Lib.hid k5
  clear k1 k2 k3 k4 k5
  refine (HP.out _ _ HR.out).mono ?_
  rintro e w1 ⟨rfl, lo⟩
  have HW := Lib.hid lo
  clear lo HP
  go_wp2_with fail
  refine (HG.out _).mono ?_
  rintro e w2 ⟨p, c, rfl, hrow, lo⟩
  have HW2 := Lib.hid (HW.out.trans lo)
  have HM := Lib.hid hrow
  clear lo hrow HG HW
  go_wp2_with fail
  refine (HFr.out _).mono ?_
  rintro e w3 ⟨rfl, rfl⟩
  go_wp2_with fail
  refine (HG2.out _).mono ?_
  rintro e w4 ⟨p4, c4, rfl, _, lo⟩
  have HW4 := Lib.hid (HW2.out.trans lo)
  have HM4 := Lib.hid (KRowC.lo HM.out lo)
  clear lo HM HG2 HW2
  go_wp2_with fail
  refine (HS.out _ _ _ (KRowC.lo HR.out HW4.out) HM4.out).mono ?_
  rintro e w5 ⟨rfl, lo⟩
  have HW5 := Lib.hid (HW4.out.trans lo)
  clear lo HM4 HS HW4
  obtain ⟨d0, d1⟩ := two_cells (lo_block HW5.out HX.out)
  go_wp2_with fail
  refine (HA.out _ _ _ (HR1.out.lo HW5.out) (HR2.out.lo HW5.out)).mono ?_
  rintro e w6 ⟨rfl, lo⟩
  have HW6 := Lib.hid (HW5.out.trans lo)
  clear lo HA HW5 d0 d1
  obtain ⟨d0, d1⟩ := two_cells (lo_block HW6.out HX.out)
  go_wp2_with fail
  refine (HB.out _ _ _ (HR1.out.lo HW6.out) (HR2.out.lo HW6.out)).mono ?_
  rintro e w7 ⟨rfl, lo⟩
  have HW7 := Lib.hid (HW6.out.trans lo)
  clear lo HB HW6 d0 d1
  go_wp2_with fail
  refine (HC.out _ _ (KRowC.lo HR.out HW7.out)).mono ?_
  rintro e w8 ⟨rfl, lo⟩
  have HW8 := Lib.hid (HW7.out.trans lo)
  clear lo HC HW7
  go_wp2_with fail
  refine (HD.out _ _ (KRowC.lo HR.out HW8.out)).mono ?_
  rintro e w9 ⟨rfl, lo⟩
  have HW9 := Lib.hid (HW8.out.trans lo)
  clear lo HD HW8
  obtain ⟨d0, d1⟩ := two_cells (lo_block HW9.out HX.out)
  go_wp2_with fail
  refine (HI.out _ _ _ (HR1.out.lo HW9.out) (HR2.out.lo HW9.out)).mono ?_
  rintro e w10 ⟨rfl, lo⟩
  have HW10 := Lib.hid (HW9.out.trans lo)
  clear lo HI HW9 d0 d1
  go_wp2_with fail
  refine (HRt.out _ _ (KRowC.lo HR.out HW10.out)).mono ?_
  rintro e w11 ⟨rfl, lo⟩
  have HW11 := Lib.hid (HW10.out.trans lo)
  clear lo HRt HW10
  go_wp2_with fail
  refine (HWr.out _ _ (krow_lit _ _ _ Cu.zK (new_block w11 _) (.inl ⟨_, _, rfl, fun _ => rfl, rfl⟩))).mono ?_
  rintro e w12 ⟨rfl, lo⟩
  have HW12 := Lib.hid (HW11.out.trans (((Lo.refl _).alloc _).trans lo))
  clear lo HWr HW11
  go_wp2_with fail
  go_ret
  exact ⟨rfl, HL.out.trans HW12.out⟩
end Go.Proofs.Ytcnmfgdeanbhoaa
/-
  The walk of the law CutinFinds. No conditions beyond those stated.
-/
namespace Go.Proofs.Ytcnmfgdeanbhoaa
open Go.RowKit

/-- The class of worlds that the drawn region walks: the stair's two slices in their block. -/
abbrev BoxAt (B : Nat) (u v : Value) (w0 W : World) : Prop := W.cell? ⟨B, 0, none⟩ = some u ∧ W.cell? ⟨B, 1, none⟩ = some v ∧ Hid (Lo w0 W)

set_option maxHeartbeats 800000 in
theorem finds_far (u v s : Value) (x : Cu.Stair) (l : List Cu.Kern) (g c h : Int) (w : World) (h1 : Row w u x.1) (h2 : Row w v x.2) (hr : KRowC w s l) (hc : 80 < x.1.length ∨ 80 < x.2.length ∨ Cu.few l = false) :
    Calls Try.prog 4 #[.agg #[u, v], s, .int .i64 g, .int .i64 c, .int .i64 h] w fun e w' => e = .returned (.bool true) ∧ Lo w w' := by
  have HF := Lib.hid (fun W (k : KRowC W s l) => rcufew_any s l W k)
  obtain ⟨pu, cu, rfl, _⟩ := h1.form
  obtain ⟨pv, cv, rfl, _⟩ := h2.form
  obtain ⟨p, cp, rfl, _⟩ := RowR.form hr
  have HR := Lib.hid hr
  by_cases c1 : 80 < x.1.length
  · clear hc h1 h2 hr HF HR
    generalize x.1.length = n at *
    generalize x.2.length = m at *
    have q1 : (80 : Int) < (n : Int) := by omega
    go_enter Try.func4, Try.ntmps4
    go_wp2_with fail
    go_ret
    exact ⟨rfl, (Lo.refl w).alloc _⟩
  · by_cases c2 : 80 < x.2.length
    · clear hc h1 h2 hr HF HR
      generalize x.1.length = n at *
      generalize x.2.length = m at *
      have q1 : ¬ (80 : Int) < (n : Int) := by omega
      have q2 : (80 : Int) < (m : Int) := by omega
      go_enter Try.func4, Try.ntmps4
      go_wp2_with fail
      go_ret
      exact ⟨rfl, (Lo.refl w).alloc _⟩
    · have hs : Cu.few l = false := by
        rcases hc with h | h | h
        · exact absurd h c1
        · exact absurd h c2
        · exact h
      rw [hs] at HF
      clear hc h1 h2 hr hs
      generalize x.1.length = n at *
      generalize x.2.length = m at *
      have q1 : ¬ (80 : Int) < (n : Int) := by omega
      have q2 : ¬ (80 : Int) < (m : Int) := by omega
      go_enter Try.func4, Try.ntmps4
      go_wp2_with fail
      refine (HF.out _ (KRowC.lo HR.out ((Lo.refl _).alloc _))).mono ?_
      rintro e w1 ⟨rfl, lo⟩
      have HL := Lib.hid (((Lo.refl w).alloc _).trans lo)
      clear lo
      go_wp2_with fail
      go_ret
      exact ⟨rfl, HL.out⟩

set_option maxRecDepth 100000 in
set_option maxHeartbeats 6400000 in
theorem finds_ok (u v s : Value) (x : Cu.Stair) (l : List Cu.Kern) (g c h : Int) (w : World) (h1 : Row w u x.1) (h2 : Row w v x.2) (hr : KRowC w s l) (hn : x.1.length ≤ 80) (hm : x.2.length ≤ 80) (hf : Cu.few l = true) :
    Calls Try.prog 4 #[.agg #[u, v], s, .int .i64 g, .int .i64 c, .int .i64 h] w fun e w' => e = .returned (.bool true) ∧ Lo w w' := by
  have hl := (Cu.few_has hf).1
  have HF := Lib.hid (fun W (k : KRowC W s l) => rcufew_any s l W k)
  rw [hf] at HF
  have A1 := Lib.hid (fun W => stepped_any W)
  have A2 := Lib.hid (fun W (a : Row W u x.1) (b : Row W v x.2) => cuis_any u v x W a b)
  have A3 := Lib.hid (fun W (a : Row W u x.1) (b : Row W v x.2) => rcuis_any u v x W a b)
  have A4 := Lib.hid (fun W (a : Row W u x.1) (b : Row W v x.2) => cuat_any u v x h W a b)
  have A5 := Lib.hid (fun W (a : Row W u x.1) (b : Row W v x.2) => rcuat_any u v x h W a b)
  have A6 := Lib.hid (fun W (k : KRowC W s l) => cufind_any s l g c h W k (by omega))
  have A7 := Lib.hid (fun W (k : KRowC W s l) => rcufind_any s l g c h W k (by omega))
  obtain ⟨pu, cu, rfl, _⟩ := h1.form
  obtain ⟨pv, cv, rfl, _⟩ := h2.form
  obtain ⟨p, cp, rfl, _⟩ := RowR.form hr
  have HR1 := Lib.hid h1
  have HR2 := Lib.hid h2
  have HR := Lib.hid hr
  generalize Cu.isS x = y1 at *
  generalize Cu.ht x h = y2 at *
  generalize Cu.find l g c h = y3 at *
  clear h1 h2 hr hf hl
  generalize x.1.length = n at *
  generalize x.2.length = m at *
  generalize l.length = k at *
  have q1 : ¬ (80 : Int) < (n : Int) := by omega
  have q2 : ¬ (80 : Int) < (m : Int) := by omega
  go_enter Try.func4, Try.ntmps4
  go_wp2_with fail
  refine (HF.out _ (KRowC.lo HR.out ((Lo.refl _).alloc _))).mono ?_
  rintro e w1 ⟨rfl, lo⟩
  have HL := Lib.hid (((Lo.refl w).alloc _).trans lo)
  obtain ⟨d0, d1⟩ := two_cells (lo_block lo (new_block w _))
  have hB := World.block_lt_of_cell? _ _ d0
  clear lo HF
  generalize w.heap.size = B at *
  have HRa := Lib.hid (HR1.out.lo HL.out)
  have HRb := Lib.hid (HR2.out.lo HL.out)
  have HRc := Lib.hid (KRowC.lo HR.out HL.out)
  clear HR1 HR2 HR
  have HS : Hid (∀ W, Lo w1 W → BoxAt B (.slice pu n cu) (.slice pv m cv) w1 W) := Lib.hid (fun W lo => ⟨(lo.cell hB).trans d0, (lo.cell hB).trans d1, Lib.hid lo⟩)
  have C1 : Hid (∀ W, BoxAt B (.slice pu n cu) (.slice pv m cv) w1 W → Calls Try.prog 14 #[] W fun e w' => e = .returned (.bool true) ∧ BoxAt B (.slice pu n cu) (.slice pv m cv) w1 w') := Lib.hid (fun W hW => (A1.out W).mono fun e w' hh => ⟨hh.1, HS.out w' (hW.2.2.out.trans hh.2)⟩)
  have C2 : Hid (∀ W, BoxAt B (.slice pu n cu) (.slice pv m cv) w1 W → Calls Try.prog 18 #[.agg #[.slice pu n cu, .slice pv m cv]] W fun e w' => e = .returned (.bool y1) ∧ BoxAt B (.slice pu n cu) (.slice pv m cv) w1 w') := Lib.hid (fun W hW => (A2.out W (HRa.out.lo hW.2.2.out) (HRb.out.lo hW.2.2.out)).mono fun e w' hh => ⟨hh.1, HS.out w' (hW.2.2.out.trans hh.2)⟩)
  have C3 : Hid (∀ W, BoxAt B (.slice pu n cu) (.slice pv m cv) w1 W → Calls Try.prog 19 #[.agg #[.slice pu n cu, .slice pv m cv]] W fun e w' => e = .returned (.bool y1) ∧ BoxAt B (.slice pu n cu) (.slice pv m cv) w1 w') := Lib.hid (fun W hW => (A3.out W (HRa.out.lo hW.2.2.out) (HRb.out.lo hW.2.2.out)).mono fun e w' hh => ⟨hh.1, HS.out w' (hW.2.2.out.trans hh.2)⟩)
  have C4 : Hid (∀ W, BoxAt B (.slice pu n cu) (.slice pv m cv) w1 W → Calls Try.prog 20 #[.agg #[.slice pu n cu, .slice pv m cv], .int .i64 h] W fun e w' => e = .returned (.int .i64 y2) ∧ BoxAt B (.slice pu n cu) (.slice pv m cv) w1 w') := Lib.hid (fun W hW => (A4.out W (HRa.out.lo hW.2.2.out) (HRb.out.lo hW.2.2.out)).mono fun e w' hh => ⟨hh.1, HS.out w' (hW.2.2.out.trans hh.2)⟩)
  have C5 : Hid (∀ W, BoxAt B (.slice pu n cu) (.slice pv m cv) w1 W → Calls Try.prog 21 #[.agg #[.slice pu n cu, .slice pv m cv], .int .i64 h] W fun e w' => e = .returned (.int .i64 y2) ∧ BoxAt B (.slice pu n cu) (.slice pv m cv) w1 w') := Lib.hid (fun W hW => (A5.out W (HRa.out.lo hW.2.2.out) (HRb.out.lo hW.2.2.out)).mono fun e w' hh => ⟨hh.1, HS.out w' (hW.2.2.out.trans hh.2)⟩)
  have C6 : Hid (∀ W, BoxAt B (.slice pu n cu) (.slice pv m cv) w1 W → Calls Try.prog 22 #[.slice p k cp, .int .i64 g, .int .i64 c, .int .i64 h] W fun e w' => e = .returned (.int .i64 y3) ∧ BoxAt B (.slice pu n cu) (.slice pv m cv) w1 w') := Lib.hid (fun W hW => (A6.out W (KRowC.lo HRc.out hW.2.2.out)).mono fun e w' hh => ⟨hh.1, HS.out w' (hW.2.2.out.trans hh.2)⟩)
  have C7 : Hid (∀ W, BoxAt B (.slice pu n cu) (.slice pv m cv) w1 W → Calls Try.prog 23 #[.slice p k cp, .int .i64 g, .int .i64 c, .int .i64 h] W fun e w' => e = .returned (.int .i64 y3) ∧ BoxAt B (.slice pu n cu) (.slice pv m cv) w1 w') := Lib.hid (fun W hW => (A7.out W (KRowC.lo HRc.out hW.2.2.out)).mono fun e w' hh => ⟨hh.1, HS.out w' (hW.2.2.out.trans hh.2)⟩)
  clear A1 A2 A3 A4 A5 A6 A7
  go_wp2_with fail
  clear d0 d1
  go_region_held3 (fun W => BoxAt B (.slice pu n cu) (.slice pv m cv) w1 W) (first | assumption | exact HS.out _ (Lo.drew (Lo.refl _)))
    (first
      | (go_at_call 14; refine (C1.out _ (by assumption)).mono ?_; rintro e wA ⟨rfl, hSA⟩)
      | (go_at_call 18; refine (C2.out _ (by assumption)).mono ?_; rintro e wA ⟨rfl, hSA⟩)
      | (go_at_call 19; refine (C3.out _ (by assumption)).mono ?_; rintro e wA ⟨rfl, hSA⟩)
      | (go_at_call 20; refine (C4.out _ (by assumption)).mono ?_; rintro e wA ⟨rfl, hSA⟩)
      | (go_at_call 21; refine (C5.out _ (by assumption)).mono ?_; rintro e wA ⟨rfl, hSA⟩)
      | (go_at_call 22; refine (C6.out _ (by assumption)).mono ?_; rintro e wA ⟨rfl, hSA⟩)
      | (go_at_call 23; refine (C7.out _ (by assumption)).mono ?_; rintro e wA ⟨rfl, hSA⟩))
  have HLB := Lib.hid (hSA.2.2.out)
  clear hSA
  go_wp2_with fail
  go_ret
  exact ⟨ret_bool (by simp), HL.out.trans HLB.out⟩

theorem cutinFinds_walk (u v : Value) (x : Cu.Stair) (s : Value) (l : List Cu.Kern) (g c h : Int) (w : World) (h1 : Row w u x.1) (h2 : Row w v x.2) (hr : KRowC w s l) (_ : (Lit.int .i64 g).wf = true) (_ : (Lit.int .i64 c).wf = true) (_ : (Lit.int .i64 h).wf = true) :
    Calls Try.prog 4 #[.agg #[u, v], s, .int .i64 g, .int .i64 c, .int .i64 h] w fun e w' => e = .returned (.bool true) ∧ Below w.heap.size w w' := by
  by_cases hc : 80 < x.1.length ∨ 80 < x.2.length ∨ Cu.few l = false
  · exact finds_far u v s x l g c h w h1 h2 hr hc
  · exact finds_ok u v s x l g c h w h1 h2 hr (by omega) (by omega) (by
      cases hh : Cu.few l with
      | true => rfl
      | false => exact absurd (.inr (.inr hh)) hc)
end Go.Proofs.Ytcnmfgdeanbhoaa
/-
  Arguments that are slices of slices, opened: a slice whose elements open each reads by a relation. Nothing of the program but the type int. No conditions beyond those stated.
-/
namespace Go.Proofs.Ytcnmfgdeanbhoaa
open Go.RowKit Go.ChangeShapes Go.WideShapes Go.Deep
variable {α : Type}

theorem list_made (P : Nat → α → Prop) : ∀ (n : Nat), (∀ i, i < n → ∃ x, P i x) → ∃ l : List α, l.length = n ∧ ∀ i x, l[i]? = some x → P i x
  | 0, _ => ⟨[], rfl, by simp⟩
  | n + 1, h => by
    obtain ⟨l, hl, hp⟩ := list_made P n fun i hi => h i (by omega)
    obtain ⟨x, hx⟩ := h n (by omega)
    refine ⟨l ++ [x], by simp [hl], fun i y hy => ?_⟩
    rcases Nat.lt_or_ge i l.length with hlt | hge
    · rw [List.getElem?_append_left hlt] at hy; exact hp i y hy
    · rw [List.getElem?_append_right hge] at hy
      have : i - l.length < 1 := (List.getElem?_eq_some_iff.1 hy).1
      have hi : i = n := by omega
      rw [show i - l.length = 0 by omega] at hy
      simp at hy
      subst hy
      rw [hi]; exact hx
theorem add_plainR (b off i : Nat) : (⟨b, off, none⟩ : Addr).add i = ⟨b, off + i, none⟩ := by unfold Addr.add; split <;> simp_all

variable {H : Type} {enc : TypeId × Value → H} {W : World} {R : World → List Value → α → Prop}
/-- A slice whose elements open. -/
theorem open_rowR {t e k fuel : Nat} {cs : List Value} {x : DataW H × List MemPlace} (hu : Try.prog.underlying t = some (.slice e)) (hc : Try.prog.cellsOf e = k) (hk : 0 < k)
    (each : ∀ (f : Nat) (cs' : List Value) (y : DataW H × List MemPlace), cs'.length = k → DataW.trod enc Try.prog W 0 (fun _ => true) true f e cs' = some y → ∃ a : α, R W cs' a)
    (h : DataW.trod enc Try.prog W 0 (fun _ => true) true fuel t cs = some x) : ∃ (v : Value) (l : List α), cs = [v] ∧ RowR R k W v l := by
  rcases open_slice hu h with ⟨rfl, _⟩ | ⟨a, len, cap, m, n, D, Pl, rfl, _, hl, hm, hmm, _, hi⟩
  · exact ⟨_, [], rfl, RowR.nil _ _ _⟩
  · simp only [if_true] at hmm
    subst hmm
    by_cases h0 : len = 0
    · subst h0; exact ⟨_, [], rfl, .inl ⟨_, _, rfl, fun h => (by cases h), rfl⟩⟩
    · obtain ⟨b, off, spot⟩ := a
      rw [hc] at hi
      have get : ∀ i, i < m → ∃ y : α, ∃ cs' : List Value, cs'.length = k ∧ R W cs' y ∧ ∀ j, j < k → W.cell? ((⟨b, off, spot⟩ : Addr).add (i * k + j)) = cs'[j]? := by
        intro i him
        obtain ⟨cs', h1, h2⟩ := hi i him
        obtain ⟨_, hlen, hcell⟩ := World.cells?_some h1
        obtain ⟨y, hy⟩ := each n cs' _ hlen h2
        refine ⟨y, cs', hlen, hy, fun j hj => ?_⟩
        have q := hcell j hj
        rwa [add_add] at q
      have hspot : spot = none := by
        obtain ⟨_, cs', hlen, _, hy⟩ := get 0 (by omega)
        have q := hy 0 hk
        rw [List.getElem?_eq_getElem (by omega)] at q
        have q2 := World.cell?_spot q
        simpa [Addr.add] using q2
      subst hspot
      obtain ⟨l, hll, hlp⟩ := list_made (fun i y => ∃ cs' : List Value, cs'.length = k ∧ R W cs' y ∧ ∀ j, j < k → W.cell? ((⟨b, off, none⟩ : Addr).add (i * k + j)) = cs'[j]?) len (fun i hil => get i (by omega))
      refine ⟨_, l, rfl, .inr ⟨b, off, m, by rw [hll], by unfold maxLen at hm; omega, by omega, ?_, ?_⟩⟩
      · have hx : l[0]? = some l[0] := List.getElem?_eq_getElem (by omega)
        obtain ⟨cs', hlen, _, hy⟩ := hlp 0 _ hx
        have q := hy 0 hk
        rw [add_plainR, List.getElem?_eq_getElem (by omega)] at q
        exact World.block_lt_of_cell? W _ q
      · intro i y hy
        obtain ⟨cs', hlen, hR, hcell⟩ := hlp i y hy
        refine ⟨cs', hlen, hR, fun j hj => ?_⟩
        have q := hcell j hj
        rw [add_plainR, ← Nat.add_assoc] at q
        exact q
/-- A slice of ints. -/
theorem open_rowI {t e fuel : Nat} {cs : List Value} {x : DataW H × List MemPlace} (hu : Try.prog.underlying t = some (.slice e)) (he : Try.prog.underlying e = some (.int .i64)) (hc : Try.prog.cellsOf e = 1)
    (h : DataW.trod enc Try.prog W 0 (fun _ => true) true fuel t cs = some x) : ∃ (v : Value) (l : List Int), cs = [v] ∧ Row W v l := by
  obtain ⟨v, l, rfl, hr⟩ := open_rowR (R := fun _ cs (z : Int) => cs = [.int .i64 z]) hu hc (by omega) (fun f cs' y _ hy => by
    obtain ⟨n, hn, _⟩ := DataW.trod_int he hy
    exact ⟨n, hn⟩) h
  refine ⟨v, l, rfl, ?_⟩
  rcases hr with h | ⟨b, off, cap, rfl, h2, h2b, h3, h4⟩
  · exact .inl h
  · refine .inr ⟨b, off, cap, rfl, h2, h2b, h3, fun i hi => ?_⟩
    obtain ⟨cs, _, rfl, q⟩ := h4 i l[i] (List.getElem?_eq_getElem hi)
    have := q 0 (by omega)
    rw [Nat.mul_one, Nat.add_zero] at this
    rw [this]
    simp [List.getD, hi]
/-- An argument: its one cell is itself. -/
theorem open_argR {t : Nat} {v : Value} {d : DataW H} {p : List MemPlace} {P : List Value → Prop} (hcs : v.cells = #[v]) (h : DataW.Trod enc Try.prog W 0 (fun _ => true) true t v d p)
    (each : ∀ (f : Nat) (cs' : List Value) (y : DataW H × List MemPlace), DataW.trod enc Try.prog W 0 (fun _ => true) true f t cs' = some y → P cs') : P [v] := by
  obtain ⟨fuel, hf⟩ := h
  have := each fuel _ _ hf
  rw [hcs] at this
  exact this
end Go.Proofs.Ytcnmfgdeanbhoaa
