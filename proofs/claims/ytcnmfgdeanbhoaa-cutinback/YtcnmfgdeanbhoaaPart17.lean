/-
  Facts that the walks rest on: CuTold, CuLawOnly, CuLawBack. No conditions beyond those stated.
-/
import Derived.Test.YtcnmfgdeanbhoaaPart10
import Derived.Test.YtcnmfgdeanbhoaaPart14
import Derived.Test.YtcnmfgdeanbhoaaPart16
import Derived.Deep.RegionHeld3
import Derived.SizedLaws
/-
  The contract of the law's closed rows of layer 15. No conditions beyond those stated.
-/
namespace Go.Proofs.Ytcnmfgdeanbhoaa
open Go.RowKit

def cuX : Cu.Stair := ([100], [-5, 7])
def cuL : List Cu.Kern := [(3, [([], []), cuX, ([], []), ([], [])])]
def cuS : List UInt8 := [0, 12, 0, 1, 0, 0, 0, 18, 0, 0, 0, 0, 0, 1, 0, 1, 0, 3, 0, 1, 0, 100, 0, 0, 255, 251, 0, 0, 0, 7, 0, 0]
def cuT : List UInt8 := [0, 12, 0, 1, 0, 0, 0, 18, 0, 0, 0, 0, 0, 1, 0, 1, 0, 3, 0, 1, 0, 100, 0, 0, 255, 251, 0, 0, 0, 7, 0]
theorem cu_put : Cu.put cuL = (cuS, 0) := by kernel_rfl
theorem cu_get : Cu.get (121 :: cuS) 1 = (cuL, 0) := by kernel_rfl
theorem cu_more : Cu.get cuT 0 = ([], 4) := by kernel_rfl
theorem cu_a : Cu.ht cuX 99 = -5 := by kernel_rfl
theorem cu_b : Cu.ht cuX 100 = 7 := by kernel_rfl
theorem cu_c : Cu.find cuL 3 1 100 = 7 := by kernel_rfl
theorem cu_d : Cu.find cuL 3 0 100 = 0 := by kernel_rfl
theorem cu_is : Cu.isS cuX = true := by kernel_rfl
theorem cu_right : Cu.isK cuL = true := by kernel_rfl
theorem cu_wrong : Cu.isK [Cu.zK] = false := by kernel_rfl

set_option maxHeartbeats 400000 in
theorem cufront_any (w : World) : Calls Try.prog 40 #[.string ⟨cuS.toArray⟩, .int .i64 31] w fun e w' => e = .returned (.string ⟨cuT.toArray⟩) ∧ w = w' := by
  have hs : (ByteArray.mk cuS.toArray).size = 32 := rfl
  have hx : (ByteArray.mk cuS.toArray).extract 0 31 = ⟨cuT.toArray⟩ := by
    have := Gk.extract_list cuS 0 31
    exact this
  generalize ByteArray.mk cuS.toArray = B at *
  generalize cuT.toArray = T at *
  go_enter Try.func40, Try.ntmps40
  go_wp2_with fail
  go_ret
  exact ⟨rfl, rfl⟩

theorem two_at {W : World} {B o : Nat} {a b : Value} (c0 : W.cell? ⟨B, o, none⟩ = some a) (c1 : W.cell? ⟨B, o + 1, none⟩ = some b) : ∀ j, j < 2 → W.cell? ⟨B, o + j, none⟩ = [a, b][j]?
  | 0, _ => c0
  | 1, _ => c1
  | j + 2, h => absurd h (by omega)
/-- The literal of four stairs, of which the second one has kerns. -/
theorem srow_lit (W : World) (B : Nat) (u v : Value) (x : Cu.Stair) (h : W.heap[B]? = some (.cells #[.slice none 0 0, .slice none 0 0, u, v, .slice none 0 0, .slice none 0 0, .slice none 0 0, .slice none 0 0] 35 (0, 0))) (h1 : Row W u x.1) (h2 : Row W v x.2) :
    SRowC W (.slice (some ⟨B, 0, none⟩) 4 4) [([], []), x, ([], []), ([], [])] := by
  refine .inr ⟨B, 0, 4, rfl, by simp, by simp, (by
    rcases Nat.lt_or_ge B W.heap.size with hlt | hge
    · exact hlt
    · rw [Array.getElem?_eq_none hge] at h; cases h), fun i y hy => ?_⟩
  have hn : Row W (.slice none 0 0) [] := .inl ⟨_, _, rfl, fun _ => rfl, rfl⟩
  match i, hy with
  | 0, hy => simp at hy; subst hy; exact ⟨[.slice none 0 0, .slice none 0 0], rfl, ⟨_, _, rfl, hn, hn⟩, two_at (o := 0) (block_cell h rfl) (block_cell h rfl)⟩
  | 1, hy => simp at hy; subst hy; exact ⟨[u, v], rfl, ⟨_, _, rfl, h1, h2⟩, two_at (o := 2) (block_cell h rfl) (block_cell h rfl)⟩
  | 2, hy => simp at hy; subst hy; exact ⟨[.slice none 0 0, .slice none 0 0], rfl, ⟨_, _, rfl, hn, hn⟩, two_at (o := 4) (block_cell h rfl) (block_cell h rfl)⟩
  | 3, hy => simp at hy; subst hy; exact ⟨[.slice none 0 0, .slice none 0 0], rfl, ⟨_, _, rfl, hn, hn⟩, two_at (o := 6) (block_cell h rfl) (block_cell h rfl)⟩
  | i + 4, hy => simp at hy
theorem krow_lit (W : World) (B : Nat) (u : Value) (x : Cu.Kern) (h : W.heap[B]? = some (.cells #[.int .i64 x.1, u] 42 (0, 0))) (h1 : SRowC W u x.2) : KRowC W (.slice (some ⟨B, 0, none⟩) 1 1) [x] := by
  refine .inr ⟨B, 0, 1, rfl, by simp, by simp, (by
    rcases Nat.lt_or_ge B W.heap.size with hlt | hge
    · exact hlt
    · rw [Array.getElem?_eq_none hge] at h; cases h), fun i y hy => ?_⟩
  match i, hy with
  | 0, hy => simp at hy; subst hy; exact ⟨[.int .i64 x.1, u], rfl, ⟨_, rfl, h1⟩, two_at (o := 0) (block_cell h rfl) (block_cell h rfl)⟩
  | i + 1, hy => simp at hy

theorem stepped_world (w : World) : Lo w (((((w.alloc (.cells #[.int .i64 100] 3)).alloc (.cells #[.int .i64 (-5), .int .i64 7] 3)).alloc (.cells #[.slice (some ⟨w.heap.size, 0, none⟩) 1 1, .slice (some ⟨w.heap.size + 1, 0, none⟩) 2 2] 35)).alloc (.cells #[.slice none 0 0, .slice none 0 0, .slice (some ⟨w.heap.size, 0, none⟩) 1 1, .slice (some ⟨w.heap.size + 1, 0, none⟩) 2 2, .slice none 0 0, .slice none 0 0, .slice none 0 0, .slice none 0 0] 35)).alloc (.cells #[.int .i64 3, .slice (some ⟨w.heap.size + 1 + 1 + 1, 0, none⟩) 4 4] 42)) ∧ Row (((((w.alloc (.cells #[.int .i64 100] 3)).alloc (.cells #[.int .i64 (-5), .int .i64 7] 3)).alloc (.cells #[.slice (some ⟨w.heap.size, 0, none⟩) 1 1, .slice (some ⟨w.heap.size + 1, 0, none⟩) 2 2] 35)).alloc (.cells #[.slice none 0 0, .slice none 0 0, .slice (some ⟨w.heap.size, 0, none⟩) 1 1, .slice (some ⟨w.heap.size + 1, 0, none⟩) 2 2, .slice none 0 0, .slice none 0 0, .slice none 0 0, .slice none 0 0] 35)).alloc (.cells #[.int .i64 3, .slice (some ⟨w.heap.size + 1 + 1 + 1, 0, none⟩) 4 4] 42)) (.slice (some ⟨w.heap.size, 0, none⟩) 1 1) [100] ∧ Row (((((w.alloc (.cells #[.int .i64 100] 3)).alloc (.cells #[.int .i64 (-5), .int .i64 7] 3)).alloc (.cells #[.slice (some ⟨w.heap.size, 0, none⟩) 1 1, .slice (some ⟨w.heap.size + 1, 0, none⟩) 2 2] 35)).alloc (.cells #[.slice none 0 0, .slice none 0 0, .slice (some ⟨w.heap.size, 0, none⟩) 1 1, .slice (some ⟨w.heap.size + 1, 0, none⟩) 2 2, .slice none 0 0, .slice none 0 0, .slice none 0 0, .slice none 0 0] 35)).alloc (.cells #[.int .i64 3, .slice (some ⟨w.heap.size + 1 + 1 + 1, 0, none⟩) 4 4] 42)) (.slice (some ⟨w.heap.size + 1, 0, none⟩) 2 2) [-5, 7] ∧
    (((((w.alloc (.cells #[.int .i64 100] 3)).alloc (.cells #[.int .i64 (-5), .int .i64 7] 3)).alloc (.cells #[.slice (some ⟨w.heap.size, 0, none⟩) 1 1, .slice (some ⟨w.heap.size + 1, 0, none⟩) 2 2] 35)).alloc (.cells #[.slice none 0 0, .slice none 0 0, .slice (some ⟨w.heap.size, 0, none⟩) 1 1, .slice (some ⟨w.heap.size + 1, 0, none⟩) 2 2, .slice none 0 0, .slice none 0 0, .slice none 0 0, .slice none 0 0] 35)).alloc (.cells #[.int .i64 3, .slice (some ⟨w.heap.size + 1 + 1 + 1, 0, none⟩) 4 4] 42)).heap[w.heap.size + 1 + 1]? = some (.cells #[.slice (some ⟨w.heap.size, 0, none⟩) 1 1, .slice (some ⟨w.heap.size + 1, 0, none⟩) 2 2] 35 (0, 0)) ∧ KRowC (((((w.alloc (.cells #[.int .i64 100] 3)).alloc (.cells #[.int .i64 (-5), .int .i64 7] 3)).alloc (.cells #[.slice (some ⟨w.heap.size, 0, none⟩) 1 1, .slice (some ⟨w.heap.size + 1, 0, none⟩) 2 2] 35)).alloc (.cells #[.slice none 0 0, .slice none 0 0, .slice (some ⟨w.heap.size, 0, none⟩) 1 1, .slice (some ⟨w.heap.size + 1, 0, none⟩) 2 2, .slice none 0 0, .slice none 0 0, .slice none 0 0, .slice none 0 0] 35)).alloc (.cells #[.int .i64 3, .slice (some ⟨w.heap.size + 1 + 1 + 1, 0, none⟩) 4 4] 42)) (.slice (some ⟨w.heap.size + 1 + 1 + 1 + 1, 0, none⟩) 1 1) cuL := by
  have h1 := row1 w w.heap.size rfl 100
  have l1 := (Lo.refl w).alloc (.cells #[.int .i64 100] 3)
  have e1 : (w.alloc (.cells #[.int .i64 100] 3)).heap.size = w.heap.size + 1 := by simp
  generalize w.alloc (.cells #[.int .i64 100] 3) = w1 at *
  have h2 := row2 w1 (w.heap.size + 1) e1.symm (-5) 7
  have l2 := (Lo.refl w1).alloc (.cells #[.int .i64 (-5), .int .i64 7] 3)
  have e2 : (w1.alloc (.cells #[.int .i64 (-5), .int .i64 7] 3)).heap.size = w.heap.size + 1 + 1 := by simp [e1]
  generalize w1.alloc (.cells #[.int .i64 (-5), .int .i64 7] 3) = w2 at *
  have h3 := new_block w2 (.cells #[.slice (some ⟨w.heap.size, 0, none⟩) 1 1, .slice (some ⟨w.heap.size + 1, 0, none⟩) 2 2] 35)
  have l3 := (Lo.refl w2).alloc (.cells #[.slice (some ⟨w.heap.size, 0, none⟩) 1 1, .slice (some ⟨w.heap.size + 1, 0, none⟩) 2 2] 35)
  have e3 : (w2.alloc (.cells #[.slice (some ⟨w.heap.size, 0, none⟩) 1 1, .slice (some ⟨w.heap.size + 1, 0, none⟩) 2 2] 35)).heap.size = w.heap.size + 1 + 1 + 1 := by simp [e2]
  rw [e2] at h3
  generalize w2.alloc (.cells #[.slice (some ⟨w.heap.size, 0, none⟩) 1 1, .slice (some ⟨w.heap.size + 1, 0, none⟩) 2 2] 35) = w3 at *
  have h4 := new_block w3 (.cells #[.slice none 0 0, .slice none 0 0, .slice (some ⟨w.heap.size, 0, none⟩) 1 1, .slice (some ⟨w.heap.size + 1, 0, none⟩) 2 2, .slice none 0 0, .slice none 0 0, .slice none 0 0, .slice none 0 0] 35)
  have l4 := (Lo.refl w3).alloc (.cells #[.slice none 0 0, .slice none 0 0, .slice (some ⟨w.heap.size, 0, none⟩) 1 1, .slice (some ⟨w.heap.size + 1, 0, none⟩) 2 2, .slice none 0 0, .slice none 0 0, .slice none 0 0, .slice none 0 0] 35)
  have e4 : (w3.alloc (.cells #[.slice none 0 0, .slice none 0 0, .slice (some ⟨w.heap.size, 0, none⟩) 1 1, .slice (some ⟨w.heap.size + 1, 0, none⟩) 2 2, .slice none 0 0, .slice none 0 0, .slice none 0 0, .slice none 0 0] 35)).heap.size = w.heap.size + 1 + 1 + 1 + 1 := by simp [e3]
  rw [e3] at h4
  generalize w3.alloc (.cells #[.slice none 0 0, .slice none 0 0, .slice (some ⟨w.heap.size, 0, none⟩) 1 1, .slice (some ⟨w.heap.size + 1, 0, none⟩) 2 2, .slice none 0 0, .slice none 0 0, .slice none 0 0, .slice none 0 0] 35) = w4 at *
  have h5 := new_block w4 (.cells #[.int .i64 3, .slice (some ⟨w.heap.size + 1 + 1 + 1, 0, none⟩) 4 4] 42)
  have l5 := (Lo.refl w4).alloc (.cells #[.int .i64 3, .slice (some ⟨w.heap.size + 1 + 1 + 1, 0, none⟩) 4 4] 42)
  rw [e4] at h5
  generalize w4.alloc (.cells #[.int .i64 3, .slice (some ⟨w.heap.size + 1 + 1 + 1, 0, none⟩) 4 4] 42) = w5 at *
  have l35 := l4.trans l5
  have l25 := l3.trans l35
  have r1 := (h1.lo l2).lo l25
  have r2 := h2.lo l25
  exact ⟨((l1.trans l2).trans l25), r1, r2, lo_block l35 h3, krow_lit _ _ _ (3, [([], []), cuX, ([], []), ([], [])]) h5 (srow_lit _ _ _ _ cuX (lo_block l5 h4) r1 r2)⟩

set_option maxRecDepth 100000 in
set_option maxHeartbeats 3200000 in
theorem stepped_any (w : World) : Calls Try.prog 14 #[] w fun e w' => e = .returned (.bool true) ∧ Lo w w' := by
  have HP := Lib.hid (fun (v : Value) (W : World) (h : KRowC W v cuL) => cuput_any v cuL W h (by decide))
  rw [cu_put] at HP
  have HG := Lib.hid (fun W => cuget_any (121 :: cuS) 1 W (by decide) (by omega))
  rw [cu_get] at HG
  have HG2 := Lib.hid (fun W => cuget_any cuT 0 W (by decide) (by omega))
  rw [cu_more] at HG2
  have HA := Lib.hid (fun (u v : Value) (W : World) (h : Row W u cuX.1) (h2 : Row W v cuX.2) => cuat_any u v cuX 99 W h h2)
  rw [cu_a] at HA
  have HB := Lib.hid (fun (u v : Value) (W : World) (h : Row W u cuX.1) (h2 : Row W v cuX.2) => cuat_any u v cuX 100 W h h2)
  rw [cu_b] at HB
  have HC := Lib.hid (fun (v : Value) (W : World) (h : KRowC W v cuL) => cufind_any v cuL 3 1 100 W h (by decide))
  rw [cu_c] at HC
  have HD := Lib.hid (fun (v : Value) (W : World) (h : KRowC W v cuL) => cufind_any v cuL 3 0 100 W h (by decide))
  rw [cu_d] at HD
  have HI := Lib.hid (fun (u v : Value) (W : World) (h : Row W u cuX.1) (h2 : Row W v cuX.2) => cuis_any u v cuX W h h2)
  rw [cu_is] at HI
  have HRt := Lib.hid (fun (v : Value) (W : World) (h : KRowC W v cuL) => curight_any v cuL W h (by decide))
  rw [cu_right] at HRt
  have HWr := Lib.hid (fun (v : Value) (W : World) (h : KRowC W v [Cu.zK]) => curight_any v [Cu.zK] W h (by decide))
  rw [cu_wrong] at HWr
  have HS := Lib.hid (fun (v u : Value) (W : World) (h : KRowC W v cuL) (h2 : KRowC W u cuL) => samek_any cuL v u W h h2)
  have HFr := Lib.hid (fun W => cufront_any W)
  unfold strErr at HP
  unfold GotKerns at HG HG2
  rw [show (cuL, (0 : Int)).1.length = 1 from rfl] at HG
  have hs : (ByteArray.mk cuS.toArray).size = 32 := rfl
  have hadd : ∀ W, (Op.stringOp .add ⟨#[121]⟩ ⟨cuS.toArray⟩).run Try.prog W = .ok (.string ⟨(121 :: cuS).toArray⟩) W := fun W => by
    have := run_string_add_sum (P := Try.prog) W ⟨([121] : List UInt8).toArray⟩ ⟨cuS.toArray⟩ (by decide)
    rw [Gk.cat_list] at this
    exact this
  dsimp only at HP HG HG2
  generalize (121 :: cuS).toArray = S1 at *
  generalize cuS.toArray = S0 at *
  generalize cuT.toArray = T at *
  go_enter Try.func14, Try.ntmps14
  go_wp2_with fail
  obtain ⟨k1, k2, k3, k4, k5⟩ := stepped_world w
  generalize (((((w.alloc (.cells #[.int .i64 100] 3)).alloc (.cells #[.int .i64 (-5), .int .i64 7] 3)).alloc (.cells #[.slice (some ⟨w.heap.size, 0, none⟩) 1 1, .slice (some ⟨w.heap.size + 1, 0, none⟩) 2 2] 35)).alloc (.cells #[.slice none 0 0, .slice none 0 0, .slice (some ⟨w.heap.size, 0, none⟩) 1 1, .slice (some ⟨w.heap.size + 1, 0, none⟩) 2 2, .slice none 0 0, .slice none 0 0, .slice none 0 0, .slice none 0 0] 35)).alloc (.cells #[.int .i64 3, .slice (some ⟨w.heap.size + 1 + 1 + 1, 0, none⟩) 4 4] 42)) = W0 at *
  have HL := Lib.hid k1
  have HR1 := Lib.hid k2
  have HR2 := Lib.hid k3
  have HX := Lib.hid k4
  have HR := Lib.hid k5
  clear k1 k2 k3 k4 k5
  refine (HP.out _ _ HR.out).mono ?_
  rintro e w1 ⟨rfl, lo⟩
  have HW := Lib.hid lo
  clear lo HP
  go_wp2_with fail
  refine (HG.out _).mono ?_
  rintro e w2 ⟨p, c, rfl, hrow, lo⟩
  have HW2 := Lib.hid (HW.out.trans lo)
  have HM := Lib.hid hrow
  clear lo hrow HG HW
  go_wp2_with fail
  refine (HFr.out _).mono ?_
  rintro e w3 ⟨rfl, rfl⟩
  go_wp2_with fail
  refine (HG2.out _).mono ?_
  rintro e w4 ⟨p4, c4, rfl, _, lo⟩
  have HW4 := Lib.hid (HW2.out.trans lo)
  have HM4 := Lib.hid (KRowC.lo HM.out lo)
  clear lo HM HG2 HW2
  go_wp2_with fail
  refine (HS.out _ _ _ (KRowC.lo HR.out HW4.out) HM4.out).mono ?_
  rintro e w5 ⟨rfl, lo⟩
  have HW5 := Lib.hid (HW4.out.trans lo)
  clear lo HM4 HS HW4
  obtain ⟨d0, d1⟩ := two_cells (lo_block HW5.out HX.out)
  go_wp2_with fail
  refine (HA.out _ _ _ (HR1.out.lo HW5.out) (HR2.out.lo HW5.out)).mono ?_
  rintro e w6 ⟨rfl, lo⟩
  have HW6 := Lib.hid (HW5.out.trans lo)
  clear lo HA HW5 d0 d1
  obtain ⟨d0, d1⟩ := two_cells (lo_block HW6.out HX.out)
  go_wp2_with fail
  refine (HB.out _ _ _ (HR1.out.lo HW6.out) (HR2.out.lo HW6.out)).mono ?_
  rintro e w7 ⟨rfl, lo⟩
  have HW7 := Lib.hid (HW6.out.trans lo)
  clear lo HB HW6 d0 d1
  go_wp2_with fail
  refine (HC.out _ _ (KRowC.lo HR.out HW7.out)).mono ?_
  rintro e w8 ⟨rfl, lo⟩
  have HW8 := Lib.hid (HW7.out.trans lo)
  clear lo HC HW7
  go_wp2_with fail
  refine (HD.out _ _ (KRowC.lo HR.out HW8.out)).mono ?_
  rintro e w9 ⟨rfl, lo⟩
  have HW9 := Lib.hid (HW8.out.trans lo)
  clear lo HD HW8
  obtain ⟨d0, d1⟩ := two_cells (lo_block HW9.out HX.out)
  go_wp2_with fail
  refine (HI.out _ _ _ (HR1.out.lo HW9.out) (HR2.out.lo HW9.out)).mono ?_
  rintro e w10 ⟨rfl, lo⟩
  have HW10 := Lib.hid (HW9.out.trans lo)
  clear lo HI HW9 d0 d1
  go_wp2_with fail
  refine (HRt.out _ _ (KRowC.lo HR.out HW10.out)).mono ?_
  rintro e w11 ⟨rfl, lo⟩
  have HW11 := Lib.hid (HW10.out.trans lo)
  clear lo HRt HW10
  go_wp2_with fail
  refine (HWr.out _ _ (krow_lit _ _ _ Cu.zK (new_block w11 _) (.inl ⟨_, _, rfl, fun _ => rfl, rfl⟩))).mono ?_
  rintro e w12 ⟨rfl, lo⟩
  have HW12 := Lib.hid (HW11.out.trans (((Lo.refl _).alloc _).trans lo))
  clear lo HWr HW11
  go_wp2_with fail
  go_ret
  exact ⟨rfl, HL.out.trans HW12.out⟩
end Go.Proofs.Ytcnmfgdeanbhoaa
/-
  The walk of the law CutinOnly. No conditions beyond those stated.
-/
namespace Cu
open Bn He
theorem isK_len {l : List Kern} (h : isK l = true) : l.length ≤ 65535 := by
  have := Co.cov_len ((isK_iff l).1 h).2
  rwa [glyphs_len] at this
theorem put_short {l : List Kern} (h : (put l).2 = 0) : (put l).1.length ≤ 400000 := by
  obtain ⟨h1, h2, h3, h4⟩ := put_ok h
  rw [h4]
  obtain ⟨_, _, q3, q4, q5, q6⟩ := put_end h1 (by omega) (show room l (upTo l l.length 0) by rw [upTo_all]; exact h3)
  rw [q3, List.length_append, List.length_append]
  omega
end Cu
namespace Go.Proofs.Ytcnmfgdeanbhoaa
open Go.RowKit

set_option maxHeartbeats 400000 in
theorem conly_far (s : List UInt8) (pos : Int) (w : World) (h : 2000 < s.length) : Calls Try.prog 6 #[.string ⟨s.toArray⟩, .int .i64 pos] w fun e w' => e = .returned (.bool true) ∧ Lo w w' := by
  have hsz : (ByteArray.mk s.toArray).size = s.length := rfl
  have hz : (2000 : Int) < (s.length : Int) := by omega
  generalize s.length = n at *
  go_enter Try.func6, Try.ntmps6
  go_wp2_with fail
  go_ret
  exact ⟨rfl, Lo.refl _⟩

set_option maxHeartbeats 800000 in
theorem conly_no (s : List UInt8) (pos : Int) (w : World) (h : s.length ≤ 2000) (h1 : pos ≤ 9223372036854775807) (h0 : (Cu.get s pos).2 ≠ 0) : Calls Try.prog 6 #[.string ⟨s.toArray⟩, .int .i64 pos] w fun e w' => e = .returned (.bool true) ∧ Lo w w' := by
  have HG := Lib.hid (fun W => cuget_any s pos W (by omega) h1)
  have e : Cu.get s pos = ([], (Cu.get s pos).2) := Prod.ext (Cu.get_none h0) rfl
  rw [e] at HG
  unfold GotKerns at HG
  dsimp only at HG
  rw [show ([] : List Cu.Kern).length = 0 from rfl] at HG
  have hkb : ((Cu.get s pos).2 == 0) = false := by simpa using h0
  have HT := Lib.hid (fun W => stepped_any W)
  have hsz : (ByteArray.mk s.toArray).size = s.length := rfl
  have hz : ¬ (2000 : Int) < (s.length : Int) := by omega
  generalize (Cu.get s pos).2 = k at *
  generalize s.length = n at *
  clear e h0 h1
  go_enter Try.func6, Try.ntmps6
  go_wp2_with fail
  refine (HG.out _).mono ?_
  rintro e w1 ⟨p, c, rfl, _, lo⟩
  have HL := Lib.hid lo
  clear lo HG
  go_wp2_with fail
  refine (HT.out _).mono ?_
  rintro e w2 ⟨rfl, lo⟩
  have HL2 := Lib.hid (HL.out.trans lo)
  clear lo HT
  go_wp2_with fail
  go_ret
  exact ⟨rfl, HL2.out⟩

set_option maxHeartbeats 1600000 in
theorem conly_long (s : List UInt8) (pos : Int) (l : List Cu.Kern) (w : World) (h : s.length ≤ 2000) (h1 : pos ≤ 9223372036854775807) (h0 : Cu.get s pos = (l, 0)) (hp : (Cu.put l).2 ≠ 0) : Calls Try.prog 6 #[.string ⟨s.toArray⟩, .int .i64 pos] w fun e w' => e = .returned (.bool true) ∧ Lo w w' := by
  have his : Cu.isK l = true := by
    have := Cu.get_is (s := s) (pos := pos) (by rw [h0])
    rwa [h0] at this
  have hn := Cu.isK_len his
  have hp7 : (Cu.put l).2 = 7 := by
    rcases (Cu.put_no hp).2 with ⟨q, _⟩ | ⟨_, q⟩
    · rw [his] at q; cases q
    · exact q
  have HG := Lib.hid (fun W => cuget_any s pos W (by omega) h1)
  rw [h0] at HG
  unfold GotKerns at HG
  have HI := Lib.hid (fun (u : Value) (W : World) (k : KRowC W u l) => curight_any u l W k (by omega))
  rw [his] at HI
  have HP := Lib.hid (fun (u : Value) (W : World) (k : KRowC W u l) => cuput_any u l W k (by omega))
  unfold strErr at HP
  rw [hp7] at HP
  have HT := Lib.hid (fun W => stepped_any W)
  have hsz : (ByteArray.mk s.toArray).size = s.length := rfl
  have hz : ¬ (2000 : Int) < (s.length : Int) := by omega
  dsimp only at HG
  generalize (Cu.put l).1 = t at *
  generalize l.length = k at *
  generalize s.length = n at *
  clear his h0 h1 hp hp7
  go_enter Try.func6, Try.ntmps6
  go_wp2_with fail
  refine (HG.out _).mono ?_
  rintro e w1 ⟨p, c, rfl, hrow, lo⟩
  have HL := Lib.hid lo
  have HR := Lib.hid hrow
  clear lo HG hrow
  go_wp2_with fail
  refine (HI.out _ _ HR.out).mono ?_
  rintro e w2 ⟨rfl, lo⟩
  have HL2 := Lib.hid (HL.out.trans lo)
  have HR2 := Lib.hid (KRowC.lo HR.out lo)
  clear lo HI HL HR
  go_wp2_with fail
  refine (HP.out _ _ HR2.out).mono ?_
  rintro e w3 ⟨rfl, lo⟩
  have HL3 := Lib.hid (HL2.out.trans lo)
  clear lo HP HL2 HR2
  go_wp2_with fail
  refine (HT.out _).mono ?_
  rintro e w4 ⟨rfl, lo⟩
  have HL4 := Lib.hid (HL3.out.trans lo)
  clear lo HT
  go_wp2_with fail
  go_ret
  exact ⟨rfl, HL4.out⟩

set_option maxHeartbeats 1600000 in
theorem conly_yes (s : List UInt8) (pos : Int) (l : List Cu.Kern) (w : World) (h : s.length ≤ 2000) (h1 : pos ≤ 9223372036854775807) (h0 : Cu.get s pos = (l, 0)) (hp : (Cu.put l).2 = 0) : Calls Try.prog 6 #[.string ⟨s.toArray⟩, .int .i64 pos] w fun e w' => e = .returned (.bool true) ∧ Lo w w' := by
  have his : Cu.isK l = true := by
    have := Cu.get_is (s := s) (pos := pos) (by rw [h0])
    rwa [h0] at this
  have hn := Cu.isK_len his
  have htl := Cu.put_short hp
  have hback := Cu.get_put hp [] []
  rw [List.nil_append, List.append_nil, show (([] : List UInt8).length : Int) = 0 from rfl] at hback
  have HG := Lib.hid (fun W => cuget_any s pos W (by omega) h1)
  rw [h0] at HG
  unfold GotKerns at HG
  have HG2 := Lib.hid (fun W => cuget_any (Cu.put l).1 0 W (by omega) (by omega))
  rw [hback] at HG2
  unfold GotKerns at HG2
  have HI := Lib.hid (fun (u : Value) (W : World) (k : KRowC W u l) => curight_any u l W k (by omega))
  rw [his] at HI
  have HP := Lib.hid (fun (u : Value) (W : World) (k : KRowC W u l) => cuput_any u l W k (by omega))
  unfold strErr at HP
  rw [hp] at HP
  have HS := Lib.hid (fun (v u : Value) (W : World) (k : KRowC W v l) (k2 : KRowC W u l) => samek_any l v u W k k2)
  have HT := Lib.hid (fun W => stepped_any W)
  have hsz : (ByteArray.mk s.toArray).size = s.length := rfl
  have hz : ¬ (2000 : Int) < (s.length : Int) := by omega
  dsimp only at HG HG2
  generalize (Cu.put l).1 = t at *
  generalize l.length = k at *
  generalize s.length = n at *
  clear his h0 h1 hp hback htl
  go_enter Try.func6, Try.ntmps6
  go_wp2_with fail
  refine (HG.out _).mono ?_
  rintro e w1 ⟨p, c, rfl, hrow, lo⟩
  have HL := Lib.hid lo
  have HR := Lib.hid hrow
  clear lo HG hrow
  go_wp2_with fail
  refine (HI.out _ _ HR.out).mono ?_
  rintro e w2 ⟨rfl, lo⟩
  have HL2 := Lib.hid (HL.out.trans lo)
  have HR2 := Lib.hid (KRowC.lo HR.out lo)
  clear lo HI HL HR
  go_wp2_with fail
  refine (HP.out _ _ HR2.out).mono ?_
  rintro e w3 ⟨rfl, lo⟩
  have HL3 := Lib.hid (HL2.out.trans lo)
  have HR3 := Lib.hid (KRowC.lo HR2.out lo)
  clear lo HP HL2 HR2
  go_wp2_with fail
  refine (HG2.out _).mono ?_
  rintro e w4 ⟨p4, c4, rfl, hrow, lo⟩
  have HL4 := Lib.hid (HL3.out.trans lo)
  have HR4 := Lib.hid (KRowC.lo HR3.out lo)
  have HM4 := Lib.hid hrow
  clear lo HG2 HL3 HR3 hrow
  go_wp2_with fail
  refine (HT.out _).mono ?_
  rintro e w5 ⟨rfl, lo⟩
  have HL5 := Lib.hid (HL4.out.trans lo)
  have HR5 := Lib.hid (KRowC.lo HR4.out lo)
  have HM5 := Lib.hid (KRowC.lo HM4.out lo)
  clear lo HT HL4 HR4 HM4
  go_wp2_with fail
  refine (HS.out _ _ _ HR5.out HM5.out).mono ?_
  rintro e w6 ⟨rfl, lo⟩
  have HL6 := Lib.hid (HL5.out.trans lo)
  clear lo HS
  go_wp2_with fail
  go_ret
  exact ⟨rfl, HL6.out⟩

theorem cutinOnly_walk (a : ByteArray) (pos : Int) (w : World) (_w0 : a.size ≤ maxLen) (w1 : (Lit.int .i64 pos).wf = true) :
    Calls Try.prog 6 #[.string a, .int .i64 pos] w fun e w' => e = .returned (.bool true) ∧ Below w.heap.size w w' := by
  have hb : pos ≤ 9223372036854775807 := by
    have h1 : (decide (IntKind.i64.min ≤ pos) && decide (pos ≤ IntKind.i64.max)) = true := w1
    rw [show IntKind.i64.min = -9223372036854775808 by decide, show IntKind.i64.max = 9223372036854775807 by decide] at h1
    simp only [Bool.and_eq_true, decide_eq_true_eq] at h1
    exact h1.2
  by_cases hc : 2000 < a.data.toList.length
  · exact conly_far a.data.toList pos w hc
  · by_cases h0 : (Cu.get a.data.toList pos).2 = 0
    · have e : Cu.get a.data.toList pos = ((Cu.get a.data.toList pos).1, 0) := Prod.ext rfl h0
      by_cases hp : (Cu.put (Cu.get a.data.toList pos).1).2 = 0
      · exact conly_yes a.data.toList pos _ w (by omega) hb e hp
      · exact conly_long a.data.toList pos _ w (by omega) hb e hp
    · exact conly_no a.data.toList pos w (by omega) hb h0
end Go.Proofs.Ytcnmfgdeanbhoaa
/-
  The walk of the law CutinBack. No conditions beyond those stated: each text has at most the bytes that the form itself lets in.
-/
namespace Go.Proofs.Ytcnmfgdeanbhoaa
open Go.RowKit

theorem ctadd (a b c : List UInt8) (hc : a ++ b = c) (h : a.length + b.length ≤ 100000000) (W : World) : (Op.stringOp .add ⟨a.toArray⟩ ⟨b.toArray⟩).run Try.prog W = .ok (.string ⟨c.toArray⟩) W := by
  rw [← hc, run_string_add_sum W _ _ (by show a.length + b.length ≤ _; omega), Gk.cat_list]

/-- The class of worlds that the drawn region walks: a kern's cells, a stair's cells. -/
abbrev CornAt (b o b2 o2 : Nat) (g : Int) (q u v : Value) (w0 W : World) : Prop :=
  W.cell? ⟨b, o, none⟩ = some (.int .i64 g) ∧ W.cell? ⟨b, o + 1, none⟩ = some q ∧ W.cell? ⟨b2, o2, none⟩ = some u ∧ W.cell? ⟨b2, o2 + 1, none⟩ = some v ∧ Hid (Lo w0 W)

set_option maxHeartbeats 400000 in
theorem cback_far (v : Value) (l : List Cu.Kern) (a b : List UInt8) (h : Int) (w : World) (hr : KRowC w v l) (ha : a.length ≤ 1000000000000000) (hb : b.length ≤ 1000000000000000) (hc : Cu.few l = false ∨ 300 < a.length + b.length) :
    Calls Try.prog 5 #[v, .string ⟨a.toArray⟩, .string ⟨b.toArray⟩, .int .i64 h] w fun e w' => e = .returned (.bool true) ∧ Lo w w' := by
  have hsz : (ByteArray.mk a.toArray).size = a.length := rfl
  have hsz2 : (ByteArray.mk b.toArray).size = b.length := rfl
  have HF := Lib.hid (rcufew_any v l w hr)
  obtain ⟨p, c, rfl, _⟩ := RowR.form hr
  clear hr
  cases hf : Cu.few l with
  | false =>
    rw [hf] at HF
    clear hc
    generalize l.length = n at *
    generalize a.length = an at *
    generalize b.length = bn at *
    go_enter Try.func5, Try.ntmps5
    go_wp2_with fail
    refine HF.out.mono ?_
    rintro e w1 ⟨rfl, lo⟩
    have HL := Lib.hid lo
    clear lo
    go_wp2_with fail
    go_ret
    exact ⟨rfl, HL.out⟩
  | true =>
    rw [hf] at HF hc
    have hq : (300 : Int) < (a.length : Int) + (b.length : Int) := by
      rcases hc with hc | hc
      · cases hc
      · omega
    clear hc
    generalize l.length = n at *
    generalize a.length = an at *
    generalize b.length = bn at *
    go_enter Try.func5, Try.ntmps5
    go_wp2_with fail
    refine HF.out.mono ?_
    rintro e w1 ⟨rfl, lo⟩
    have HL := Lib.hid lo
    clear lo
    go_wp2_with fail
    go_ret
    exact ⟨rfl, HL.out⟩

set_option maxHeartbeats 1600000 in
theorem cback_no (v : Value) (l : List Cu.Kern) (a b : List UInt8) (h : Int) (w : World) (hr : KRowC w v l) (hf : Cu.few l = true) (hab : a.length + b.length ≤ 300) (hp : (Cu.put l).2 ≠ 0) :
    Calls Try.prog 5 #[v, .string ⟨a.toArray⟩, .string ⟨b.toArray⟩, .int .i64 h] w fun e w' => e = .returned (.bool true) ∧ Lo w w' := by
  have hl := (Cu.few_has hf).1
  have HF := Lib.hid (rcufew_any v l w hr)
  rw [hf] at HF
  have HP := Lib.hid (fun (u : Value) (W : World) (k : KRowC W u l) => cuput_any u l W k (by omega))
  have HI := Lib.hid (fun (u : Value) (W : World) (k : KRowC W u l) => curight_any u l W k (by omega))
  have HD := Lib.hid (fun W => stepped_any W)
  obtain ⟨h1, h2⟩ := Cu.put_no hp
  unfold strErr at HP
  rw [h1, show ([] : List UInt8).toArray = #[] from rfl] at HP
  have hsz : (ByteArray.mk a.toArray).size = a.length := rfl
  have hsz2 : (ByteArray.mk b.toArray).size = b.length := rfl
  have hq : ¬ (300 : Int) < (a.length : Int) + (b.length : Int) := by omega
  have HR := Lib.hid hr
  obtain ⟨p, c, rfl, _⟩ := RowR.form hr
  clear hr hf h1 hp
  generalize l.length = n at *
  generalize a.length = an at *
  generalize b.length = bn at *
  rcases h2 with ⟨q, e1⟩ | ⟨q, e1⟩
  · rw [q] at HI
    rw [e1] at HP
    clear q e1
    go_enter Try.func5, Try.ntmps5
    go_wp2_with fail
    refine HF.out.mono ?_
    rintro e w1 ⟨rfl, lo⟩
    have HL := Lib.hid lo
    have HR1 := Lib.hid (KRowC.lo HR.out lo)
    clear lo HF HR
    go_wp2_with fail
    refine (HP.out _ _ HR1.out).mono ?_
    rintro e w2 ⟨rfl, lo⟩
    have HL2 := Lib.hid (HL.out.trans lo)
    have HR2 := Lib.hid (KRowC.lo HR1.out lo)
    clear lo HP HL HR1
    go_wp2_with fail
    refine (HD.out _).mono ?_
    rintro e w3 ⟨rfl, lo⟩
    have HL3 := Lib.hid (HL2.out.trans lo)
    have HR3 := Lib.hid (KRowC.lo HR2.out lo)
    clear lo HD HL2 HR2
    go_wp2_with fail
    refine (HI.out _ _ HR3.out).mono ?_
    rintro e w4 ⟨rfl, lo⟩
    have HL4 := Lib.hid (HL3.out.trans lo)
    clear lo HI
    go_wp2_with fail
    go_ret
    exact ⟨rfl, HL4.out⟩
  · rw [e1] at HP
    clear q e1 HI
    go_enter Try.func5, Try.ntmps5
    go_wp2_with fail
    refine HF.out.mono ?_
    rintro e w1 ⟨rfl, lo⟩
    have HL := Lib.hid lo
    have HR1 := Lib.hid (KRowC.lo HR.out lo)
    clear lo HF HR
    go_wp2_with fail
    refine (HP.out _ _ HR1.out).mono ?_
    rintro e w2 ⟨rfl, lo⟩
    have HL2 := Lib.hid (HL.out.trans lo)
    clear lo HP HL HR1
    go_wp2_with fail
    refine (HD.out _).mono ?_
    rintro e w3 ⟨rfl, lo⟩
    have HL3 := Lib.hid (HL2.out.trans lo)
    clear lo HD HL2
    go_wp2_with fail
    go_ret
    exact ⟨rfl, HL3.out⟩

set_option maxRecDepth 100000 in
set_option maxHeartbeats 6400000 in
theorem cback_ok (v : Value) (l : List Cu.Kern) (a b : List UInt8) (h : Int) (w : World) (hr : KRowC w v l) (hf : Cu.few l = true) (hab : a.length + b.length ≤ 300) (hp : (Cu.put l).2 = 0) :
    Calls Try.prog 5 #[v, .string ⟨a.toArray⟩, .string ⟨b.toArray⟩, .int .i64 h] w fun e w' => e = .returned (.bool true) ∧ Lo w w' := by
  have hl := (Cu.few_has hf).1
  have hk := (Cu.put_ok hp).1
  have hg := Cu.get_put hp a b
  have htl := Cu.put_short hp
  have HF := Lib.hid (rcufew_any v l w hr)
  rw [hf] at HF
  have HP := Lib.hid (fun (u : Value) (W : World) (k : KRowC W u l) => cuput_any u l W k (by omega))
  unfold strErr at HP
  rw [hp] at HP
  generalize (Cu.put l).1 = t at *
  obtain ⟨u, hu⟩ : ∃ u, a ++ t = u := ⟨_, rfl⟩
  obtain ⟨r, hr2⟩ : ∃ r, u ++ b = r := ⟨_, rfl⟩
  rw [hu, hr2] at hg
  have hul : u.length = a.length + t.length := by rw [← hu, List.length_append]
  have hrl : r.length = u.length + b.length := by rw [← hr2, List.length_append]
  have x1 := fun W => ctadd a t u hu (by omega) W
  have x2 := fun W => ctadd u b r hr2 (by omega) W
  have HG := Lib.hid (fun W => cuget_any r (a.length : Int) W (by omega) (by omega))
  rw [hg] at HG
  unfold GotKerns at HG
  have HN := Lib.hid (fun (v u : Value) (W : World) (k : KRowC W v l) (k2 : KRowC W u l) => samek_any l v u W k k2)
  have HD := Lib.hid (fun W => stepped_any W)
  have HFi := Lib.hid (fun k (hkl : k < l.length) j (hj : j < 4) (u : Value) (W : World) (r : KRowC W u l) => (show Calls Try.prog 22 #[u, .int .i64 (l.getD k Cu.zK).1, .int .i64 (j : Nat), .int .i64 h] W fun e w' => e = .returned (.int .i64 (Cu.ht ((l.getD k Cu.zK).2.getD j Cu.zS) h)) ∧ Lo W w' from by
    have q := cufind_any u l (l.getD k Cu.zK).1 j h W r (by omega)
    rw [Cu.find_at hk (Cu.getK_some hkl) j (by rw [Cu.kern_four hk hkl]; exact hj)] at q
    exact q))
  have HA := Lib.hid (fun (u v : Value) (x : Cu.Stair) W (a : Row W u x.1) (b : Row W v x.2) => cuat_any u v x h W a b)
  have HF4 := Lib.hid (fun k (hkl : k < l.length) => Cu.kern_four hk hkl)
  have HGe := Lib.hid (fun k (hk : k < l.length) => Cu.getK_some hk)
  obtain ⟨p, c, rfl, _⟩ := RowR.form hr
  have HR := Lib.hid hr
  have hsz : (ByteArray.mk a.toArray).size = a.length := rfl
  have hsz2 : (ByteArray.mk b.toArray).size = b.length := rfl
  have hq : ¬ (300 : Int) < (a.length : Int) + (b.length : Int) := by omega
  dsimp only at HG HP
  generalize a.length = an at *
  generalize b.length = bn at *
  generalize l.length = n at *
  clear hr hg hp hu hr2 hul hrl htl hf hk
  go_enter Try.func5, Try.ntmps5
  go_wp2_with fail
  refine HF.out.mono ?_
  rintro e w1 ⟨rfl, lo⟩
  have HL1 := Lib.hid lo
  have HR1 := Lib.hid (KRowC.lo HR.out lo)
  clear lo HF HR
  go_wp2_with fail
  refine (HP.out _ _ HR1.out).mono ?_
  rintro e w2 ⟨rfl, lo⟩
  have HL2 := Lib.hid (HL1.out.trans lo)
  have HR2 := Lib.hid (KRowC.lo HR1.out lo)
  clear lo HP HL1 HR1
  go_wp2_with fail
  refine (HG.out _).mono ?_
  rintro e w3 ⟨p3, c3, rfl, hrow, lo⟩
  have HL3 := Lib.hid (HL2.out.trans lo)
  have HR3 := Lib.hid (KRowC.lo HR2.out lo)
  have HM3 := Lib.hid hrow
  clear lo HG HL2 HR2 hrow x1 x2
  go_wp2_with fail
  refine (HN.out _ _ _ HR3.out HM3.out).mono ?_
  rintro e w4 ⟨rfl, lo⟩
  have HL4 := Lib.hid (HL3.out.trans lo)
  have HR4 := Lib.hid (KRowC.lo HR3.out lo)
  have HM4 := Lib.hid (KRowC.lo HM3.out lo)
  clear lo HN HL3 HR3 HM3
  go_wp2_with fail
  go_loopw [13, 14] (fun i _ W => ∃ k : Nat, k ≤ n ∧ i = .int .i64 k ∧ Hid (Lo w4 W)) (fun i _ _ => n - (intOf i).toNat)
  case atStart => exact ⟨0, by omega, rfl, Lib.hid (Lo.refl _)⟩
  case round =>
    obtain ⟨k, hk, rfl, HLk⟩ := hrel
    by_cases hlt : k < n
    · obtain ⟨b4, off, q, rfl, e1, e2, hs⟩ := KRowC.at2 HR4.out (HGe.out k hlt)
      have hb4 := World.block_lt_of_cell? _ _ e1
      have HF4k := Lib.hid (HF4.out k hlt)
      have HFk := Lib.hid (HFi.out k hlt)
      obtain ⟨ps, cs, rfl, _⟩ := RowR.form hs
      have HSR := Lib.hid hs
      clear hs
      generalize l.getD k Cu.zK = x at *
      obtain ⟨y, z⟩ := x
      dsimp only at e1 e2 HFk HF4k HSR
      have hzl := HF4k.out
      simp only [hzl] at e2 HSR
      clear hzl
      have HE1 := Lib.hid e1
      have HE2 := Lib.hid e2
      clear e1 e2
      go_wp2_with fail
      go_loopw [14] (fun i W => ∃ j : Nat, j ≤ 4 ∧ i = .int .i64 j ∧ Hid (Lo w4 W)) (fun i _ => 4 - (intOf i).toNat)
      case atStart => exact ⟨0, by omega, rfl, HLk⟩
      case round =>
        obtain ⟨j, hj, rfl, HLj⟩ := hrel
        have c1 := (HLj.out.cell hb4).trans HE1.out
        have c2 := (HLj.out.cell hb4).trans HE2.out
        by_cases hj4 : j < 4
        · obtain ⟨b5, off5, u5, v5, rfl, d0, d1, ra, rb⟩ := SRowC.at2 (SRowC.lo HSR.out HLj.out) (Cu.getS_some (l := z) (i := j) (by rw [HF4k.out]; exact hj4))
          have HFj := Lib.hid (HFk.out j hj4)
          have HAx := Lib.hid (HA.out u5 v5 (z.getD j Cu.zS))
          have HRa := Lib.hid ra
          have HRb := Lib.hid rb
          obtain ⟨pu, cu, rfl, _⟩ := ra.form
          obtain ⟨pv, cv2, rfl, _⟩ := rb.form
          have hb5 := World.block_lt_of_cell? _ _ d0
          have hb4' := World.block_lt_of_cell? _ _ c1
          clear ra rb
          generalize z.getD j Cu.zS = x at *
          generalize Cu.ht x h = r at *
          obtain ⟨x1, x2⟩ := x
          dsimp only at HRa HRb HAx d0 d1
          generalize x1.length = n1 at *
          generalize x2.length = n2 at *
          have HM := Lib.hid (KRowC.lo HM4.out HLj.out)
          have HS : Hid (∀ W, Lo wr W → CornAt b4 (off + k * 2) b5 (off5 + j * 2) y (.slice (some ⟨b5, off5, none⟩) 4 cs) (.slice pu n1 cu) (.slice pv n2 cv2) wr W) := Lib.hid (fun W lo => ⟨(lo.cell hb4').trans c1, (lo.cell hb4').trans c2, (lo.cell hb5).trans d0, (lo.cell hb5).trans d1, Lib.hid lo⟩)
          have C1 : Hid (∀ W, CornAt b4 (off + k * 2) b5 (off5 + j * 2) y (.slice (some ⟨b5, off5, none⟩) 4 cs) (.slice pu n1 cu) (.slice pv n2 cv2) wr W → Calls Try.prog 22 #[.slice p3 n c3, .int .i64 y, .int .i64 j, .int .i64 h] W fun e w' => e = .returned (.int .i64 r) ∧ CornAt b4 (off + k * 2) b5 (off5 + j * 2) y (.slice (some ⟨b5, off5, none⟩) 4 cs) (.slice pu n1 cu) (.slice pv n2 cv2) wr w') := Lib.hid (fun W hW => (HFj.out _ W (KRowC.lo HM.out hW.2.2.2.2.out)).mono fun e w' hh => ⟨hh.1, HS.out w' (hW.2.2.2.2.out.trans hh.2)⟩)
          have C2 : Hid (∀ W, CornAt b4 (off + k * 2) b5 (off5 + j * 2) y (.slice (some ⟨b5, off5, none⟩) 4 cs) (.slice pu n1 cu) (.slice pv n2 cv2) wr W → Calls Try.prog 20 #[.agg #[.slice pu n1 cu, .slice pv n2 cv2], .int .i64 h] W fun e w' => e = .returned (.int .i64 r) ∧ CornAt b4 (off + k * 2) b5 (off5 + j * 2) y (.slice (some ⟨b5, off5, none⟩) 4 cs) (.slice pu n1 cu) (.slice pv n2 cv2) wr w') := Lib.hid (fun W hW => (HAx.out W (HRa.out.lo hW.2.2.2.2.out) (HRb.out.lo hW.2.2.2.2.out)).mono fun e w' hh => ⟨hh.1, HS.out w' (hW.2.2.2.2.out.trans hh.2)⟩)
          have hj1 : (j : Int) < 4 := by omega
          have hj0 : (0 : Int) ≤ (j : Int) := by omega
          have hk1 : (k : Int) < (n : Int) := by omega
          have hk0 : (0 : Int) ≤ (k : Int) := by omega
          clear HFj HAx HRa HRb
          go_wp2_with fail
          clear c1 c2 d0 d1
          go_region_held3 (fun W => CornAt b4 (off + k * 2) b5 (off5 + j * 2) y (.slice (some ⟨b5, off5, none⟩) 4 cs) (.slice pu n1 cu) (.slice pv n2 cv2) wr W) (first | assumption | exact HS.out _ (Lo.drew (Lo.refl _)))
            (first
              | (go_at_call 22; refine (C1.out _ (by assumption)).mono ?_; rintro e wA ⟨rfl, hSA⟩)
              | (go_at_call 20; refine (C2.out _ (by assumption)).mono ?_; rintro e wA ⟨rfl, hSA⟩))
          have HLB := Lib.hid (HLj.out.trans (hSA.2.2.2.2.out))
          clear hSA HS C1 C2 HM
          go_wp2_with fail
          go_roundw
          case rel => exact ⟨j + 1, by omega, by go_num, HLB⟩
          case measure => simp [intOf]; omega
        · obtain rfl : j = 4 := by omega
          go_wp2_with fail
          go_roundw
          case rel => exact ⟨k + 1, by omega, by go_num, HLj⟩
          case measure => simp [intOf]; omega
    · go_wp2_with fail
      refine (HD.out _).mono ?_
      rintro e w5 ⟨rfl, lo⟩
      have HL5 := Lib.hid (HL4.out.trans (HLk.out.trans lo))
      clear lo HD
      go_wp2_with fail
      go_ret
      exact ⟨rfl, HL5.out⟩

theorem cutinBack_walk (v : Value) (l : List Cu.Kern) (a b : ByteArray) (h : Int) (w : World) (hr : KRowC w v l) (_w1 : a.size ≤ maxLen) (z1 : a.data.toList.length ≤ reachBytes) (_w2 : b.size ≤ maxLen) (z2 : b.data.toList.length ≤ reachBytes) (_ : (Lit.int .i64 h).wf = true) :
    Calls Try.prog 5 #[v, .string a, .string b, .int .i64 h] w fun e w' => e = .returned (.bool true) ∧ Below w.heap.size w w' := by
  unfold reachBytes at z1 z2
  by_cases hc : Cu.few l = false ∨ 300 < a.data.toList.length + b.data.toList.length
  · exact cback_far v l a.data.toList b.data.toList h w hr (by omega) (by omega) hc
  · have hf : Cu.few l = true := by
      cases hh : Cu.few l with
      | true => rfl
      | false => exact absurd (.inl hh) hc
    by_cases hp : (Cu.put l).2 = 0
    · exact cback_ok v l a.data.toList b.data.toList h w hr hf (by omega) hp
    · exact cback_no v l a.data.toList b.data.toList h w hr hf (by omega) hp
end Go.Proofs.Ytcnmfgdeanbhoaa
