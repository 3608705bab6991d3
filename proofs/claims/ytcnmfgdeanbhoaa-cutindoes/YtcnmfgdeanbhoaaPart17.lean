/-
  Facts that the walks rest on: CuTold, CuRefS. No conditions beyond those stated.
-/
import Derived.Test.YtcnmfgdeanbhoaaPart10
import Derived.Test.YtcnmfgdeanbhoaaPart14
import Derived.Test.YtcnmfgdeanbhoaaPart16
import Derived.Test.YtcnmfgdeanbhoaaPart07
import Derived.Test.YtcnmfgdeanbhoaaPart11
/-
  The contract of the law's closed rows of layer 15. No conditions beyond those stated.
-/
namespace Go.Proofs.Ytcnmfgdeanbhoaa
open Go.RowKit

def cuX : Cu.Stair := ([100], [-5, 7])
def cuL : List Cu.Kern := [(3, [([], []), cuX, ([], []), ([], [])])]
def cuS : List UInt8 := [0, 12, 0, 1, 0, 0, 0, 18, 0, 0, 0, 0, 0, 1, 0, 1, 0, 3, 0, 1, 0, 100, 0, 0, 255, 251, 0, 0, 0, 7, 0, 0]
def cuT : List UInt8 := [0, 12, 0, 1, 0, 0, 0, 18, 0, 0, 0, 0, 0, 1, 0, 1, 0, 3, 0, 1, 0, 100, 0, 0, 255, 251, 0, 0, 0, 7, 0]
theorem cu_put : Cu.put cuL = (cuS, 0) := by kernel_rfl
theorem cu_get : Cu.get (121 :: cuS) 1 = (cuL, 0) := by kernel_rfl
theorem cu_more : Cu.get cuT 0 = ([], 4) := by kernel_rfl
theorem cu_a : Cu.ht cuX 99 = -5 := by kernel_rfl
theorem cu_b : Cu.ht cuX 100 = 7 := by kernel_rfl
theorem cu_c : Cu.find cuL 3 1 100 = 7 := by kernel_rfl
theorem cu_d : Cu.find cuL 3 0 100 = 0 := by kernel_rfl
theorem cu_is : Cu.isS cuX = true := by kernel_rfl
theorem cu_right : Cu.isK cuL = true := by kernel_rfl
theorem cu_wrong : Cu.isK [Cu.zK] = false := by kernel_rfl

set_option maxHeartbeats 400000 in
theorem cufront_any (w : World) : Calls Try.prog 40 #[.string ⟨cuS.toArray⟩, .int .i64 31] w fun e w' => e = .returned (.string ⟨cuT.toArray⟩) ∧ w = w' := by
  have hs : (ByteArray.mk cuS.toArray).size = 32 := rfl
  have hx : (ByteArray.mk cuS.toArray).extract 0 31 = ⟨cuT.toArray⟩ := by
    have := Gk.extract_list cuS 0 31
    exact this
  generalize ByteArray.mk cuS.toArray = B at *
  generalize cuT.toArray = T at *
  go_enter Try.func40, Try.ntmps40
  go_wp2_with fail
  go_ret
  exact ⟨rfl, rfl⟩

theorem two_at {W : World} {B o : Nat} {a b : Value} (c0 : W.cell? ⟨B, o, none⟩ = some a) (c1 : W.cell? ⟨B, o + 1, none⟩ = some b) : ∀ j, j < 2 → W.cell? ⟨B, o + j, none⟩ = [a, b][j]?
  | 0, _ => c0
  | 1, _ => c1
  | j + 2, h => absurd h (by omega)
/-- The literal of four stairs, of which the second one has kerns. -/
theorem srow_lit (W : World) (B : Nat) (u v : Value) (x : Cu.Stair) (h : W.heap[B]? = some (.cells #[.slice none 0 0, .slice none 0 0, u, v, .slice none 0 0, .slice none 0 0, .slice none 0 0, .slice none 0 0] 35 (0, 0))) (h1 : Row W u x.1) (h2 : Row W v x.2) :
    SRowC W (.slice (some ⟨B, 0, none⟩) 4 4) [([], []), x, ([], []), ([], [])] := by
  refine .inr ⟨B, 0, 4, rfl, by simp, by simp, (by
    rcases Nat.lt_or_ge B W.heap.size with hlt | hge
    · exact hlt
    · rw [Array.getElem?_eq_none hge] at h; cases h), fun i y hy => ?_⟩
  have hn : Row W (.slice none 0 0) [] := .inl ⟨_, _, rfl, fun _ => rfl, rfl⟩
  match i, hy with
  | 0, hy => simp at hy; subst hy; exact ⟨[.slice none 0 0, .slice none 0 0], rfl, ⟨_, _, rfl, hn, hn⟩, two_at (o := 0) (block_cell h rfl) (block_cell h rfl)⟩
  | 1, hy => simp at hy; subst hy; exact ⟨[u, v], rfl, ⟨_, _, rfl, h1, h2⟩, two_at (o := 2) (block_cell h rfl) (block_cell h rfl)⟩
  | 2, hy => simp at hy; subst hy; exact ⟨[.slice none 0 0, .slice none 0 0], rfl, ⟨_, _, rfl, hn, hn⟩, two_at (o := 4) (block_cell h rfl) (block_cell h rfl)⟩
  | 3, hy => simp at hy; subst hy; exact ⟨[.slice none 0 0, .slice none 0 0], rfl, ⟨_, _, rfl, hn, hn⟩, two_at (o := 6) (block_cell h rfl) (block_cell h rfl)⟩
  | i + 4, hy => simp at hy
theorem krow_lit (W : World) (B : Nat) (u : Value) (x : Cu.Kern) (h : W.heap[B]? = some (.cells #[.int .i64 x.1, u] 42 (0, 0))) (h1 : SRowC W u x.2) : KRowC W (.slice (some ⟨B, 0, none⟩) 1 1) [x] := by
  refine .inr ⟨B, 0, 1, rfl, by simp, by simp, (by
    rcases Nat.lt_or_ge B W.heap.size with hlt | hge
    · exact hlt
    · rw [Array.getElem?_eq_none hge] at h; cases h), fun i y hy => ?_⟩
  match i, hy with
  | 0, hy => simp at hy; subst hy; exact ⟨[.int .i64 x.1, u], rfl, ⟨_, rfl, h1⟩, two_at (o := 0) (block_cell h rfl) (block_cell h rfl)⟩
  | i + 1, hy => simp at hy

theorem stepped_world (w : World) : Lo w (((((w.alloc (.cells #[.int .i64 100] 3)).alloc (.cells #[.int .i64 (-5), .int .i64 7] 3)).alloc (.cells #[.slice (some ⟨w.heap.size, 0, none⟩) 1 1, .slice (some ⟨w.heap.size + 1, 0, none⟩) 2 2] 35)).alloc (.cells #[.slice none 0 0, .slice none 0 0, .slice (some ⟨w.heap.size, 0, none⟩) 1 1, .slice (some ⟨w.heap.size + 1, 0, none⟩) 2 2, .slice none 0 0, .slice none 0 0, .slice none 0 0, .slice none 0 0] 35)).alloc (.cells #[.int .i64 3, .slice (some ⟨w.heap.size + 1 + 1 + 1, 0, none⟩) 4 4] 42)) ∧ Row (((((w.alloc (.cells #[.int .i64 100] 3)).alloc (.cells #[.int .i64 (-5), .int .i64 7] 3)).alloc (.cells #[.slice (some ⟨w.heap.size, 0, none⟩) 1 1, .slice (some ⟨w.heap.size + 1, 0, none⟩) 2 2] 35)).alloc (.cells #[.slice none 0 0, .slice none 0 0, .slice (some ⟨w.heap.size, 0, none⟩) 1 1, .slice (some ⟨w.heap.size + 1, 0, none⟩) 2 2, .slice none 0 0, .slice none 0 0, .slice none 0 0, .slice none 0 0] 35)).alloc (.cells #[.int .i64 3, .slice (some ⟨w.heap.size + 1 + 1 + 1, 0, none⟩) 4 4] 42)) (.slice (some ⟨w.heap.size, 0, none⟩) 1 1) [100] ∧ Row (((((w.alloc (.cells #[.int .i64 100] 3)).alloc (.cells #[.int .i64 (-5), .int .i64 7] 3)).alloc (.cells #[.slice (some ⟨w.heap.size, 0, none⟩) 1 1, .slice (some ⟨w.heap.size + 1, 0, none⟩) 2 2] 35)).alloc (.cells #[.slice none 0 0, .slice none 0 0, .slice (some ⟨w.heap.size, 0, none⟩) 1 1, .slice (some ⟨w.heap.size + 1, 0, none⟩) 2 2, .slice none 0 0, .slice none 0 0, .slice none 0 0, .slice none 0 0] 35)).alloc (.cells #[.int .i64 3, .slice (some ⟨w.heap.size + 1 + 1 + 1, 0, none⟩) 4 4] 42)) (.slice (some ⟨w.heap.size + 1, 0, none⟩) 2 2) [-5, 7] ∧
    (((((w.alloc (.cells #[.int .i64 100] 3)).alloc (.cells #[.int .i64 (-5), .int .i64 7] 3)).alloc (.cells #[.slice (some ⟨w.heap.size, 0, none⟩) 1 1, .slice (some ⟨w.heap.size + 1, 0, none⟩) 2 2] 35)).alloc (.cells #[.slice none 0 0, .slice none 0 0, .slice (some ⟨w.heap.size, 0, none⟩) 1 1, .slice (some ⟨w.heap.size + 1, 0, none⟩) 2 2, .slice none 0 0, .slice none 0 0, .slice none 0 0, .slice none 0 0] 35)).alloc (.cells #[.int .i64 3, .slice (some ⟨w.heap.size + 1 + 1 + 1, 0, none⟩) 4 4] 42)).heap[w.heap.size + 1 + 1]? = some (.cells #[.slice (some ⟨w.heap.size, 0, none⟩) 1 1, .slice (some ⟨w.heap.size + 1, 0, none⟩) 2 2] 35 (0, 0)) ∧ KRowC (((((w.alloc (.cells #[.int .i64 100] 3)).alloc (.cells #[.int .i64 (-5), .int .i64 7] 3)).alloc (.cells #[.slice (some ⟨w.heap.size, 0, none⟩) 1 1, .slice (some ⟨w.heap.size + 1, 0, none⟩) 2 2] 35)).alloc (.cells #[.slice none 0 0, .slice none 0 0, .slice (some ⟨w.heap.size, 0, none⟩) 1 1, .slice (some ⟨w.heap.size + 1, 0, none⟩) 2 2, .slice none 0 0, .slice none 0 0, .slice none 0 0, .slice none 0 0] 35)).alloc (.cells #[.int .i64 3, .slice (some ⟨w.heap.size + 1 + 1 + 1, 0, none⟩) 4 4] 42)) (.slice (some ⟨w.heap.size + 1 + 1 + 1 + 1, 0, none⟩) 1 1) cuL := by
  have h1 := row1 w w.heap.size rfl 100
  have l1 := (Lo.refl w).alloc (.cells #[.int .i64 100] 3)
  have e1 : (w.alloc (.cells #[.int .i64 100] 3)).heap.size = w.heap.size + 1 := by simp
  generalize w.alloc (.cells #[.int .i64 100] 3) = w1 at *
  have h2 := row2 w1 (w.heap.size + 1) e1.symm (-5) 7
  have l2 := (Lo.refl w1).alloc (.cells #[.int .i64 (-5), .int .i64 7] 3)
  have e2 : (w1.alloc (.cells #[.int .i64 (-5), .int .i64 7] 3)).heap.size = w.heap.size + 1 + 1 := by simp [e1]
  generalize w1.alloc (.cells #[.int .i64 (-5), .int .i64 7] 3) = w2 at *
  have h3 := new_block w2 (.cells #[.slice (some ⟨w.heap.size, 0, none⟩) 1 1, .slice (some ⟨w.heap.size + 1, 0, none⟩) 2 2] 35)
  have l3 := (Lo.refl w2).alloc (.cells #[.slice (some ⟨w.heap.size, 0, none⟩) 1 1, .slice (some ⟨w.heap.size + 1, 0, none⟩) 2 2] 35)
  have e3 : (w2.alloc (.cells #[.slice (some ⟨w.heap.size, 0, none⟩) 1 1, .slice (some ⟨w.heap.size + 1, 0, none⟩) 2 2] 35)).heap.size = w.heap.size + 1 + 1 + 1 := by simp [e2]
  rw [e2] at h3
  generalize w2.alloc (.cells #[.slice (some ⟨w.heap.size, 0, none⟩) 1 1, .slice (some ⟨w.heap.size + 1, 0, none⟩) 2 2] 35) = w3 at *
  have h4 := new_block w3 (.cells #[.slice none 0 0, .slice none 0 0, .slice (some ⟨w.heap.size, 0, none⟩) 1 1, .slice (some ⟨w.heap.size + 1, 0, none⟩) 2 2, .slice none 0 0, .slice none 0 0, .slice none 0 0, .slice none 0 0] 35)
  have l4 := (Lo.refl w3).alloc (.cells #[.slice none 0 0, .slice none 0 0, .slice (some ⟨w.heap.size, 0, none⟩) 1 1, .slice (some ⟨w.heap.size + 1, 0, none⟩) 2 2, .slice none 0 0, .slice none 0 0, .slice none 0 0, .slice none 0 0] 35)
  have e4 : (w3.alloc (.cells #[.slice none 0 0, .slice none 0 0, .slice (some ⟨w.heap.size, 0, none⟩) 1 1, .slice (some ⟨w.heap.size + 1, 0, none⟩) 2 2, .slice none 0 0, .slice none 0 0, .slice none 0 0, .slice none 0 0] 35)).heap.size = w.heap.size + 1 + 1 + 1 + 1 := by simp [e3]
  rw [e3] at h4
  generalize w3.alloc (.cells #[.slice none 0 0, .slice none 0 0, .slice (some ⟨w.heap.size, 0, none⟩) 1 1, .slice (some ⟨w.heap.size + 1, 0, none⟩) 2 2, .slice none 0 0, .slice none 0 0, .slice none 0 0, .slice none 0 0] 35) = w4 at *
  have h5 := new_block w4 (.cells #[.int .i64 3, .slice (some ⟨w.heap.size + 1 + 1 + 1, 0, none⟩) 4 4] 42)
  have l5 := (Lo.refl w4).alloc (.cells #[.int .i64 3, .slice (some ⟨w.heap.size + 1 + 1 + 1, 0, none⟩) 4 4] 42)
  rw [e4] at h5
  generalize w4.alloc (.cells #[.int .i64 3, .slice (some ⟨w.heap.size + 1 + 1 + 1, 0, none⟩) 4 4] 42) = w5 at *
  have l35 := l4.trans l5
  have l25 := l3.trans l35
  have r1 := (h1.lo l2).lo l25
  have r2 := h2.lo l25
  exact ⟨((l1.trans l2).trans l25), r1, r2, lo_block l35 h3, krow_lit _ _ _ (3, [([], []), cuX, ([], []), ([], [])]) h5 (srow_lit _ _ _ _ cuX (lo_block l5 h4) r1 r2)⟩

set_option maxRecDepth 100000 in
set_option maxHeartbeats 3200000 in
theorem stepped_any (w : World) : Calls Try.prog 14 #[] w fun e w' => e = .returned (.bool true) ∧ Lo w w' := by
  have HP := Lib.hid (fun (v : Value) (W : World) (h : KRowC W v cuL) => cuput_any v cuL W h (by decide))
  rw [cu_put] at HP
  have HG := Lib.hid (fun W => cuget_any (121 :: cuS) 1 W (by decide) (by omega))
  rw [cu_get] at HG
  have HG2 := Lib.hid (fun W => cuget_any cuT 0 W (by decide) (by omega))
  rw [cu_more] at HG2
  have HA := Lib.hid (fun (u v : Value) (W : World) (h : Row W u cuX.1) (h2 : Row W v cuX.2) => cuat_any u v cuX 99 W h h2)
  rw [cu_a] at HA
  have HB := Lib.hid (fun (u v : Value) (W : World) (h : Row W u cuX.1) (h2 : Row W v cuX.2) => cuat_any u v cuX 100 W h h2)
  rw [cu_b] at HB
  have HC := Lib.hid (fun (v : Value) (W : World) (h : KRowC W v cuL) => cufind_any v cuL 3 1 100 W h (by decide))
  rw [cu_c] at HC
  have HD := Lib.hid (fun (v : Value) (W : World) (h : KRowC W v cuL) => cufind_any v cuL 3 0 100 W h (by decide))
  rw [cu_d] at HD
  have HI := Lib.hid (fun (u v : Value) (W : World) (h : Row W u cuX.1) (h2 : Row W v cuX.2) => cuis_any u v cuX W h h2)
  rw [cu_is] at HI
  have HRt := Lib.hid (fun (v : Value) (W : World) (h : KRowC W v cuL) => curight_any v cuL W h (by decide))
  rw [cu_right] at HRt
  have HWr := Lib.hid (fun (v : Value) (W : World) (h : KRowC W v [Cu.zK]) => curight_any v [Cu.zK] W h (by decide))
  rw [cu_wrong] at HWr
  have HS := Lib.hid (fun (v u : Value) (W : World) (h : KRowC W v cuL) (h2 : KRowC W u cuL) => samek_any cuL v u W h h2)
  have HFr := Lib.hid (fun W => cufront_any W)
  unfold strErr at HP
  unfold GotKerns at HG HG2
  rw [show (cuL, (0 : Int)).1.length = 1 from rfl] at HG
  have hs : (ByteArray.mk cuS.toArray).size = 32 := rfl
  have hadd : ∀ W, (Op.stringOp .add ⟨#[121]⟩ ⟨cuS.toArray⟩).run Try.prog W = .ok (.string ⟨(121 :: cuS).toArray⟩) W := fun W => by
    have := run_string_add_sum (P := Try.prog) W ⟨([121] : List UInt8).toArray⟩ ⟨cuS.toArray⟩ (by decide)
    rw [Gk.cat_list] at this
    exact this
  dsimp only at HP HG HG2
  generalize (121 :: cuS).toArray = S1 at *
  generalize cuS.toArray = S0 at *
  generalize cuT.toArray = T at *
  go_enter Try.func14, Try.ntmps14
  go_wp2_with fail
  obtain ⟨k1, k2, k3, k4, k5⟩ := stepped_world w
  generalize (((((w.alloc (.cells #[.int .i64 100] 3)).alloc (.cells #[.int .i64 (-5), .int .i64 7] 3)).alloc (.cells #[.slice (some ⟨w.heap.size, 0, none⟩) 1 1, .slice (some ⟨w.heap.size + 1, 0, none⟩) 2 2] 35)).alloc (.cells #[.slice none 0 0, .slice none 0 0, .slice (some ⟨w.heap.size, 0, none⟩) 1 1, .slice (some ⟨w.heap.size + 1, 0, none⟩) 2 2, .slice none 0 0, .slice none 0 0, .slice none 0 0, .slice none 0 0] 35)).alloc (.cells #[.int .i64 3, .slice (some ⟨w.heap.size + 1 + 1 + 1, 0, none⟩) 4 4] 42)) = W0 at *
  have HL := Lib.hid k1
  have HR1 := Lib.hid k2
  have HR2 := Lib.hid k3
  have HX := Lib.hid k4
  have HR := Lib.hid k5
  clear k1 k2 k3 k4 k5
  refine (HP.out _ _ HR.out).mono ?_
  rintro e w1 ⟨rfl, lo⟩
  have HW := Lib.hid lo
  clear lo HP
  go_wp2_with fail
  refine (HG.out _).mono ?_
  rintro e w2 ⟨p, c, rfl, hrow, lo⟩
  have HW2 := Lib.hid (HW.out.trans lo)
  have HM := Lib.hid hrow
  clear lo hrow HG HW
  go_wp2_with fail
  refine (HFr.out _).mono ?_
  rintro e w3 ⟨rfl, rfl⟩
  go_wp2_with fail
  refine (HG2.out _).mono ?_
  rintro e w4 ⟨p4, c4, rfl, _, lo⟩
  have HW4 := Lib.hid (HW2.out.trans lo)
  have HM4 := Lib.hid (KRowC.lo HM.out lo)
  clear lo HM HG2 HW2
  go_wp2_with fail
  refine (HS.out _ _ _ (KRowC.lo HR.out HW4.out) HM4.out).mono ?_
  rintro e w5 ⟨rfl, lo⟩
  have HW5 := Lib.hid (HW4.out.trans lo)
  clear lo HM4 HS HW4
  obtain ⟨d0, d1⟩ := two_cells (lo_block HW5.out HX.out)
  go_wp2_with fail
  refine (HA.out _ _ _ (HR1.out.lo HW5.out) (HR2.out.lo HW5.out)).mono ?_
  rintro e w6 ⟨rfl, lo⟩
  have HW6 := Lib.hid (HW5.out.trans lo)
  clear lo HA HW5 d0 d1
  obtain ⟨d0, d1⟩ := two_cells (lo_block HW6.out HX.out)
  go_wp2_with fail
  refine (HB.out _ _ _ (HR1.out.lo HW6.out) (HR2.out.lo HW6.out)).mono ?_
  rintro e w7 ⟨rfl, lo⟩
  have HW7 := Lib.hid (HW6.out.trans lo)
  clear lo HB HW6 d0 d1
  go_wp2_with fail
  refine (HC.out _ _ (KRowC.lo HR.out HW7.out)).mono ?_
  rintro e w8 ⟨rfl, lo⟩
  have HW8 := Lib.hid (HW7.out.trans lo)
  clear lo HC HW7
  go_wp2_with fail
  refine (HD.out _ _ (KRowC.lo HR.out HW8.out)).mono ?_
  rintro e w9 ⟨rfl, lo⟩
  have HW9 := Lib.hid (HW8.out.trans lo)
  clear lo HD HW8
  obtain ⟨d0, d1⟩ := two_cells (lo_block HW9.out HX.out)
  go_wp2_with fail
  refine (HI.out _ _ _ (HR1.out.lo HW9.out) (HR2.out.lo HW9.out)).mono ?_
  rintro e w10 ⟨rfl, lo⟩
  have HW10 := Lib.hid (HW9.out.trans lo)
  clear lo HI HW9 d0 d1
  go_wp2_with fail
  refine (HRt.out _ _ (KRowC.lo HR.out HW10.out)).mono ?_
  rintro e w11 ⟨rfl, lo⟩
  have HW11 := Lib.hid (HW10.out.trans lo)
  clear lo HRt HW10
  go_wp2_with fail
  refine (HWr.out _ _ (krow_lit _ _ _ Cu.zK (new_block w11 _) (.inl ⟨_, _, rfl, fun _ => rfl, rfl⟩))).mono ?_
  rintro e w12 ⟨rfl, lo⟩
  have HW12 := Lib.hid (HW11.out.trans (((Lo.refl _).alloc _).trans lo))
  clear lo HWr HW11
  go_wp2_with fail
  go_ret
  exact ⟨rfl, HL.out.trans HW12.out⟩
end Go.Proofs.Ytcnmfgdeanbhoaa
/-
  Contracts of the document's answers for layer 15: word, stair. No conditions beyond those stated.
-/
namespace Cu
open Bn He
theorem rdS_left (t : List UInt8) {n i : Nat} (h : i < n) : (rdS t n).1.take (i + 1) = (rdS t n).1.take i ++ [fld t (2 + 4 * i) (-2)] ∧ (rdS t n).2.take (i + 1 - n) = (rdS t n).2.take (i - n) := by
  refine ⟨?_, by rw [show i + 1 - n = 0 by omega, show i - n = 0 by omega]⟩
  have hl : i < (rdS t n).1.length := by simp [rdS]; exact h
  rw [List.take_add_one, List.getElem?_eq_getElem hl]
  simp [rdS]
theorem rdS_right (t : List UInt8) {n i : Nat} (h : n ≤ i) (h2 : i < 2 * n + 1) : (rdS t n).1.take (i + 1) = (rdS t n).1.take i ∧ (rdS t n).2.take (i + 1 - n) = (rdS t n).2.take (i - n) ++ [fld t (2 + 4 * i) (-2)] := by
  have hl1 : (rdS t n).1.length = n := by simp [rdS]
  have hl2 : i - n < (rdS t n).2.length := by simp [rdS]; omega
  refine ⟨by rw [List.take_of_length_le (by omega), List.take_of_length_le (by omega)], ?_⟩
  rw [show i + 1 - n = i - n + 1 by omega, List.take_add_one, List.getElem?_eq_getElem hl2]
  simp [rdS]
  rw [show n + (i - n) = i by omega]
theorem rdS_all (t : List UInt8) (n : Nat) : (rdS t n).1.take (2 * n + 1) = (rdS t n).1 ∧ (rdS t n).2.take (2 * n + 1 - n) = (rdS t n).2 := by
  refine ⟨List.take_of_length_le (by simp [rdS]; omega), List.take_of_length_le (by simp [rdS]; omega)⟩
theorem rdS_len (t : List UInt8) (n : Nat) : (rdS t n).1.length = n ∧ (rdS t n).2.length = n + 1 := by simp [rdS]
theorem one_fld (s : List UInt8) (q i : Nat) : Bn.one ((s.drop (q + 2 + 4 * i)).take 2) (-2) = fld (s.drop q) (2 + 4 * i) (-2) := by
  unfold fld
  rw [List.drop_drop, show q + (2 + 4 * i) = q + 2 + 4 * i by omega]; rfl
end Cu
namespace Go.Proofs.Ytcnmfgdeanbhoaa
open Go.RowKit

theorem set_two1 {T ty : Nat} {a b u : Value} {w : World} (h : w.heap[T]? = some (.cells #[a, b] ty (0, 0))) : (w.setCell ⟨T, 1, none⟩ u).heap[T]? = some (.cells #[a, u] ty (0, 0)) := by
  rw [Sort.setCell_eq]
  simp [Sort.mapBlock, Array.getElem?_modify, h, Sort.onCells]

set_option maxHeartbeats 400000 in
theorem rword15_any (s : List UInt8) (p : Nat) (w : World) (h : p + 2 ≤ s.length) (hl : s.length ≤ 9223372036854775807) :
    Calls Try.prog 29 #[.string ⟨s.toArray⟩, .int .i64 (p : Int)] w fun e w' => e = .returned (.int .i64 (Co.word s p)) ∧ w = w' := by
  have HO := Lib.hid (fun W => rone_any ((s.drop p).take 2) 2 W (by rw [List.length_take]; omega))
  have hx : (⟨s.toArray⟩ : ByteArray).extract p (p + 2) = ⟨((s.drop p).take 2).toArray⟩ := by rw [Gk.extract_list, show p + 2 - p = 2 by omega]
  have h1 : (p : Int) + 2 ≤ (s.length : Int) := by omega
  go_enter Try.func29, Try.ntmps29
  go_wp2_with fail
  refine (HO.out _).mono ?_
  rintro e w' ⟨rfl, rfl⟩
  go_wp2_with fail
  go_ret
  exact ⟨rfl, rfl⟩

set_option maxHeartbeats 800000 in
theorem rstair_short (s : List UInt8) (q : Nat) (w : World) (_hl : s.length ≤ 9223372036854000000) (hq : q ≤ 9223372036854000000) (h : s.length < q + 2) :
    Calls Try.prog 31 #[.string ⟨s.toArray⟩, .int .i64 (q : Int)] w (GotStair (([], []), 4) w) := by
  have hsz : (ByteArray.mk s.toArray).size = s.length := rfl
  have hw1 : IntKind.i64.wrap ((q : Int) + 2) = (q : Int) + 2 := IntWalk.i64_in _ (by omega)
  generalize s.length = sn at *
  have h1 : (sn : Int) < (q : Int) + 2 := by omega
  go_enter Try.func31, Try.ntmps31
  go_wp2_with fail
  refine bodyPost_ret (v := .tuple #[.agg #[.slice none 0 0, .slice none 0 0], .int .i64 4]) ?_ rfl (GotStair.nil rfl ?_)
  · simp [results, Try.results31, go_sem]
  · exact (Lo.refl w).alloc _

set_option maxHeartbeats 800000 in
theorem rstair_piece (s : List UInt8) (q n : Nat) (w : World) (hl : s.length ≤ 9223372036854000000) (hq : q ≤ 9223372036854000000) (h : q + 2 ≤ s.length) (hf : Co.word s q = (n : Int)) (hn : n ≤ 65535) (h2 : s.length < q + 6 + 8 * n) :
    Calls Try.prog 31 #[.string ⟨s.toArray⟩, .int .i64 (q : Int)] w (GotStair (([], []), 4) w) := by
  have HW := Lib.hid (fun W => rword15_any s q W h (by omega))
  rw [hf] at HW
  have hsz : (ByteArray.mk s.toArray).size = s.length := rfl
  generalize s.length = sn at *
  have h1 : ¬ (sn : Int) < (q : Int) + 2 := by omega
  have h3 : (sn : Int) < (q : Int) + 2 + 8 * (n : Int) + 4 := by omega
  clear hf
  go_enter Try.func31, Try.ntmps31
  go_wp2_with fail
  refine (HW.out _).mono ?_
  rintro e w1 ⟨rfl, rfl⟩
  go_wp2_with fail
  refine bodyPost_ret (v := .tuple #[.agg #[.slice none 0 0, .slice none 0 0], .int .i64 4]) ?_ rfl (GotStair.nil rfl ?_)
  · simp [results, Try.results31, go_sem]
  · exact (Lo.refl w).alloc _

set_option maxHeartbeats 800000 in
theorem rstair_long (s : List UInt8) (q n : Nat) (w : World) (hl : s.length ≤ 9223372036854000000) (hq : q ≤ 9223372036854000000) (h : q + 6 + 8 * n ≤ s.length) (hf : Co.word s q = (n : Int)) (hn : n ≤ 65535) (h2 : 64 < n) :
    Calls Try.prog 31 #[.string ⟨s.toArray⟩, .int .i64 (q : Int)] w (GotStair (([], []), 7) w) := by
  have HW := Lib.hid (fun W => rword15_any s q W (by omega) (by omega))
  rw [hf] at HW
  have hsz : (ByteArray.mk s.toArray).size = s.length := rfl
  generalize s.length = sn at *
  have h1 : ¬ (sn : Int) < (q : Int) + 2 := by omega
  have h3 : ¬ (sn : Int) < (q : Int) + 2 + 8 * (n : Int) + 4 := by omega
  have h4 : (64 : Int) < (n : Int) := by omega
  clear hf
  go_enter Try.func31, Try.ntmps31
  go_wp2_with fail
  refine (HW.out _).mono ?_
  rintro e w1 ⟨rfl, rfl⟩
  go_wp2_with fail
  refine bodyPost_ret (v := .tuple #[.agg #[.slice none 0 0, .slice none 0 0], .int .i64 7]) ?_ rfl (GotStair.nil rfl ?_)
  · simp [results, Try.results31, go_sem]
  · exact (Lo.refl w).alloc _

set_option maxRecDepth 100000 in
set_option maxHeartbeats 3200000 in
theorem rstair_read (s : List UInt8) (q n : Nat) (w : World) (hl : s.length ≤ 9223372036854000000) (hq : q ≤ 9223372036854000000) (h : q + 6 + 8 * n ≤ s.length) (hf : Co.word s q = (n : Int)) (hn : n ≤ 64) (x : Cu.Stair) (hx : Cu.rdS (s.drop q) n = x) :
    Calls Try.prog 31 #[.string ⟨s.toArray⟩, .int .i64 (q : Int)] w (GotStair (if Cu.isS x = true then (x, 0) else (([], []), 5)) w) := by
  have HW := Lib.hid (fun W => rword15_any s q W (by omega) (by omega))
  rw [hf] at HW
  have HO := Lib.hid (fun i (hi : i < 2 * n + 1) W => (by
    have h1 := rone_any ((s.drop (q + 2 + 4 * i)).take 2) (-2) W (by rw [List.length_take]; omega)
    rw [Cu.one_fld] at h1
    exact h1 : Calls Try.prog 61 #[.string ⟨((s.drop (q + 2 + 4 * i)).take 2).toArray⟩, .int .i64 (-2)] W fun e w' => e = .returned (.int .i64 (He.fld (s.drop q) (2 + 4 * i) (-2))) ∧ W = w'))
  have HE := Lib.hid (fun i => (by rw [Gk.extract_list, show q + 2 + 4 * i + 2 - (q + 2 + 4 * i) = 2 by omega] : (⟨s.toArray⟩ : ByteArray).extract (q + 2 + 4 * i) (q + 2 + 4 * i + 2) = ⟨((s.drop (q + 2 + 4 * i)).take 2).toArray⟩))
  have HS1 := Lib.hid (fun i (hi : i < n) => Cu.rdS_left (s.drop q) hi)
  have HS2 := Lib.hid (fun i (hi : n ≤ i) (hi2 : i < 2 * n + 1) => Cu.rdS_right (s.drop q) hi hi2)
  have HAll := Lib.hid (Cu.rdS_all (s.drop q) n)
  have hlen := Cu.rdS_len (s.drop q) n
  rw [hx] at HS1 HS2 HAll hlen
  have HI := Lib.hid (fun (u v : Value) W (a : Row W u x.1) (b : Row W v x.2) => rcuis_any u v x W a b)
  obtain ⟨r, hr⟩ : ∃ r, (if Cu.isS x = true then (x, (0 : Int)) else (([], []), 5)) = r := ⟨_, rfl⟩
  rw [hr]
  have HR := Lib.hid hr
  have hsz : (ByteArray.mk s.toArray).size = s.length := rfl
  have HX := Lib.hid (fun i (hi : i < 2 * n + 1) => (by omega : q + 2 + 4 * i + 2 ≤ s.length))
  generalize He.fld (s.drop q) = fl at *
  generalize s.length = sn at *
  have h1 : ¬ (sn : Int) < (q : Int) + 2 := by omega
  have h3 : ¬ (sn : Int) < (q : Int) + 2 + 8 * (n : Int) + 4 := by omega
  have h4 : ¬ (64 : Int) < (n : Int) := by omega
  have HLen := Lib.hid hlen
  clear hf hr hx hlen
  go_enter Try.func31, Try.ntmps31
  go_wp2_with fail
  generalize hW : World.alloc w _ = w0
  have HL : Hid (Lo w w0) := Lib.hid (by rw [← hW]; exact (Lo.refl w).alloc _)
  have HB : Hid (w0.heap[w.heap.size]? = some (.cells #[.slice none 0 0, .slice none 0 0] 35 (0, 0))) := Lib.hid (by rw [← hW]; exact new_block w _)
  have HT : Hid (w.heap.size + 1 = w0.heap.size) := Lib.hid (by rw [← hW]; simp)
  clear hW
  refine (HW.out _).mono ?_
  rintro e w1 ⟨rfl, rfl⟩
  go_wp2_with fail
  have HX0 : Hid ((w0.alloc (.cells #[.slice none 0 0, .slice none 0 0] 35)).heap[w0.heap.size]? = some (.cells #[.slice none 0 0, .slice none 0 0] 35 (0, 0))) := Lib.hid (new_block w0 _)
  have HS0 : Hid (w0.heap.size + 1 ≤ (w0.alloc (.cells #[.slice none 0 0, .slice none 0 0] 35)).heap.size) := Lib.hid (by simp)
  have HL0 : Hid (Lo w0 (w0.alloc (.cells #[.slice none 0 0, .slice none 0 0] 35))) := Lib.hid ((Lo.refl w0).alloc _)
  generalize w0.alloc (.cells #[.slice none 0 0, .slice none 0 0] 35) = w1 at *
  generalize hX : w0.heap.size = X at *
  have HXs := Lib.hid hX
  clear hX HW h1 h3 h4
  go_loopw [8, 9, 10] (fun s8 _ _ W => ∃ (i a b : Nat) (pa : Option Addr) (ca : Nat) (pb : Option Addr) (cb : Nat), i ≤ 2 * n + 1 ∧ s8 = .int .i64 i ∧ Hid ((x.1.take i).length = a) ∧ Hid ((x.2.take (i - n)).length = b) ∧ Hid (W.heap[X]? = some (.cells #[.slice pa a ca, .slice pb b cb] 35 (0, 0))) ∧ Hid (Own W (X + 1) (.slice pa a ca) (x.1.take i)) ∧ Hid (Own W (X + 1) (.slice pb b cb) (x.2.take (i - n))) ∧ Hid (Apart (.slice pa a ca) (.slice pb b cb)) ∧ Hid (X + 1 ≤ W.heap.size) ∧ Hid (Lo w0 W)) (fun s8 _ _ _ => 2 * n + 1 - (intOf s8).toNat)
  case atStart => exact ⟨0, 0, 0, none, 0, none, 0, by omega, rfl, Lib.hid rfl, Lib.hid (by simp), HX0, Lib.hid (Own.none _ _), Lib.hid (by rw [show 0 - n = 0 by omega]; exact Own.none _ _), Lib.hid (fun g h => by cases h), HS0, HL0⟩
  case round =>
    obtain ⟨i, a, b, pa, ca, pb, cb, hi, rfl, HA, HBl, HBk, HOa, HOb, HAp, HSz, HLk⟩ := hrel
    clear HX0 HS0 HL0
    obtain ⟨⟨c0, c1⟩, f0, f1⟩ := cu_two HBk.out
    by_cases hlt : i < 2 * n + 1
    · obtain ⟨P, hP⟩ : ∃ P : Nat, q + 2 + 4 * i = P := ⟨_, rfl⟩
      have hP2 : (q : Int) + 2 + 4 * (i : Int) = (P : Int) := by omega
      have hlt2 : (i : Int) < 2 * (n : Int) + 1 := by omega
      have hOi := HO.out i hlt
      have hEi := HE.out i
      have hXi := HX.out i hlt
      rw [hP] at hOi hEi hXi
      have HOi := Lib.hid hOi
      have hPs : (P : Int) + 2 ≤ (sn : Int) := by omega
      have ha : a ≤ 200 := by rw [← HA.out, List.length_take]; omega
      have hb : b ≤ 200 := by rw [← HBl.out, List.length_take]; omega
      clear hOi HO HE HX hP hXi
      generalize (s.drop P).take 2 = piece at *
      by_cases hin : i < n
      · have hin2 : (i : Int) < (n : Int) := by omega
        obtain ⟨g1, g2⟩ := HS1.out i hin
        have HG1 := Lib.hid g1
        have HG2 := Lib.hid g2
        clear g1 g2 HS1 HS2 HAll
        generalize fl (2 + 4 * i) (-2) = z at *
        go_wp2_with fail
        refine (HOi.out _).mono ?_
        rintro e w2 ⟨rfl, rfl⟩
        go_wp2_with (at_builtin; refine wpList_appT _ rfl (.tmp 55) (.tmp 57) rfl (X + 1) (.slice pa a ca) _ rfl (HOa.out.lo ((Lo.refl _).alloc _)) _ [z] rfl (row1 _ _ (by simp) z) (by simp) (by rw [HA.out]; simp; omega) (by have := HSz.out; simp; omega) ?_
                     rw [HA.out]
                     intro p1 c1 w6 told
                     have HO6 := Lib.hid told.own
                     have HB6 := Lib.hid (told.other (HOb.out.lo ((Lo.refl _).alloc _)) HAp.out)
                     have HL6 := Lib.hid (told.lo w0 (HLk.out.alloc _) (by rw [HXs.out]; omega))
                     have HK6 := Lib.hid (block_agr told.agr (lo_block ((Lo.refl _).alloc _) HBk.out) (fun hS => by have := (World.ownsRow.lt HOa.out X hS).1; omega))
                     have HZ6 := Lib.hid told.agr.1
                     clear told
                     obtain ⟨⟨d0, d1⟩, e0, e1⟩ := cu_two HK6.out)
        go_roundw
        case rel =>
          refine ⟨i + 1, a + 1, b, p1, c1, pb, cb, by omega, by go_num, Lib.hid (by rw [HG1.out, List.length_append, HA.out]; rfl), Lib.hid (by rw [HG2.out]; exact HBl.out), Lib.hid (set_two HK6.out), ?_, ?_, Lib.hid HB6.out.2, Lib.hid (by have := HZ6.out; have := HSz.out; simp at *; omega), Lib.hid (HL6.out.set (p := ⟨X, 0, none⟩) (by rw [HXs.out]; exact Nat.le_refl _) _)⟩
          · exact Lib.hid (by rw [HG1.out]; exact HO6.out.agr (agr_set (S := fun T => T = X) _ _ _ rfl) fun g hg hS => by have := (World.ownsRow.lt HO6.out g hg).1; omega)
          · exact Lib.hid (by rw [HG2.out]; exact HB6.out.1.agr (agr_set (S := fun T => T = X) _ _ _ rfl) fun g hg hS => by have := (World.ownsRow.lt HB6.out.1 g hg).1; omega)
        case measure => simp [intOf]; omega
      · have hin2 : ¬ (i : Int) < (n : Int) := by omega
        obtain ⟨g1, g2⟩ := HS2.out i (by omega) hlt
        have HG1 := Lib.hid g1
        have HG2 := Lib.hid g2
        clear g1 g2 HS1 HS2 HAll
        generalize fl (2 + 4 * i) (-2) = z at *
        go_wp2_with fail
        refine (HOi.out _).mono ?_
        rintro e w2 ⟨rfl, rfl⟩
        go_wp2_with (at_builtin; refine wpList_appT _ rfl (.tmp 61) (.tmp 63) rfl (X + 1) (.slice pb b cb) _ rfl (HOb.out.lo ((Lo.refl _).alloc _)) _ [z] rfl (row1 _ _ (by simp) z) (by simp) (by rw [HBl.out]; simp; omega) (by have := HSz.out; simp; omega) ?_
                     rw [HBl.out]
                     intro p1 c1 w6 told
                     have HO6 := Lib.hid told.own
                     have HB6 := Lib.hid (told.other (HOa.out.lo ((Lo.refl _).alloc _)) HAp.out.symm)
                     have HL6 := Lib.hid (told.lo w0 (HLk.out.alloc _) (by rw [HXs.out]; omega))
                     have HK6 := Lib.hid (block_agr told.agr (lo_block ((Lo.refl _).alloc _) HBk.out) (fun hS => by have := (World.ownsRow.lt HOb.out X hS).1; omega))
                     have HZ6 := Lib.hid told.agr.1
                     clear told
                     obtain ⟨⟨d0, d1⟩, e0, e1⟩ := cu_two HK6.out)
        go_roundw
        case rel =>
          refine ⟨i + 1, a, b + 1, pa, ca, p1, c1, by omega, by go_num, Lib.hid (by rw [HG1.out]; exact HA.out), Lib.hid (by rw [HG2.out, List.length_append, HBl.out]; rfl), Lib.hid (set_two1 HK6.out), ?_, ?_, Lib.hid HB6.out.2.symm, Lib.hid (by have := HZ6.out; have := HSz.out; simp at *; omega), Lib.hid (HL6.out.set (p := ⟨X, 1, none⟩) (by rw [HXs.out]; exact Nat.le_refl _) _)⟩
          · exact Lib.hid (by rw [HG1.out]; exact HB6.out.1.agr (agr_set (S := fun T => T = X) _ _ _ rfl) fun g hg hS => by have := (World.ownsRow.lt HB6.out.1 g hg).1; omega)
          · exact Lib.hid (by rw [HG2.out]; exact HO6.out.agr (agr_set (S := fun T => T = X) _ _ _ rfl) fun g hg hS => by have := (World.ownsRow.lt HO6.out g hg).1; omega)
        case measure => simp [intOf]; omega
    · obtain rfl : i = 2 * n + 1 := by omega
      rw [HAll.out.1] at HA HOa
      rw [HAll.out.2] at HBl HOb
      obtain rfl : x.1.length = a := HA.out
      obtain rfl : x.2.length = b := HBl.out
      have hlt2 : ¬ (((2 * n + 1 : Nat) : Int)) < 2 * (n : Int) + 1 := by omega
      generalize x.1.length = a at *
      generalize x.2.length = b at *
      clear HS1 HS2 HAll HO HE HX HA HBl
      go_wp2_with fail
      refine (HI.out _ _ _ HOa.out.row HOb.out.row).mono ?_
      rintro e w6 ⟨rfl, lo⟩
      have HL6 := Lib.hid (HL.out.trans (HLk.out.trans lo))
      have HU6 := Lib.hid (HOa.out.lo lo)
      have HV6 := Lib.hid (HOb.out.lo lo)
      obtain ⟨⟨q0, q1⟩, r0, r1⟩ := cu_two (lo_block (HLk.out.trans lo) HB.out)
      have HY6 := Lib.hid (lo_block lo HBk.out)
      clear c0 c1 f0 f1
      obtain ⟨⟨y0, y1⟩, _, _⟩ := cu_two HY6.out
      clear lo HI
      cases hs : Cu.isS x with
      | false =>
        obtain rfl : r = (([], []), 5) := by rw [← HR.out, hs, if_neg (by simp)]
        go_wp2_with fail
        refine bodyPost_ret (v := .tuple #[.agg #[.slice none 0 0, .slice none 0 0], .int .i64 5]) ?_ rfl (GotStair.nil rfl ?_)
        · simp [results, Try.results31, go_sem, q0, q1]
        · exact Lo.set2 HL6.out (Nat.le_refl _) _ _
      | true =>
        obtain rfl : r = (x, 0) := by rw [← HR.out, if_pos hs]
        go_wp2_with fail
        refine bodyPost_ret (v := .tuple #[.agg #[.slice pa a ca, .slice pb b cb], .int .i64 0]) ?_ rfl ⟨_, _, rfl, ?_, ?_⟩
        · simp [results, Try.results31, go_sem, q0, q1]
        · refine Ind.and ?_ ?_
          · exact Own.new (Own.set (Own.set HU6.out (p := ⟨w.heap.size, 0, none⟩) (by have := HT.out; show w.heap.size < _; omega) _) (p := ⟨w.heap.size, 1, none⟩) (by have := HT.out; show w.heap.size < _; omega) _) (by have := HT.out; omega)
          · exact Own.new (Own.set (Own.set HV6.out (p := ⟨w.heap.size, 0, none⟩) (by have := HT.out; show w.heap.size < _; omega) _) (p := ⟨w.heap.size, 1, none⟩) (by have := HT.out; show w.heap.size < _; omega) _) (by have := HT.out; omega)
        · exact Lo.set2 HL6.out (Nat.le_refl _) _ _

/-- stair. -/
theorem rstair_any (s : List UInt8) (q : Nat) (w : World) (hl : s.length ≤ 9223372036854000000) (hq : q ≤ 9223372036854000000) :
    Calls Try.prog 31 #[.string ⟨s.toArray⟩, .int .i64 (q : Int)] w (GotStair (Cu.gst (s.drop q)) w) := by
  unfold Cu.gst
  obtain ⟨n, hn, hn2⟩ := Cu.word_nat (s.drop q) 0
  have hw : Co.word s q = (n : Int) := by
    have h1 := Co.word_drop s q 0
    rw [Nat.add_zero] at h1
    rw [← h1]; exact hn
  rw [hn, Int.toNat_natCast, List.length_drop]
  by_cases c1 : s.length < q + 2
  · rw [if_pos (by omega)]; exact rstair_short s q w hl hq c1
  · rw [if_neg (by omega)]
    by_cases c2 : s.length < q + 6 + 8 * n
    · rw [if_pos (by omega)]; exact rstair_piece s q n w hl hq (by omega) hw hn2 c2
    · rw [if_neg (by omega)]
      by_cases c3 : 64 < n
      · rw [if_pos c3]; exact rstair_long s q n w hl hq (by omega) hw hn2 c3
      · rw [if_neg c3]; exact rstair_read s q n w hl hq (by omega) hw (by omega) _ rfl
end Go.Proofs.Ytcnmfgdeanbhoaa
