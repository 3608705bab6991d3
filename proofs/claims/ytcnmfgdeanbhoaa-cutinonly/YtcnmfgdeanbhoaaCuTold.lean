/-
  The contract of the law's closed rows of layer 15. No conditions beyond those stated.
-/
import Derived.Test.YtcnmfgdeanbhoaaPart10
import Derived.Test.YtcnmfgdeanbhoaaPart14
import Derived.Test.YtcnmfgdeanbhoaaPart16
namespace Go.Proofs.Ytcnmfgdeanbhoaa
open Go.RowKit

def cuX : Cu.Stair := ([100], [-5, 7])
def cuL : List Cu.Kern := [(3, [([], []), cuX, ([], []), ([], [])])]
def cuS : List UInt8 := [0, 12, 0, 1, 0, 0, 0, 18, 0, 0, 0, 0, 0, 1, 0, 1, 0, 3, 0, 1, 0, 100, 0, 0, 255, 251, 0, 0, 0, 7, 0, 0]
def cuT : List UInt8 := [0, 12, 0, 1, 0, 0, 0, 18, 0, 0, 0, 0, 0, 1, 0, 1, 0, 3, 0, 1, 0, 100, 0, 0, 255, 251, 0, 0, 0, 7, 0]
theorem cu_put : Cu.put cuL = (cuS, 0) := by kernel_rfl
theorem cu_get : Cu.get (121 :: cuS) 1 = (cuL, 0) := by kernel_rfl
theorem cu_more : Cu.get cuT 0 = ([], 4) := by kernel_rfl
theorem cu_a : Cu.ht cuX 99 = -5 := by kernel_rfl
theorem cu_b : Cu.ht cuX 100 = 7 := by kernel_rfl
theorem cu_c : Cu.find cuL 3 1 100 = 7 := by kernel_rfl
theorem cu_d : Cu.find cuL 3 0 100 = 0 := by kernel_rfl
theorem cu_is : Cu.isS cuX = true := by kernel_rfl
theorem cu_right : Cu.isK cuL = true := by kernel_rfl
theorem cu_wrong : Cu.isK [Cu.zK] = false := by kernel_rfl

set_option maxHeartbeats 400000 in
theorem cufront_any (w : World) : Calls Try.prog 40 #[.string ⟨cuS.toArray⟩, .int .i64 31] w fun e w' => e = .returned (.string ⟨cuT.toArray⟩) ∧ w = w' := by
  have hs : (ByteArray.mk cuS.toArray).size = 32 := rfl
  have hx : (ByteArray.mk cuS.toArray).extract 0 31 = ⟨cuT.toArray⟩ := by
    have := Gk.extract_list cuS 0 31
    exact this
  generalize ByteArray.mk cuS.toArray = B at *
  generalize cuT.toArray = T at *
  go_enter Try.func40, Try.ntmps40
  go_wp2_with fail
  go_ret
  exact ⟨rfl, rfl⟩

theorem two_at {W : World} {B o : Nat} {a b : Value} (c0 : W.cell? ⟨B, o, none⟩ = some a) (c1 : W.cell? ⟨B, o + 1, none⟩ = some b) : ∀ j, j < 2 → W.cell? ⟨B, o + j, none⟩ = [a, b][j]?
  | 0, _ => c0
  | 1, _ => c1
  | j + 2, h => absurd h (by omega)
/-- The literal of four stairs, of which the second one has kerns. -/
theorem srow_lit (W : World) (B : Nat) (u v : Value) (x : Cu.Stair) (h : W.heap[B]? = some (.cells #[.slice none 0 0, .slice none 0 0, u, v, .slice none 0 0, .slice none 0 0, .slice none 0 0, .slice none 0 0] 35 (0, 0))) (h1 : Row W u x.1) (h2 : Row W v x.2) :
    SRowC W (.slice (some ⟨B, 0, none⟩) 4 4) [([], []), x, ([], []), ([], [])] := by
  refine .inr ⟨B, 0, 4, rfl, by simp, by simp, (by
    rcases Nat.lt_or_ge B W.heap.size with hlt | hge
    · exact hlt
    · rw [Array.getElem?_eq_none hge] at h; cases h), fun i y hy => ?_⟩
  have hn : Row W (.slice none 0 0) [] := .inl ⟨_, _, rfl, fun _ => rfl, rfl⟩
  match i, hy with
  | 0, hy => simp at hy; subst hy; exact ⟨[.slice none 0 0, .slice none 0 0], rfl, ⟨_, _, rfl, hn, hn⟩, two_at (o := 0) (block_cell h rfl) (block_cell h rfl)⟩
  | 1, hy => simp at hy; subst hy; exact ⟨[u, v], rfl, ⟨_, _, rfl, h1, h2⟩, two_at (o := 2) (block_cell h rfl) (block_cell h rfl)⟩
  | 2, hy => simp at hy; subst hy; exact ⟨[.slice none 0 0, .slice none 0 0], rfl, ⟨_, _, rfl, hn, hn⟩, two_at (o := 4) (block_cell h rfl) (block_cell h rfl)⟩
  | 3, hy => simp at hy; subst hy; exact ⟨[.slice none 0 0, .slice none 0 0], rfl, ⟨_, _, rfl, hn, hn⟩, two_at (o := 6) (block_cell h rfl) (block_cell h rfl)⟩
  | i + 4, hy => simp at hy
theorem krow_lit (W : World) (B : Nat) (u : Value) (x : Cu.Kern) (h : W.heap[B]? = some (.cells #[.int .i64 x.1, u] 42 (0, 0))) (h1 : SRowC W u x.2) : KRowC W (.slice (some ⟨B, 0, none⟩) 1 1) [x] := by
  refine .inr ⟨B, 0, 1, rfl, by simp, by simp, (by
    rcases Nat.lt_or_ge B W.heap.size with hlt | hge
    · exact hlt
    · rw [Array.getElem?_eq_none hge] at h; cases h), fun i y hy => ?_⟩
  match i, hy with
  | 0, hy => simp at hy; subst hy; exact ⟨[.int .i64 x.1, u], rfl, ⟨_, rfl, h1⟩, two_at (o := 0) (block_cell h rfl) (block_cell h rfl)⟩
  | i + 1, hy => simp at hy

theorem stepped_world (w : World) : Lo w (((((w.alloc (.cells #[.int .i64 100] 3)).alloc (.cells #[.int .i64 (-5), .int .i64 7] 3)).alloc (.cells #[.slice (some ⟨w.heap.size, 0, none⟩) 1 1, .slice (some ⟨w.heap.size + 1, 0, none⟩) 2 2] 35)).alloc (.cells #[.slice none 0 0, .slice none 0 0, .slice (some ⟨w.heap.size, 0, none⟩) 1 1, .slice (some ⟨w.heap.size + 1, 0, none⟩) 2 2, .slice none 0 0, .slice none 0 0, .slice none 0 0, .slice none 0 0] 35)).alloc (.cells #[.int .i64 3, .slice (some ⟨w.heap.size + 1 + 1 + 1, 0, none⟩) 4 4] 42)) ∧ Row (((((w.alloc (.cells #[.int .i64 100] 3)).alloc (.cells #[.int .i64 (-5), .int .i64 7] 3)).alloc (.cells #[.slice (some ⟨w.heap.size, 0, none⟩) 1 1, .slice (some ⟨w.heap.size + 1, 0, none⟩) 2 2] 35)).alloc (.cells #[.slice none 0 0, .slice none 0 0, .slice (some ⟨w.heap.size, 0, none⟩) 1 1, .slice (some ⟨w.heap.size + 1, 0, none⟩) 2 2, .slice none 0 0, .slice none 0 0, .slice none 0 0, .slice none 0 0] 35)).alloc (.cells #[.int .i64 3, .slice (some ⟨w.heap.size + 1 + 1 + 1, 0, none⟩) 4 4] 42)) (.slice (some ⟨w.heap.size, 0, none⟩) 1 1) [100] ∧ Row (((((w.alloc (.cells #[.int .i64 100] 3)).alloc (.cells #[.int .i64 (-5), .int .i64 7] 3)).alloc (.cells #[.slice (some ⟨w.heap.size, 0, none⟩) 1 1, .slice (some ⟨w.heap.size + 1, 0, none⟩) 2 2] 35)).alloc (.cells #[.slice none 0 0, .slice none 0 0, .slice (some ⟨w.heap.size, 0, none⟩) 1 1, .slice (some ⟨w.heap.size + 1, 0, none⟩) 2 2, .slice none 0 0, .slice none 0 0, .slice none 0 0, .slice none 0 0] 35)).alloc (.cells #[.int .i64 3, .slice (some ⟨w.heap.size + 1 + 1 + 1, 0, none⟩) 4 4] 42)) (.slice (some ⟨w.heap.size + 1, 0, none⟩) 2 2) [-5, 7] ∧
    (((((w.alloc (.cells #[.int .i64 100] 3)).alloc (.cells #[.int .i64 (-5), .int .i64 7] 3)).alloc (.cells #[.slice (some ⟨w.heap.size, 0, none⟩) 1 1, .slice (some ⟨w.heap.size + 1, 0, none⟩) 2 2] 35)).alloc (.cells #[.slice none 0 0, .slice none 0 0, .slice (some ⟨w.heap.size, 0, none⟩) 1 1, .slice (some ⟨w.heap.size + 1, 0, none⟩) 2 2, .slice none 0 0, .slice none 0 0, .slice none 0 0, .slice none 0 0] 35)).alloc (.cells #[.int .i64 3, .slice (some ⟨w.heap.size + 1 + 1 + 1, 0, none⟩) 4 4] 42)).heap[w.heap.size + 1 + 1]? = some (.cells #[.slice (some ⟨w.heap.size, 0, none⟩) 1 1, .slice (some ⟨w.heap.size + 1, 0, none⟩) 2 2] 35 (0, 0)) ∧ KRowC (((((w.alloc (.cells #[.int .i64 100] 3)).alloc (.cells #[.int .i64 (-5), .int .i64 7] 3)).alloc (.cells #[.slice (some ⟨w.heap.size, 0, none⟩) 1 1, .slice (some ⟨w.heap.size + 1, 0, none⟩) 2 2] 35)).alloc (.cells #[.slice none 0 0, .slice none 0 0, .slice (some ⟨w.heap.size, 0, none⟩) 1 1, .slice (some ⟨w.heap.size + 1, 0, none⟩) 2 2, .slice none 0 0, .slice none 0 0, .slice none 0 0, .slice none 0 0] 35)).alloc (.cells #[.int .i64 3, .slice (some ⟨w.heap.size + 1 + 1 + 1, 0, none⟩) 4 4] 42)) (.slice (some ⟨w.heap.size + 1 + 1 + 1 + 1, 0, none⟩) 1 1) cuL := by
  have h1 := row1 w w.heap.size rfl 100
  have l1 := (Lo.refl w).alloc (.cells #[.int .i64 100] 3)
  have e1 : (w.alloc (.cells #[.int .i64 100] 3)).heap.size = w.heap.size + 1 := by simp
  generalize w.alloc (.cells #[.int .i64 100] 3) = w1 at *
  have h2 := row2 w1 (w.heap.size + 1) e1.symm (-5) 7
  have l2 := (Lo.refl w1).alloc (.cells #[.int .i64 (-5), .int .i64 7] 3)
  have e2 : (w1.alloc (.cells #[.int .i64 (-5), .int .i64 7] 3)).heap.size = w.heap.size + 1 + 1 := by simp [e1]
  generalize w1.alloc (.cells #[.int .i64 (-5), .int .i64 7] 3) = w2 at *
  have h3 := new_block w2 (.cells #[.slice (some ⟨w.heap.size, 0, none⟩) 1 1, .slice (some ⟨w.heap.size + 1, 0, none⟩) 2 2] 35)
  have l3 := (Lo.refl w2).alloc (.cells #[.slice (some ⟨w.heap.size, 0, none⟩) 1 1, .slice (some ⟨w.heap.size + 1, 0, none⟩) 2 2] 35)
  have e3 : (w2.alloc (.cells #[.slice (some ⟨w.heap.size, 0, none⟩) 1 1, .slice (some ⟨w.heap.size + 1, 0, none⟩) 2 2] 35)).heap.size = w.heap.size + 1 + 1 + 1 := by simp [e2]
  rw [e2] at h3
  generalize w2.alloc (.cells #[.slice (some ⟨w.heap.size, 0, none⟩) 1 1, .slice (some ⟨w.heap.size + 1, 0, none⟩) 2 2] 35) = w3 at *
  have h4 := new_block w3 (.cells #[.slice none 0 0, .slice none 0 0, .slice (some ⟨w.heap.size, 0, none⟩) 1 1, .slice (some ⟨w.heap.size + 1, 0, none⟩) 2 2, .slice none 0 0, .slice none 0 0, .slice none 0 0, .slice none 0 0] 35)
  have l4 := (Lo.refl w3).alloc (.cells #[.slice none 0 0, .slice none 0 0, .slice (some ⟨w.heap.size, 0, none⟩) 1 1, .slice (some ⟨w.heap.size + 1, 0, none⟩) 2 2, .slice none 0 0, .slice none 0 0, .slice none 0 0, .slice none 0 0] 35)
  have e4 : (w3.alloc (.cells #[.slice none 0 0, .slice none 0 0, .slice (some ⟨w.heap.size, 0, none⟩) 1 1, .slice (some ⟨w.heap.size + 1, 0, none⟩) 2 2, .slice none 0 0, .slice none 0 0, .slice none 0 0, .slice none 0 0] 35)).heap.size = w.heap.size + 1 + 1 + 1 + 1 := by simp [e3]
  rw [e3] at h4
  generalize w3.alloc (.cells #[.slice none 0 0, .slice none 0 0, .slice (some ⟨w.heap.size, 0, none⟩) 1 1, .slice (some ⟨w.heap.size + 1, 0, none⟩) 2 2, .slice none 0 0, .slice none 0 0, .slice none 0 0, .slice none 0 0] 35) = w4 at *
  have h5 := new_block w4 (.cells #[.int .i64 3, .slice (some ⟨w.heap.size + 1 + 1 + 1, 0, none⟩) 4 4] 42)
  have l5 := (Lo.refl w4).alloc (.cells #[.int .i64 3, .slice (some ⟨w.heap.size + 1 + 1 + 1, 0, none⟩) 4 4] 42)
  rw [e4] at h5
  generalize w4.alloc (.cells #[.int .i64 3, .slice (some ⟨w.heap.size + 1 + 1 + 1, 0, none⟩) 4 4] 42) = w5 at *
  have l35 := l4.trans l5
  have l25 := l3.trans l35
  have r1 := (h1.lo l2).lo l25
  have r2 := h2.lo l25
  exact ⟨((l1.trans l2).trans l25), r1, r2, lo_block l35 h3, krow_lit _ _ _ (3, [([], []), cuX, ([], []), ([], [])]) h5 (srow_lit _ _ _ _ cuX (lo_block l5 h4) r1 r2)⟩

set_option maxRecDepth 100000 in
set_option maxHeartbeats 3200000 in
theorem stepped_any (w : World) : Calls Try.prog 14 #[] w fun e w' => e = .returned (.bool true) ∧ Lo w w' := by
  have HP := Lib.hid (fun (v : Value) (W : World) (h : KRowC W v cuL) => cuput_any v cuL W h (by decide))
  rw [cu_put] at HP
  have HG := Lib.hid (fun W => cuget_any (121 :: cuS) 1 W (by decide) (by omega))
  rw [cu_get] at HG
  have HG2 := Lib.hid (fun W => cuget_any cuT 0 W (by decide) (by omega))
  rw [cu_more] at HG2
  have HA := Lib.hid (fun (u v : Value) (W : World) (h : Row W u cuX.1) (h2 : Row W v cuX.2) => cuat_any u v cuX 99 W h h2)
  rw [cu_a] at HA
  have HB := Lib.hid (fun (u v : Value) (W : World) (h : Row W u cuX.1) (h2 : Row W v cuX.2) => cuat_any u v cuX 100 W h h2)
  rw [cu_b] at HB
  have HC := Lib.hid (fun (v : Value) (W : World) (h : KRowC W v cuL) => cufind_any v cuL 3 1 100 W h (by decide))
  rw [cu_c] at HC
  have HD := Lib.hid (fun (v : Value) (W : World) (h : KRowC W v cuL) => cufind_any v cuL 3 0 100 W h (by decide))
  rw [cu_d] at HD
  have HI := Lib.hid (fun (u v : Value) (W : World) (h : Row W u cuX.1) (h2 : Row W v cuX.2) => cuis_any u v cuX W h h2)
  rw [cu_is] at HI
  have HRt := Lib.hid (fun (v : Value) (W : World) (h : KRowC W v cuL) => curight_any v cuL W h (by decide))
  rw [cu_right] at HRt
  have HWr := Lib.hid (fun (v : Value) (W : World) (h : KRowC W v [Cu.zK]) => curight_any v [Cu.zK] W h (by decide))
  rw [cu_wrong] at HWr
  have HS := Lib.hid (fun (v u : Value) (W : World) (h : KRowC W v cuL) (h2 : KRowC W u cuL) => samek_any cuL v u W h h2)
  have HFr := Lib.hid (fun W => cufront_any W)
  unfold strErr at HP
  unfold GotKerns at HG HG2
  rw [show (cuL, (0 : Int)).1.length = 1 from rfl] at HG
  have hs : (ByteArray.mk cuS.toArray).size = 32 := rfl
  have hadd : ∀ W, (Op.stringOp .add ⟨#[121]⟩ ⟨cuS.toArray⟩).run Try.prog W = .ok (.string ⟨(121 :: cuS).toArray⟩) W := fun W => by
    have := run_string_add_sum (P := Try.prog) W ⟨([121] : List UInt8).toArray⟩ ⟨cuS.toArray⟩ (by decide)
    rw [Gk.cat_list] at this
    exact this
  dsimp only at HP HG HG2
  generalize (121 :: cuS).toArray = S1 at *
  generalize cuS.toArray = S0 at *
  generalize cuT.toArray = T at *
  go_enter Try.func14, Try.ntmps14
  go_wp2_with fail
  obtain ⟨k1, k2, k3, k4, k5⟩ := stepped_world w
  generalize (((((w.alloc (.cells #[.int .i64 100] 3)).alloc (.cells #[.int .i64 (-5), .int .i64 7] 3)).alloc (.cells #[.slice (some ⟨w.heap.size, 0, none⟩) 1 1, .slice (some ⟨w.heap.size + 1, 0, none⟩) 2 2] 35)).alloc (.cells #[.slice none 0 0, .slice none 0 0, .slice (some ⟨w.heap.size, 0, none⟩) 1 1, .slice (some ⟨w.heap.size + 1, 0, none⟩) 2 2, .slice none 0 0, .slice none 0 0, .slice none 0 0, .slice none 0 0] 35)).alloc (.cells #[.int .i64 3, .slice (some ⟨w.heap.size + 1 + 1 + 1, 0, none⟩) 4 4] 42)) = W0 at *
  have HL := Lib.hid k1
  have HR1 := Lib.hid k2
  have HR2 := Lib.hid k3
  have HX := Lib.hid k4
  have HR := Lib.hid k5
  clear k1 k2 k3 k4 k5
  refine (HP.out _ _ HR.out).mono ?_
  rintro e w1 ⟨rfl, lo⟩
  have HW := Lib.hid lo
  clear lo HP
  go_wp2_with fail
  refine (HG.out _).mono ?_
  rintro e w2 ⟨p, c, rfl, hrow, lo⟩
  have HW2 := Lib.hid (HW.out.trans lo)
  have HM := Lib.hid hrow
  clear lo hrow HG HW
  go_wp2_with fail
  refine (HFr.out _).mono ?_
  rintro e w3 ⟨rfl, rfl⟩
  go_wp2_with fail
  refine (HG2.out _).mono ?_
  rintro e w4 ⟨p4, c4, rfl, _, lo⟩
  have HW4 := Lib.hid (HW2.out.trans lo)
  have HM4 := Lib.hid (KRowC.lo HM.out lo)
  clear lo HM HG2 HW2
  go_wp2_with fail
  refine (HS.out _ _ _ (KRowC.lo HR.out HW4.out) HM4.out).mono ?_
  rintro e w5 ⟨rfl, lo⟩
  have HW5 := Lib.hid (HW4.out.trans lo)
  clear lo HM4 HS HW4
  obtain ⟨d0, d1⟩ := two_cells (lo_block HW5.out HX.out)
  go_wp2_with fail
  refine (HA.out _ _ _ (HR1.out.lo HW5.out) (HR2.out.lo HW5.out)).mono ?_
  rintro e w6 ⟨rfl, lo⟩
  have HW6 := Lib.hid (HW5.out.trans lo)
  clear lo HA HW5 d0 d1
  obtain ⟨d0, d1⟩ := two_cells (lo_block HW6.out HX.out)
  go_wp2_with fail
  refine (HB.out _ _ _ (HR1.out.lo HW6.out) (HR2.out.lo HW6.out)).mono ?_
  rintro e w7 ⟨rfl, lo⟩
  have HW7 := Lib.hid (HW6.out.trans lo)
  clear lo HB HW6 d0 d1
  go_wp2_with fail
  refine (HC.out _ _ (KRowC.lo HR.out HW7.out)).mono ?_
  rintro e w8 ⟨rfl, lo⟩
  have HW8 := Lib.hid (HW7.out.trans lo)
  clear lo HC HW7
  go_wp2_with fail
  refine (HD.out _ _ (KRowC.lo HR.out HW8.out)).mono ?_
  rintro e w9 ⟨rfl, lo⟩
  have HW9 := Lib.hid (HW8.out.trans lo)
  clear lo HD HW8
  obtain ⟨d0, d1⟩ := two_cells (lo_block HW9.out HX.out)
  go_wp2_with fail
  refine (HI.out _ _ _ (HR1.out.lo HW9.out) (HR2.out.lo HW9.out)).mono ?_
  rintro e w10 ⟨rfl, lo⟩
  have HW10 := Lib.hid (HW9.out.trans lo)
  clear lo HI HW9 d0 d1
  go_wp2_with fail
  refine (HRt.out _ _ (KRowC.lo HR.out HW10.out)).mono ?_
  rintro e w11 ⟨rfl, lo⟩
  have HW11 := Lib.hid (HW10.out.trans lo)
  clear lo HRt HW10
  go_wp2_with fail
  refine (HWr.out _ _ (krow_lit _ _ _ Cu.zK (new_block w11 _) (.inl ⟨_, _, rfl, fun _ => rfl, rfl⟩))).mono ?_
  rintro e w12 ⟨rfl, lo⟩
  have HW12 := Lib.hid (HW11.out.trans (((Lo.refl _).alloc _).trans lo))
  clear lo HWr HW11
  go_wp2_with fail
  go_ret
  exact ⟨rfl, HL.out.trans HW12.out⟩
end Go.Proofs.Ytcnmfgdeanbhoaa
