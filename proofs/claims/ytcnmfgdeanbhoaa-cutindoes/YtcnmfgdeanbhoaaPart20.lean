/-
  Facts that the walks rest on: CuRefP, CuLawDoes, GkOpenR. No conditions beyond those stated.
-/
import Derived.Test.YtcnmfgdeanbhoaaPart16
import Derived.Test.YtcnmfgdeanbhoaaPart14
import Derived.Test.YtcnmfgdeanbhoaaPart19
import Derived.Test.YtcnmfgdeanbhoaaPart17
import Derived.Test.YtcnmfgdeanbhoaaPart01
import Derived.Deep.Slices
import Derived.Deep.Fields
import Derived.OpenShut
/-
  Contracts of the document's answers for layer 15: bytes, Put. No conditions beyond those stated.
-/
namespace Cu
open Bn He
theorem nums_app : ∀ a b : List Int, nums (a ++ b) = nums a ++ nums b
  | [], _ => rfl
  | x :: r, b => by rw [List.cons_append, nums, nums, nums_app r b]; simp only [List.append_assoc]
/-- A stair's bytes, so far as k of its numbers reach. -/
def sbTo (x : Stair) (k : Nat) : List UInt8 := bytes x.1.length 2 ++ nums ((x.1 ++ x.2).take k)
theorem sbTo_len (x : Stair) {k : Nat} (hk : k ≤ x.1.length + x.2.length) : (sbTo x k).length = 2 + 4 * k := by
  unfold sbTo
  rw [List.length_append, bytes_len, nums_len, List.length_take, List.length_append]; omega
theorem sbTo_step (x : Stair) {k : Nat} (hk : k < x.1.length + x.2.length) : sbTo x (k + 1) = sbTo x k ++ bytes ((x.1 ++ x.2).getD k 0) 2 ++ [0, 0] := by
  unfold sbTo
  rw [takeI_snoc (by rw [List.length_append]; exact hk), nums_app]
  simp [nums, -List.getD_eq_getElem?_getD]
theorem sbTo_zero (x : Stair) : sbTo x 0 = bytes x.1.length 2 := by simp [sbTo, nums]
theorem sbTo_all {x : Stair} (hk : x.2 ≠ []) : sbTo x (x.1.length + x.2.length) = sb x := by
  unfold sbTo sb
  rw [if_neg hk, List.take_of_length_le (by rw [List.length_append]; exact Nat.le_refl _)]
theorem both_left {x : Stair} {k : Nat} (hk : k < x.1.length) : (x.1 ++ x.2).getD k 0 = x.1.getD k 0 := by
  rw [List.getD_eq_getElem?_getD, List.getElem?_append_left hk]; simp [List.getD]
theorem both_right (x : Stair) (k : Nat) : (x.1 ++ x.2).getD (x.1.length + k) 0 = x.2.getD k 0 := by
  rw [List.getD_eq_getElem?_getD, List.getElem?_append_right (by omega), Nat.add_sub_cancel_left]; simp [List.getD]
theorem flat_one (l : List Int) (o : Int) : Co.flat (l ++ [o]) = Co.flat l ++ bytes o 2 := by rw [Co.flat_append]; simp [Co.flat]
theorem fsK_flat (l : List Kern) : Co.flat (fsK l (stairs l)) = bytes (4 + 8 * l.length : Nat) 2 ++ bytes l.length 2 ++ Co.flat (offs (base l) (stairs l)) := by
  unfold fsK
  show Co.flat (((4 + 8 * l.length : Nat) : Int) :: (l.length : Int) :: offs (base l) (stairs l)) = _
  rw [Co.flat, Co.flat]
  simp only [List.append_assoc]
theorem fsK_none (l : List Kern) : Co.flat (fsK l []) = bytes (4 + 8 * l.length : Nat) 2 ++ bytes l.length 2 := by
  unfold fsK
  show Co.flat (((4 + 8 * l.length : Nat) : Int) :: (l.length : Int) :: []) = _
  rw [Co.flat, Co.flat, Co.flat, List.append_nil]
end Cu
namespace Go.Proofs.Ytcnmfgdeanbhoaa
open Go.RowKit

theorem radd15 (a b c : List UInt8) (hc : a ++ b = c) (h : a.length + b.length ≤ 100000000) (W : World) : (Op.stringOp .add ⟨a.toArray⟩ ⟨b.toArray⟩).run Try.prog W = .ok (.string ⟨c.toArray⟩) W := by
  rw [← hc, run_string_add_sum W _ _ (by show a.length + b.length ≤ _; omega), Gk.cat_list]
theorem rbytes15 (x z : Int) (W : World) (hz : z.natAbs = 2) (hs : Bn.isSize z = true) (h : Bn.fits x z = true) : Calls Try.prog 38 #[.int .i64 x, .int .i64 2] W fun e w' => e = .returned (.string ⟨(Bn.bytes x 2).toArray⟩) ∧ Lo W w' := by
  have h := rbytes_any x z W hs h
  rw [hz, show ((2 : Nat) : Int) = 2 from rfl] at h
  exact h

set_option maxHeartbeats 3200000 in
theorem rcubytes_any (u v : Value) (x : Cu.Stair) (w : World) (h1 : Row w u x.1) (h2 : Row w v x.2) (hs : Cu.isS x = true) (hk : x.2 ≠ []) :
    Calls Try.prog 39 #[.agg #[u, v]] w fun e w' => e = .returned (.string ⟨(Cu.sb x).toArray⟩) ∧ Lo w w' := by
  obtain ⟨q1, q2, q3, q4, _⟩ := Cu.isS_has hs hk
  have HF1 := Lib.hid (fun k (hk : k < x.1.length) => (q3 _ (Cu.getI_mem hk) : Bn.fits (x.1.getD k 0) (-2) = true))
  have HF2 := Lib.hid (fun k (hk : k < x.2.length) => (q4 _ (Cu.getI_mem hk) : Bn.fits (x.2.getD k 0) (-2) = true))
  have HL := Lib.hid (fun k hk => @Cu.sbTo_len x k hk)
  have HS1 := Lib.hid (fun k (hk : k < x.1.length) => (by rw [Cu.sbTo_step x (by omega), Cu.both_left hk] : Cu.sbTo x (k + 1) = Cu.sbTo x k ++ Bn.bytes (x.1.getD k 0) 2 ++ [0, 0]))
  have HS2 := Lib.hid (fun k (hk : k < x.2.length) => (by rw [Cu.sbTo_step x (by omega), Cu.both_right] : Cu.sbTo x (x.1.length + k + 1) = Cu.sbTo x (x.1.length + k) ++ Bn.bytes (x.2.getD k 0) 2 ++ [0, 0]))
  have HA := Lib.hid (Cu.sbTo_all hk)
  have CB0 := Lib.hid (fun W => rbytes15 (x.1.length : Int) 2 W rfl (by decide) (He.fits2 (by omega) (by omega)))
  rw [← Cu.sbTo_zero x] at CB0
  obtain ⟨pu, cu, rfl, _⟩ := h1.form
  obtain ⟨pv, cv, rfl, _⟩ := h2.form
  have HR1 := Lib.hid h1
  have HR2 := Lib.hid h2
  rw [q2] at HA HL HF2 HS2 HR2 ⊢
  generalize Cu.sbTo x = O at *
  generalize Cu.sb x = y at *
  obtain ⟨a, b⟩ := x
  dsimp only at *
  generalize a.length = n at *
  clear h1 h2 hs hk q2 q3 q4
  go_enter Try.func39, Try.ntmps39
  go_wp2_with fail
  generalize hw0 : w.alloc (.cells #[.slice pu n cu, .slice pv (n + 1) cv] 35) = w0
  have HX0 : Hid (w0.heap[w.heap.size]? = some (.cells #[.slice pu n cu, .slice pv (n + 1) cv] 35 (0, 0))) := Lib.hid (by rw [← hw0]; exact new_block w _)
  have HL0 : Hid (Lo w w0) := Lib.hid (by rw [← hw0]; exact (Lo.refl w).alloc _)
  clear hw0
  refine (CB0.out _).mono ?_
  rintro e w1 ⟨rfl, lo⟩
  have HL1 := Lib.hid (HL0.out.trans lo)
  have HX1 := Lib.hid (lo_block lo HX0.out)
  have HRa := Lib.hid (HR1.out.lo HL1.out)
  have HRb := Lib.hid (HR2.out.lo HL1.out)
  clear lo CB0 HL0 HX0 HR1 HR2
  go_wp2_with fail
  go_loopw [3, 4] (fun so i W => ∃ k : Nat, k ≤ n ∧ i = .int .i64 k ∧ so = .string ⟨(O k).toArray⟩ ∧ Hid (Lo w1 W)) (fun _ i _ => n - (intOf i).toNat)
  case atStart => exact ⟨0, by omega, rfl, rfl, Lib.hid (Lo.refl _)⟩
  case round =>
    obtain ⟨k, hk, rfl, rfl, HLk⟩ := hrel
    obtain ⟨d0, d1⟩ := two_cells (lo_block HLk.out HX1.out)
    by_cases hlt : k < n
    · obtain ⟨b1, off1, rfl, ck⟩ := (HRa.out.lo HLk.out).at_ (k := k) hlt
      have hol := HL.out k (by omega)
      have CB := Lib.hid (fun W => rbytes15 _ (-2) W rfl (by decide) (HF1.out k hlt))
      have hst := HS1.out k hlt
      generalize a.getD k 0 = z at *
      obtain ⟨o1, ho1⟩ : ∃ q, O k ++ Bn.bytes z 2 = q := ⟨_, rfl⟩
      have ho1l : o1.length = (O k).length + 2 := by rw [← ho1, List.length_append, Bn.bytes_len]
      have x0 := fun W => radd15 (O k) _ o1 ho1 (by rw [Bn.bytes_len]; omega) W
      have x1 := fun W => radd15 o1 [0, 0] (O (k + 1)) (by rw [hst, ← ho1]) (by show o1.length + 2 ≤ _; omega) W
      have hz0 : (⟨([0, 0] : List UInt8).toArray⟩ : ByteArray) = ⟨#[0, 0]⟩ := rfl
      rw [hz0] at x1
      generalize Bn.bytes z 2 = by2 at *
      clear ho1 hst hol ho1l
      go_wp2_with fail
      refine (CB.out _).mono ?_
      rintro e w4 ⟨rfl, lo⟩
      have HL4 := Lib.hid (HLk.out.trans lo)
      clear lo CB
      go_wp2_with fail
      go_roundw
      case rel => exact ⟨k + 1, by omega, by go_num, rfl, HL4⟩
      case measure => simp [intOf]; omega
    · obtain rfl : k = n := by omega
      have HXk := Lib.hid (lo_block HLk.out HX1.out)
      have HRk := Lib.hid (HRb.out.lo HLk.out)
      have HLw := Lib.hid (HL1.out.trans HLk.out)
      clear HX1 HRb HRa HF1 HS1
      go_wp2_with fail
      clear d0 d1
      go_loopw [3, 5] (fun so i W => ∃ j : Nat, j ≤ k + 1 ∧ i = .int .i64 j ∧ so = .string ⟨(O (k + j)).toArray⟩ ∧ Hid (Lo wr W)) (fun _ i _ => k + 1 - (intOf i).toNat)
      case atStart => exact ⟨0, by omega, rfl, rfl, Lib.hid (Lo.refl _)⟩
      case round =>
        obtain ⟨j, hj, rfl, rfl, HLj⟩ := hrel
        obtain ⟨d0, d1⟩ := two_cells (lo_block HLj.out HXk.out)
        by_cases hlt : j < k + 1
        · obtain ⟨b1, off1, rfl, ck⟩ := (HRk.out.lo HLj.out).at_ (k := j) hlt
          have hol := HL.out (k + j) (by omega)
          have CB := Lib.hid (fun W => rbytes15 _ (-2) W rfl (by decide) (HF2.out j hlt))
          have hst := HS2.out j hlt
          generalize b.getD j 0 = z at *
          obtain ⟨o1, ho1⟩ : ∃ q, O (k + j) ++ Bn.bytes z 2 = q := ⟨_, rfl⟩
          have ho1l : o1.length = (O (k + j)).length + 2 := by rw [← ho1, List.length_append, Bn.bytes_len]
          have x0 := fun W => radd15 (O (k + j)) _ o1 ho1 (by rw [Bn.bytes_len]; omega) W
          have x1 := fun W => radd15 o1 [0, 0] (O (k + (j + 1))) (by rw [← Nat.add_assoc, hst, ← ho1]) (by show o1.length + 2 ≤ _; omega) W
          have hz0 : (⟨([0, 0] : List UInt8).toArray⟩ : ByteArray) = ⟨#[0, 0]⟩ := rfl
          rw [hz0] at x1
          generalize Bn.bytes z 2 = by2 at *
          clear ho1 hst hol ho1l
          go_wp2_with fail
          refine (CB.out _).mono ?_
          rintro e w4 ⟨rfl, lo⟩
          have HL4 := Lib.hid (HLj.out.trans lo)
          clear lo CB
          go_wp2_with fail
          go_roundw
          case rel => exact ⟨j + 1, by omega, by go_num, rfl, HL4⟩
          case measure => simp [intOf]; omega
        · obtain rfl : j = k + 1 := by omega
          go_wp2_with fail
          go_ret
          rw [HA.out]
          exact ⟨rfl, HLw.out.trans HLj.out⟩

set_option maxHeartbeats 400000 in
theorem rcuput_no (v : Value) (l : List Cu.Kern) (w : World) (h : KRowC w v l) (hlen : l.length ≤ 1000000) (hc : Cu.isK l = false) : Calls Try.prog 13 #[v] w fun e w' => e = strErr ([], 1) ∧ Lo w w' := by
  have HI := Lib.hid (rcuright_any v l w h hlen)
  rw [hc] at HI
  obtain ⟨p, c, rfl, _⟩ := RowR.form h
  unfold strErr
  clear h hc
  go_enter Try.func13, Try.ntmps13
  go_wp2_with fail
  refine HI.out.mono ?_
  rintro e w1 ⟨rfl, lo⟩
  have HL := Lib.hid lo
  clear lo
  go_wp2_with fail
  go_ret2
  exact ⟨rfl, HL.out⟩

set_option maxHeartbeats 800000 in
theorem rcuput_long (v : Value) (l : List Cu.Kern) (w : World) (h : KRowC w v l) (hlen : l.length ≤ 1000000) (hc : Cu.isK l = true) (hn : 8191 < l.length) : Calls Try.prog 13 #[v] w fun e w' => e = strErr ([], 7) ∧ Lo w w' := by
  have HI := Lib.hid (rcuright_any v l w h hlen)
  rw [hc] at HI
  obtain ⟨p, c, rfl, _⟩ := RowR.form h
  unfold strErr
  clear h hc
  generalize l.length = n at *
  by_cases hn2 : 65535 < n
  · have hq : (65535 : Int) < (n : Int) := by omega
    go_enter Try.func13, Try.ntmps13
    go_wp2_with fail
    refine HI.out.mono ?_
    rintro e w1 ⟨rfl, lo⟩
    have HL := Lib.hid lo
    clear lo
    go_wp2_with fail
    go_ret2
    exact ⟨rfl, HL.out⟩
  · have hq : ¬ (65535 : Int) < (n : Int) := by omega
    have hq2 : (65535 : Int) < 4 + 8 * (n : Int) := by omega
    go_enter Try.func13, Try.ntmps13
    go_wp2_with fail
    refine HI.out.mono ?_
    rintro e w1 ⟨rfl, lo⟩
    have HL := Lib.hid lo
    clear lo
    go_wp2_with fail
    go_ret2
    exact ⟨rfl, HL.out⟩

set_option maxRecDepth 100000 in
set_option maxHeartbeats 6400000 in
theorem rcuput_yes (v : Value) (l : List Cu.Kern) (w : World) (h : KRowC w v l) (hc : Cu.isK l = true) (hn : l.length ≤ 8191) : Calls Try.prog 13 #[v] w fun e w' => e = strErr (Cu.put l) ∧ Lo w w' := by
  have HI := Lib.hid (rcuright_any v l w h (by omega))
  rw [hc] at HI
  have HGy := Lib.hid (fun W h => rcugl_any v l W h (by omega))
  have HCP := Lib.hid (fun u W h => rcput_any u (Cu.glyphs l) W h (by rw [Cu.glyphs_len]; omega))
  have HST := Lib.hid (fun k (hk : k < l.length) j (hj : j < 4) => Cu.put_step hc hn hk hj)
  have HNx := Lib.hid (fun k (hk : k < l.length) => Cu.upTo_next4 hc hk)
  have HF4 := Lib.hid (fun k (hk : k < l.length) => Cu.kern_four hc hk)
  have HEn := Lib.hid (fun hr => Cu.put_end hc hn hr)
  have HR0 : Hid (Cu.room l (Cu.upTo l 0 0)) := Lib.hid (Cu.room_none l)
  have HB0 : Hid (Cu.sbs (Cu.upTo l 0 0) = []) := Lib.hid rfl
  have CB1 := Lib.hid (fun W => rbytes15 ((4 + 8 * l.length : Nat) : Int) 2 W rfl (by decide) (He.fits2 (by omega) (by omega)))
  have CB2 := Lib.hid (fun W => rbytes15 (l.length : Int) 2 W rfl (by decide) (He.fits2 (by omega) (by omega)))
  have xa := fun W => radd15 _ _ _ (Cu.fsK_none l).symm (by rw [Bn.bytes_len, Bn.bytes_len]; omega) W
  rw [show ([] : List Cu.Stair) = Cu.upTo l 0 0 from rfl] at xa
  have HFl := Lib.hid (Cu.fsK_flat l)
  rw [← Cu.upTo_all l] at HFl
  have HBy := Lib.hid (fun (u v : Value) (x : Cu.Stair) W (a : Row W u x.1) (b : Row W v x.2) (hs : Cu.isS x = true) (hk : x.2 ≠ []) => rcubytes_any u v x W a b hs hk)
  have hbase : 4 + 8 * l.length + (Co.put (Cu.glyphs l)).1.length = Cu.base l := rfl
  have hbl := Cu.base_lim hc hn
  obtain ⟨p, c, rfl, _⟩ := RowR.form h
  have HR := Lib.hid h
  unfold strErr at *
  generalize Cu.put l = py at *
  generalize Cu.out l = oy at *
  generalize Cu.base l = first at *
  rw [Cu.upTo_all l] at HFl
  generalize Bn.bytes (4 + 8 * l.length : Nat) 2 ++ Bn.bytes l.length 2 ++ Co.flat (Cu.offs first (Cu.stairs l)) = hd at *
  rw [← Cu.upTo_all l] at HFl
  generalize Bn.bytes ((4 + 8 * l.length : Nat) : Int) 2 = B1 at *
  generalize Bn.bytes (l.length : Int) 2 = B2 at *
  generalize (Co.put (Cu.glyphs l)).1 = cv at *
  generalize (Co.put (Cu.glyphs l)).2 = ce at *
  generalize Cu.glyphs l = gl at *
  generalize Cu.fsK l = F at *
  generalize Cu.room l = Rm at *
  generalize Cu.upTo l = U at *
  generalize Cu.sbs = Bs at *
  generalize hnn : l.length = n at *
  have HLn := Lib.hid hnn
  rw [show ((4 + 8 * n : Nat) : Int) = 4 + 8 * (n : Int) by omega] at CB1
  have hq : ¬ (65535 : Int) < (n : Int) := by omega
  have hq2 : ¬ (65535 : Int) < 4 + 8 * (n : Int) := by omega
  clear h hc hnn
  go_enter Try.func13, Try.ntmps13
  go_wp2_with fail
  refine HI.out.mono ?_
  rintro e w1 ⟨rfl, lo⟩
  have HL := Lib.hid lo
  have HR1 := Lib.hid (KRowC.lo HR.out lo)
  clear lo HI HR
  go_wp2_with fail
  refine (HGy.out _ HR1.out).mono ?_
  rintro e w2 ⟨p2, c2, rfl, hrow, lo⟩
  have HL2 := Lib.hid (HL.out.trans lo)
  have HR2 := Lib.hid (KRowC.lo HR1.out lo)
  have HRg := Lib.hid hrow
  clear hrow lo HGy HR1 HL
  go_wp2_with fail
  refine (HCP.out _ _ HRg.out).mono ?_
  rintro e w3 ⟨rfl, lo⟩
  have HL3 := Lib.hid (HL2.out.trans lo)
  have HR3 := Lib.hid (KRowC.lo HR2.out lo)
  clear lo HCP HRg HR2 HL2
  go_wp2_with fail
  refine (CB1.out _).mono ?_
  rintro e w4 ⟨rfl, lo⟩
  have HL4 := Lib.hid (HL3.out.trans lo)
  have HR4 := Lib.hid (KRowC.lo HR3.out lo)
  clear lo CB1 HL3 HR3
  go_wp2_with fail
  refine (CB2.out _).mono ?_
  rintro e w5 ⟨rfl, lo⟩
  have HL5 := Lib.hid (HL4.out.trans lo)
  have HR5 := Lib.hid (KRowC.lo HR4.out lo)
  clear lo CB2 HL4 HR4
  have hfi : (4 : Int) + 8 * (n : Int) + (cv.length : Int) = (first : Int) := by omega
  go_wp2_with fail
  clear xa
  go_loopw [6, 8, 9, 10, 11] (fun so sr i _ _ W => ∃ k : Nat, k ≤ n ∧ i = .int .i64 k ∧ so = .string ⟨(Co.flat (F (U k 0))).toArray⟩ ∧ sr = .string ⟨(Bs (U k 0)).toArray⟩ ∧ Hid (Rm (U k 0)) ∧ Hid (Lo w5 W)) (fun _ _ i _ _ _ => n - (intOf i).toNat)
  case atStart => exact ⟨0, Nat.zero_le _, rfl, rfl, by rw [HB0.out], HR0, Lib.hid (Lo.refl _)⟩
  case round =>
    obtain ⟨k, hk, rfl, rfl, rfl, HRm, HLk⟩ := hrel
    clear HR0 HB0
    by_cases hlt : k < n
    · obtain ⟨b, off, u, rfl, e0, e1, hsr⟩ := KRowC.at2 HR5.out (Cu.getK_some (l := l) (i := k) (by rw [HLn.out]; exact hlt))
      have hb := World.block_lt_of_cell? _ _ e1
      have HSTk := Lib.hid (HST.out k hlt)
      have HF4k := Lib.hid (HF4.out k hlt)
      have HNxk := Lib.hid (HNx.out k hlt)
      obtain ⟨ps, cs, rfl, _⟩ := RowR.form hsr
      have HSR := Lib.hid hsr
      clear e0 hsr HST HF4 HNx HEn
      generalize l.getD k Cu.zK = x at *
      obtain ⟨g, q⟩ := x
      dsimp only at e1 HSTk HF4k HSR
      have hq4 := HF4k.out
      simp only [hq4] at e1 HSR
      clear hq4
      have HE1 := Lib.hid e1
      clear e1
      go_wp2_with fail
      go_loopw [6, 8, 10, 11] (fun so sr i _ W => ∃ j : Nat, j ≤ 4 ∧ i = .int .i64 j ∧ so = .string ⟨(Co.flat (F (U k j))).toArray⟩ ∧ sr = .string ⟨(Bs (U k j)).toArray⟩ ∧ Hid (Rm (U k j)) ∧ Hid (Lo w5 W)) (fun _ _ i _ _ => 4 - (intOf i).toNat)
      case atStart => exact ⟨0, Nat.zero_le _, rfl, rfl, rfl, HRm, HLk⟩
      case round =>
        obtain ⟨j, hj, rfl, rfl, rfl, HRm, HLj⟩ := hrel
        by_cases hj4 : j < 4
        · have c1 := (HLj.out.cell hb).trans HE1.out
          obtain ⟨b2, off2, u2, v2, rfl, d0, d1, ra, rb⟩ := SRowC.at2 (SRowC.lo HSR.out HLj.out) (Cu.getS_some (l := q) (i := j) (by rw [HF4k.out]; exact hj4))
          obtain ⟨g1, g2, g3, g4, g5, g6, g7⟩ := HSTk.out j hj4
          have hlim := g5 HRm.out
          have hfl : (Co.flat (F (U k j))).length ≤ 70000 := by rw [Co.flat_len, g4]; omega
          have hsbl := Cu.sb_len g1
          have HByx := Lib.hid (fun W a b => HBy.out u2 v2 (q.getD j Cu.zS) W a b g1)
          have HRa := Lib.hid ra
          have HRb := Lib.hid rb
          obtain ⟨pu, cu, rfl, _⟩ := ra.form
          obtain ⟨pv, cv2, rfl, _⟩ := rb.form
          clear ra rb HSTk g1
          generalize q.getD j Cu.zS = x at *
          by_cases hx : x.2 = []
          · have ho : Cu.offW first (Bs (U k j)).length x = 0 := by unfold Cu.offW; rw [if_pos hx]
            rw [ho] at g2 g6 g7
            rw [Cu.sb_none hx, List.append_nil] at g3
            have x1 := fun W => radd15 (Co.flat (F (U k j))) [0, 0] (Co.flat (F (U k (j + 1)))) (by rw [g2, Cu.flat_one]; rfl) (by show _ + 2 ≤ _; omega) W
            have hz0 : (⟨([0, 0] : List UInt8).toArray⟩ : ByteArray) = ⟨#[0, 0]⟩ := rfl
            rw [hz0] at x1
            have HRm2 := Lib.hid (g6 HRm.out (by omega))
            have hm : x.2.length = 0 := by rw [hx]; rfl
            rw [hm] at d1
            have HB := Lib.hid g3
            clear g2 g3 g4 g5 g6 g7 HByx HRa HRb ho hx hm hsbl
            generalize x.1.length = n1 at *
            generalize Co.flat (F (U k j)) = fo at *
            go_wp2_with fail
            go_roundw
            case rel => exact ⟨j + 1, by omega, by go_num, rfl, by rw [HB.out], HRm2, Lib.hid (HLj.out.alloc _)⟩
            case measure => simp [intOf]; omega
          · have ho : Cu.offW first (Bs (U k j)).length x = ((first + (Bs (U k j)).length : Nat) : Int) := by unfold Cu.offW; rw [if_neg hx]
            rw [ho] at g2 g6 g7
            have hm : x.2.length ≠ 0 := by simpa using hx
            have HByx2 := Lib.hid (fun W a b => HByx.out W a b hx)
            have hsz : (ByteArray.mk (Bs (U k j)).toArray).size = (Bs (U k j)).length := rfl
            have hsum : ((first : Int) + ((Bs (U k j)).length : Int)) = ((first + (Bs (U k j)).length : Nat) : Int) := by omega
            by_cases hfar : 65535 < first + (Bs (U k j)).length
            · have HE := Lib.hid (g7 (by omega))
              have hfar2 : (65535 : Int) < (first : Int) + ((Bs (U k j)).length : Int) := by omega
              clear g2 g3 g4 g5 g6 g7 HByx HByx2 HRa HRb ho hx hsum
              generalize x.1.length = n1 at *
              generalize x.2.length = n2 at *
              have hmb : ((n2 : Int) == 0) = false := by rw [beq_eq_false_iff_ne]; omega
              generalize (Bs (U k j)).length = bl at *
              go_wp2_with fail
              go_ret2
              rw [HE.out]
              exact ⟨rfl, HL5.out.trans (HLj.out.alloc _)⟩
            · have HRm2 := Lib.hid (g6 HRm.out (by omega))
              have CB := Lib.hid (fun W => rbytes15 ((first + (Bs (U k j)).length : Nat) : Int) 2 W rfl (by decide) (He.fits2 (by omega) (by omega)))
              have x1 := fun W => radd15 (Co.flat (F (U k j))) _ (Co.flat (F (U k (j + 1)))) (by rw [g2, Cu.flat_one]) (by rw [Bn.bytes_len]; omega) W
              have x2 := fun W => radd15 (Bs (U k j)) (Cu.sb x) (Bs (U k (j + 1))) g3.symm (by omega) W
              have hfar2 : ¬ (65535 : Int) < (first : Int) + ((Bs (U k j)).length : Int) := by omega
              have hlim2 : (first : Int) + ((Bs (U k j)).length : Int) ≤ 100000 := by omega
              rw [← hsum] at CB x1
              clear g2 g3 g4 g5 g6 g7 HByx ho hx hsum
              generalize Bn.bytes ((first : Int) + ((Bs (U k j)).length : Int)) 2 = by2 at *
              generalize Cu.sb x = sbx at *
              generalize (Bs (U k j)).length = bl at *
              generalize Bs (U k j) = bs at *
              generalize Co.flat (F (U k j)) = fo at *
              obtain ⟨xa, xb⟩ := x
              dsimp only at HRa HRb HByx2 d0 d1 hm
              generalize xa.length = n1 at *
              generalize xb.length = n2 at *
              have hmb : ((n2 : Int) == 0) = false := by rw [beq_eq_false_iff_ne]; omega
              go_wp2_with fail
              refine (CB.out _).mono ?_
              rintro e w6 ⟨rfl, lo⟩
              have HL6 := Lib.hid ((HLj.out.alloc _).trans lo)
              have HLw := Lib.hid (((Lo.refl wr).alloc _).trans lo)
              clear d0 d1
              obtain ⟨d0, d1⟩ := two_cells (lo_block lo (new_block wr _))
              clear lo CB
              go_wp2_with fail
              refine (HByx2.out _ (HRa.out.lo HLw.out) (HRb.out.lo HLw.out)).mono ?_
              rintro e w7 ⟨rfl, lo⟩
              have HL7 := Lib.hid (HL6.out.trans lo)
              clear lo HByx2 d0 d1
              go_wp2_with fail
              go_roundw
              case rel => exact ⟨j + 1, by omega, by go_num, rfl, rfl, HRm2, HL7⟩
              case measure => simp [intOf]; omega
        · obtain rfl : j = 4 := by omega
          go_wp2_with fail
          go_roundw
          case rel => exact ⟨k + 1, by omega, by go_num, by rw [HNxk.out], by rw [HNxk.out], by rw [← HNxk.out]; exact HRm, HLj⟩
          case measure => simp [intOf]; omega
    · obtain rfl : k = n := by omega
      obtain ⟨q1, _, q2, q3, q4, q5⟩ := HEn.out HRm.out
      have HPy := Lib.hid q1
      rw [HFl.out]
      obtain ⟨o1, ho1⟩ : ∃ q, hd ++ cv = q := ⟨_, rfl⟩
      have ho1l : o1.length = hd.length + cv.length := by rw [← ho1, List.length_append]
      have x0 := fun W => radd15 hd cv o1 ho1 (by omega) W
      have x1 := fun W => radd15 o1 (Bs (U k 0)) oy (by rw [q2, ho1]) (by omega) W
      clear q1 q2 HEn ho1 ho1l
      go_wp2_with fail
      go_ret2
      rw [HPy.out]
      exact ⟨rfl, HL5.out.trans HLk.out⟩

/-- Put. -/
theorem rcukput_any (v : Value) (l : List Cu.Kern) (w : World) (h : KRowC w v l) (hlen : l.length ≤ 1000000) : Calls Try.prog 13 #[v] w fun e w' => e = strErr (Cu.put l) ∧ Lo w w' := by
  cases hc : Cu.isK l with
  | false => rw [Cu.put_bad hc]; exact rcuput_no v l w h hlen hc
  | true =>
    by_cases hn : 8191 < l.length
    · rw [Cu.put_long hc hn]; exact rcuput_long v l w h hlen hc hn
    · exact rcuput_yes v l w h hc (by omega)
end Go.Proofs.Ytcnmfgdeanbhoaa
/-
  The walk of the law CutinDoes. No conditions beyond those stated. (Written by gencudoes.py.)
-/
namespace Go.Proofs.Ytcnmfgdeanbhoaa
open Go.RowKit

theorem KRowC.mem {w w' : World} {v : Value} {l : List Cu.Kern} (h : KRowC w v l) (k : Lo w w') : KRowC w' v l := KRowC.lo h k

set_option maxHeartbeats 400000 in
theorem cdoes_far (s : List UInt8) (pos : Int) (v : Value) (l : List Cu.Kern) (w : World) (hr : KRowC w v l) (h : 2000 < s.length ∨ Cu.few l = false) :
    Calls Try.prog 3 #[.string ⟨s.toArray⟩, .int .i64 pos, v] w fun e w' => e = .returned (.bool true) ∧ Lo w w' := by
  have hsz : (ByteArray.mk s.toArray).size = s.length := rfl
  have HF := Lib.hid (rcufew_any v l w hr)
  obtain ⟨p, c, rfl, _⟩ := RowR.form hr
  clear hr
  by_cases h6 : 2000 < s.length
  · have hz : (2000 : Int) < (s.length : Int) := by omega
    generalize s.length = sn at *
    generalize l.length = n at *
    go_enter Try.func3, Try.ntmps3
    go_wp2_with fail
    go_ret
    exact ⟨rfl, Lo.refl _⟩
  · have hz : ¬ (2000 : Int) < (s.length : Int) := by omega
    have hf : Cu.few l = false := by
      rcases h with h | h
      · exact absurd h h6
      · exact h
    rw [hf] at HF
    clear h hf
    generalize s.length = sn at *
    generalize l.length = n at *
    go_enter Try.func3, Try.ntmps3
    go_wp2_with fail
    refine HF.out.mono ?_
    rintro e w1 ⟨rfl, lo⟩
    have HL := Lib.hid lo
    clear lo
    go_wp2_with fail
    go_ret
    exact ⟨rfl, HL.out⟩

set_option maxRecDepth 100000 in
set_option maxHeartbeats 3200000 in
theorem cdoes_ok (s : List UInt8) (pos : Int) (v : Value) (l : List Cu.Kern) (w : World) (hr : KRowC w v l) (hs : s.length ≤ 2000) (hf : Cu.few l = true) (h1 : pos ≤ 9223372036854775807) :
    Calls Try.prog 3 #[.string ⟨s.toArray⟩, .int .i64 pos, v] w fun e w' => e = .returned (.bool true) ∧ Lo w w' := by
  have hl := (Cu.few_has hf).1
  have HF := Lib.hid (rcufew_any v l w hr)
  rw [hf] at HF
  have HO := Lib.hid (fun W (k : KRowC W v l) => rcuown_any v l W k hf)
  have HG := Lib.hid (fun W => cuget_any s pos W (by omega) h1)
  have HG2 := Lib.hid (fun W => rcukget_any s pos W (by omega) h1)
  have HP := Lib.hid (fun (u : Value) (W : World) (k : KRowC W u l) => cuput_any u l W k (by omega))
  have HP2 := Lib.hid (fun (u : Value) (W : World) (k : KRowC W u l) => rcukput_any u l W k (by omega))
  have HI := Lib.hid (fun (u : Value) (W : World) (k : KRowC W u l) => curight_any u l W k (by omega))
  have HI2 := Lib.hid (fun (u : Value) (W : World) (k : KRowC W u l) => rcuright_any u l W k (by omega))
  have HN := Lib.hid (fun (u u2 : Value) (W : World) (k : KRowC W u l) (k2 : KRowC W u2 l) => samek_any l u u2 W k k2)
  have HN2 := Lib.hid (fun (u u2 : Value) (W : World) (k : KRowC W u (Cu.get s pos).1) (k2 : KRowC W u2 (Cu.get s pos).1) => samek_any _ u u2 W k k2)
  have HD := Lib.hid (fun W => stepped_any W)
  obtain ⟨p, c, rfl, _⟩ := RowR.form hr
  have HR := Lib.hid hr
  unfold GotKerns at HG HG2
  unfold strErr at HP HP2
  generalize (Cu.put l).1 = t at *
  generalize (Cu.put l).2 = te at *
  generalize Cu.isK l = ic at *
  generalize (Cu.get s pos).2 = ge at *
  generalize (Cu.get s pos).1 = gl at *
  have hsz : (ByteArray.mk s.toArray).size = s.length := rfl
  have hz : ¬ (2000 : Int) < (s.length : Int) := by omega
  generalize s.length = sn at *
  generalize l.length = n at *
  generalize gl.length = gn at *
  clear hr hf
  go_enter Try.func3, Try.ntmps3
  go_wp2_with fail
  refine (HF.out).mono ?_
  rintro e w1 ⟨rfl, lo⟩
  have HL1 := Lib.hid lo
  have HR1 := Lib.hid (HR.out.mem lo)
  clear lo HR HF
  go_wp2_with fail
  refine (HO.out _ HR1.out).mono ?_
  rintro e w2 ⟨po, co, rfl, hrow, lo⟩
  have HL2 := Lib.hid (HL1.out.trans lo)
  have HR2 := Lib.hid (HR1.out.mem lo)
  have HQ2 := Lib.hid hrow
  clear lo hrow HL1 HR1 HO
  go_wp2_with fail
  refine (HG.out _).mono ?_
  rintro e w3 ⟨pa, ca, rfl, hrow, lo⟩
  have HL3 := Lib.hid (HL2.out.trans lo)
  have HR3 := Lib.hid (HR2.out.mem lo)
  have HQ3 := Lib.hid (HQ2.out.mem lo)
  have HA3 := Lib.hid hrow
  clear lo hrow HL2 HR2 HQ2 HG
  go_wp2_with fail
  refine (HG2.out _).mono ?_
  rintro e w4 ⟨pb, cb, rfl, hrow, lo⟩
  have HL4 := Lib.hid (HL3.out.trans lo)
  have HR4 := Lib.hid (HR3.out.mem lo)
  have HQ4 := Lib.hid (HQ3.out.mem lo)
  have HA4 := Lib.hid (HA3.out.mem lo)
  have HB4 := Lib.hid hrow
  clear lo hrow HL3 HR3 HQ3 HA3 HG2
  go_wp2_with fail
  refine (HP.out _ _ HR4.out).mono ?_
  rintro e w5 ⟨rfl, lo⟩
  have HL5 := Lib.hid (HL4.out.trans lo)
  have HR5 := Lib.hid (HR4.out.mem lo)
  have HQ5 := Lib.hid (HQ4.out.mem lo)
  have HA5 := Lib.hid (HA4.out.mem lo)
  have HB5 := Lib.hid (HB4.out.mem lo)
  clear lo HL4 HR4 HQ4 HA4 HB4 HP
  go_wp2_with fail
  refine (HP2.out _ _ HQ5.out).mono ?_
  rintro e w6 ⟨rfl, lo⟩
  have HL6 := Lib.hid (HL5.out.trans lo)
  have HR6 := Lib.hid (HR5.out.mem lo)
  have HQ6 := Lib.hid (HQ5.out.mem lo)
  have HA6 := Lib.hid (HA5.out.mem lo)
  have HB6 := Lib.hid (HB5.out.mem lo)
  clear lo HL5 HR5 HQ5 HA5 HB5 HP2
  go_wp2_with fail
  refine (HD.out _).mono ?_
  rintro e w7 ⟨rfl, lo⟩
  have HL7 := Lib.hid (HL6.out.trans lo)
  have HR7 := Lib.hid (HR6.out.mem lo)
  have HQ7 := Lib.hid (HQ6.out.mem lo)
  have HA7 := Lib.hid (HA6.out.mem lo)
  have HB7 := Lib.hid (HB6.out.mem lo)
  clear lo HL6 HR6 HQ6 HA6 HB6 HD
  go_wp2_with fail
  refine (HN2.out _ _ _ HA7.out HB7.out).mono ?_
  rintro e w8 ⟨rfl, lo⟩
  have HL8 := Lib.hid (HL7.out.trans lo)
  have HR8 := Lib.hid (HR7.out.mem lo)
  have HQ8 := Lib.hid (HQ7.out.mem lo)
  clear lo HL7 HR7 HQ7 HA7 HB7 HN2
  go_wp2_with fail
  refine (HI.out _ _ HR8.out).mono ?_
  rintro e w9 ⟨rfl, lo⟩
  have HL9 := Lib.hid (HL8.out.trans lo)
  have HR9 := Lib.hid (HR8.out.mem lo)
  have HQ9 := Lib.hid (HQ8.out.mem lo)
  clear lo HL8 HR8 HQ8 HI
  go_wp2_with fail
  refine (HI2.out _ _ HQ9.out).mono ?_
  rintro e w10 ⟨rfl, lo⟩
  have HL10 := Lib.hid (HL9.out.trans lo)
  have HR10 := Lib.hid (HR9.out.mem lo)
  have HQ10 := Lib.hid (HQ9.out.mem lo)
  clear lo HL9 HR9 HQ9 HI2
  go_wp2_with fail
  refine (HN.out _ _ _ HR10.out HQ10.out).mono ?_
  rintro e w11 ⟨rfl, lo⟩
  have HL11 := Lib.hid (HL10.out.trans lo)
  clear lo HL10 HR10 HQ10 HN
  go_wp2_with fail
  go_ret
  exact ⟨ret_bool (by simp), HL11.out⟩

theorem cutinDoes_walk (a : ByteArray) (pos : Int) (v : Value) (l : List Cu.Kern) (w : World) (_w0 : a.size ≤ maxLen) (w1 : (Lit.int .i64 pos).wf = true) (hr : KRowC w v l) :
    Calls Try.prog 3 #[.string a, .int .i64 pos, v] w fun e w' => e = .returned (.bool true) ∧ Below w.heap.size w w' := by
  have hb : pos ≤ 9223372036854775807 := by
    have h1 : (decide (IntKind.i64.min ≤ pos) && decide (pos ≤ IntKind.i64.max)) = true := w1
    rw [show IntKind.i64.min = -9223372036854775808 by decide, show IntKind.i64.max = 9223372036854775807 by decide] at h1
    simp only [Bool.and_eq_true, decide_eq_true_eq] at h1
    exact h1.2
  by_cases hc : 2000 < a.data.toList.length ∨ Cu.few l = false
  · exact cdoes_far a.data.toList pos v l w hr hc
  · exact cdoes_ok a.data.toList pos v l w hr (by omega) (by
      cases hh : Cu.few l with
      | true => rfl
      | false => exact absurd (.inr hh) hc) hb
end Go.Proofs.Ytcnmfgdeanbhoaa
/-
  Arguments that are slices of slices, opened: a slice whose elements open each reads by a relation. Nothing of the program but the type int. No conditions beyond those stated.
-/
namespace Go.Proofs.Ytcnmfgdeanbhoaa
open Go.RowKit Go.ChangeShapes Go.WideShapes Go.Deep
variable {α : Type}

theorem list_made (P : Nat → α → Prop) : ∀ (n : Nat), (∀ i, i < n → ∃ x, P i x) → ∃ l : List α, l.length = n ∧ ∀ i x, l[i]? = some x → P i x
  | 0, _ => ⟨[], rfl, by simp⟩
  | n + 1, h => by
    obtain ⟨l, hl, hp⟩ := list_made P n fun i hi => h i (by omega)
    obtain ⟨x, hx⟩ := h n (by omega)
    refine ⟨l ++ [x], by simp [hl], fun i y hy => ?_⟩
    rcases Nat.lt_or_ge i l.length with hlt | hge
    · rw [List.getElem?_append_left hlt] at hy; exact hp i y hy
    · rw [List.getElem?_append_right hge] at hy
      have : i - l.length < 1 := (List.getElem?_eq_some_iff.1 hy).1
      have hi : i = n := by omega
      rw [show i - l.length = 0 by omega] at hy
      simp at hy
      subst hy
      rw [hi]; exact hx
theorem add_plainR (b off i : Nat) : (⟨b, off, none⟩ : Addr).add i = ⟨b, off + i, none⟩ := by unfold Addr.add; split <;> simp_all

variable {H : Type} {enc : TypeId × Value → H} {W : World} {R : World → List Value → α → Prop}
/-- A slice whose elements open. -/
theorem open_rowR {t e k fuel : Nat} {cs : List Value} {x : DataW H × List MemPlace} (hu : Try.prog.underlying t = some (.slice e)) (hc : Try.prog.cellsOf e = k) (hk : 0 < k)
    (each : ∀ (f : Nat) (cs' : List Value) (y : DataW H × List MemPlace), cs'.length = k → DataW.trod enc Try.prog W 0 (fun _ => true) true f e cs' = some y → ∃ a : α, R W cs' a)
    (h : DataW.trod enc Try.prog W 0 (fun _ => true) true fuel t cs = some x) : ∃ (v : Value) (l : List α), cs = [v] ∧ RowR R k W v l := by
  rcases open_slice hu h with ⟨rfl, _⟩ | ⟨a, len, cap, m, n, D, Pl, rfl, _, hl, hm, hmm, _, hi⟩
  · exact ⟨_, [], rfl, RowR.nil _ _ _⟩
  · simp only [if_true] at hmm
    subst hmm
    by_cases h0 : len = 0
    · subst h0; exact ⟨_, [], rfl, .inl ⟨_, _, rfl, fun h => (by cases h), rfl⟩⟩
    · obtain ⟨b, off, spot⟩ := a
      rw [hc] at hi
      have get : ∀ i, i < m → ∃ y : α, ∃ cs' : List Value, cs'.length = k ∧ R W cs' y ∧ ∀ j, j < k → W.cell? ((⟨b, off, spot⟩ : Addr).add (i * k + j)) = cs'[j]? := by
        intro i him
        obtain ⟨cs', h1, h2⟩ := hi i him
        obtain ⟨_, hlen, hcell⟩ := World.cells?_some h1
        obtain ⟨y, hy⟩ := each n cs' _ hlen h2
        refine ⟨y, cs', hlen, hy, fun j hj => ?_⟩
        have q := hcell j hj
        rwa [add_add] at q
      have hspot : spot = none := by
        obtain ⟨_, cs', hlen, _, hy⟩ := get 0 (by omega)
        have q := hy 0 hk
        rw [List.getElem?_eq_getElem (by omega)] at q
        have q2 := World.cell?_spot q
        simpa [Addr.add] using q2
      subst hspot
      obtain ⟨l, hll, hlp⟩ := list_made (fun i y => ∃ cs' : List Value, cs'.length = k ∧ R W cs' y ∧ ∀ j, j < k → W.cell? ((⟨b, off, none⟩ : Addr).add (i * k + j)) = cs'[j]?) len (fun i hil => get i (by omega))
      refine ⟨_, l, rfl, .inr ⟨b, off, m, by rw [hll], by unfold maxLen at hm; omega, by omega, ?_, ?_⟩⟩
      · have hx : l[0]? = some l[0] := List.getElem?_eq_getElem (by omega)
        obtain ⟨cs', hlen, _, hy⟩ := hlp 0 _ hx
        have q := hy 0 hk
        rw [add_plainR, List.getElem?_eq_getElem (by omega)] at q
        exact World.block_lt_of_cell? W _ q
      · intro i y hy
        obtain ⟨cs', hlen, hR, hcell⟩ := hlp i y hy
        refine ⟨cs', hlen, hR, fun j hj => ?_⟩
        have q := hcell j hj
        rw [add_plainR, ← Nat.add_assoc] at q
        exact q
/-- A slice of ints. -/
theorem open_rowI {t e fuel : Nat} {cs : List Value} {x : DataW H × List MemPlace} (hu : Try.prog.underlying t = some (.slice e)) (he : Try.prog.underlying e = some (.int .i64)) (hc : Try.prog.cellsOf e = 1)
    (h : DataW.trod enc Try.prog W 0 (fun _ => true) true fuel t cs = some x) : ∃ (v : Value) (l : List Int), cs = [v] ∧ Row W v l := by
  obtain ⟨v, l, rfl, hr⟩ := open_rowR (R := fun _ cs (z : Int) => cs = [.int .i64 z]) hu hc (by omega) (fun f cs' y _ hy => by
    obtain ⟨n, hn, _⟩ := DataW.trod_int he hy
    exact ⟨n, hn⟩) h
  refine ⟨v, l, rfl, ?_⟩
  rcases hr with h | ⟨b, off, cap, rfl, h2, h2b, h3, h4⟩
  · exact .inl h
  · refine .inr ⟨b, off, cap, rfl, h2, h2b, h3, fun i hi => ?_⟩
    obtain ⟨cs, _, rfl, q⟩ := h4 i l[i] (List.getElem?_eq_getElem hi)
    have := q 0 (by omega)
    rw [Nat.mul_one, Nat.add_zero] at this
    rw [this]
    simp [List.getD, hi]
/-- An argument: its one cell is itself. -/
theorem open_argR {t : Nat} {v : Value} {d : DataW H} {p : List MemPlace} {P : List Value → Prop} (hcs : v.cells = #[v]) (h : DataW.Trod enc Try.prog W 0 (fun _ => true) true t v d p)
    (each : ∀ (f : Nat) (cs' : List Value) (y : DataW H × List MemPlace), DataW.trod enc Try.prog W 0 (fun _ => true) true f t cs' = some y → P cs') : P [v] := by
  obtain ⟨fuel, hf⟩ := h
  have := each fuel _ _ hf
  rw [hcs] at this
  exact this
end Go.Proofs.Ytcnmfgdeanbhoaa
