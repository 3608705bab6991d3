/-
  The contract of the document's answer for layer 15, Get. No conditions beyond those stated.
-/
import Derived.Test.YtcnmfgdeanbhoaaPart17
import Derived.Test.YtcnmfgdeanbhoaaPart10
import Derived.Test.YtcnmfgdeanbhoaaPart18
namespace Cu
open Bn He
theorem corn_app {t : List UInt8} {os : List Int} {k : Nat} (hk : k < os.length) (h : (gall t (os.take k)).2 = 0) (hg : (gone t (os.getD k 0)).2 = 0) :
    (gall t (os.take (k + 1))).2 = 0 ∧ (gall t (os.take (k + 1))).1 = (gall t (os.take k)).1 ++ [(gone t (os.getD k 0)).1] := by
  have e1 : gall t [os.getD k 0] = ([(gone t (os.getD k 0)).1], 0) := by rw [gall_one, if_neg (by rw [hg]; simp)]
  rw [takeI_snoc hk, gall_app t _ _ h, e1]
  exact ⟨rfl, rfl⟩
theorem corn_len {t : List UInt8} {os : List Int} {k : Nat} (hk : k ≤ os.length) (h : (gall t (os.take k)).2 = 0) : (gall t (os.take k)).1.length = k := by
  rw [(gall_is h).1, List.length_take]; omega
/-- The kerns so far. -/
def kernsTo (t : List UInt8) (g : List Int) (k : Nat) : List Kern := four (g.take k) (gall t (Co.ones t (4 * k))).1
theorem kernsTo_len (t : List UInt8) {g : List Int} {k : Nat} (hk : k ≤ g.length) : (kernsTo t g k).length = k := by
  unfold kernsTo
  rw [four_len, List.length_take]; omega
theorem kern_app {t : List UInt8} {g : List Int} {k : Nat} (hk : k < g.length) (h : (gall t (Co.ones t (4 * k))).2 = 0) (hg : (gall t (quad t k)).2 = 0) :
    (gall t (Co.ones t (4 * (k + 1)))).2 = 0 ∧ kernsTo t g (k + 1) = kernsTo t g k ++ [(g.getD k 0, (gall t (quad t k)).1)] := by
  have e : gall t (Co.ones t (4 * (k + 1))) = ((gall t (Co.ones t (4 * k))).1 ++ (gall t (quad t k)).1, 0) := by
    rw [ones_quad, gall_app t _ _ h, if_neg (by simpa using hg)]
  refine ⟨by rw [e], ?_⟩
  have hl1 : (gall t (Co.ones t (4 * k))).1.length = 4 * k := by rw [(gall_is h).1]; simp [Co.ones]
  have hl2 : (gall t (quad t k)).1.length = 4 := (gall_is hg).1
  unfold kernsTo
  rw [e, takeI_snoc hk, four_app _ _ _ _ (by rw [hl1, List.length_take]; omega)]
  congr 1
  rw [four, List.take_of_length_le (by omega)]; rfl
theorem quad_at (t : List UInt8) (k : Nat) {j : Nat} (hj : j < 4) : (quad t k).getD j 0 = Co.word t (4 + 8 * k + 2 * j) := by
  obtain rfl | rfl | rfl | rfl : j = 0 ∨ j = 1 ∨ j = 2 ∨ j = 3 := by omega
  · rfl
  · show Co.word t (6 + 8 * k) = _; congr 1; omega
  · show Co.word t (8 + 8 * k) = _; congr 1; omega
  · show Co.word t (10 + 8 * k) = _; congr 1; omega
end Cu
namespace Go.Proofs.Ytcnmfgdeanbhoaa
open Go.RowKit

theorem endK_to {t : List UInt8} {g : List Int} (h : (Cu.gall t (Co.ones t (4 * g.length))).2 = 0) : endK t g = (Cu.kernsTo t g g.length, 0) := by
  unfold endK Cu.kernsTo
  rw [if_neg (by rw [h]; simp), List.take_length]

set_option maxHeartbeats 800000 in
theorem rcuget_arg (s : List UInt8) (pos : Int) (w : World) (h : pos < 0) : Calls Try.prog 11 #[.string ⟨s.toArray⟩, .int .i64 pos] w (GotKerns ([], 1) w) := by
  go_enter Try.func11, Try.ntmps11
  go_wp2_with fail
  go_ret2
  exact GotKerns.nil rfl (Lo.refl _)

set_option maxHeartbeats 800000 in
theorem rcuget_more (s : List UInt8) (pos : Int) (w : World) (_hl : s.length ≤ 9223372036854775807) (h0 : 0 ≤ pos) (h1 : pos ≤ 9223372036854775807) (h : (s.length : Int) < pos + 4) : Calls Try.prog 11 #[.string ⟨s.toArray⟩, .int .i64 pos] w (GotKerns ([], 4) w) := by
  have hsz : (ByteArray.mk s.toArray).size = s.length := rfl
  generalize s.length = n at *
  have h2 : ¬ pos < 0 := by omega
  by_cases h3 : (n : Int) < pos
  · go_enter Try.func11, Try.ntmps11
    go_wp2_with fail
    go_ret2
    exact GotKerns.nil rfl (Lo.refl _)
  · have h4 : (n : Int) - pos < 4 := by omega
    go_enter Try.func11, Try.ntmps11
    go_wp2_with fail
    go_ret2
    exact GotKerns.nil rfl (Lo.refl _)

set_option maxHeartbeats 800000 in
theorem rcuget_piece (s : List UInt8) (q n : Nat) (w : World) (hl : s.length ≤ 9223372036854000000) (h : q + 4 ≤ s.length) (hn : Co.word s (q + 2) = (n : Int)) (hn2 : n ≤ 65535) (h2 : s.length < q + 4 + 8 * n) :
    Calls Try.prog 11 #[.string ⟨s.toArray⟩, .int .i64 (q : Int)] w (GotKerns ([], 4) w) := by
  have HW := Lib.hid (fun W => rword15_any s (q + 2) W (by omega) (by omega))
  rw [hn, show ((q + 2 : Nat) : Int) = (q : Int) + 2 by omega] at HW
  have hsz : (ByteArray.mk s.toArray).size = s.length := rfl
  generalize s.length = sn at *
  have h3 : ¬ (q : Int) < 0 := by omega
  have h4 : ¬ (sn : Int) < (q : Int) := by omega
  have h5 : ¬ (sn : Int) - (q : Int) < 4 := by omega
  have h6 : (sn : Int) - (q : Int) < 4 + 8 * (n : Int) := by omega
  clear hn
  go_enter Try.func11, Try.ntmps11
  go_wp2_with fail
  refine (HW.out _).mono ?_
  rintro e w1 ⟨rfl, rfl⟩
  go_wp2_with fail
  go_ret2
  exact GotKerns.nil rfl (Lo.refl _)

set_option maxHeartbeats 1600000 in
theorem rcuget_cover (s : List UInt8) (q o n : Nat) (k : Int) (w : World) (hl : s.length ≤ 9223372036854000000) (h : q + 4 + 8 * n ≤ s.length) (hn : Co.word s (q + 2) = (n : Int)) (hn2 : n ≤ 65535) (ho : Co.word s q = (o : Int)) (ho2 : o ≤ 65535) (hk : (Co.get s ((q : Int) + (o : Int))).2 = k) (h0 : k ≠ 0) :
    Calls Try.prog 11 #[.string ⟨s.toArray⟩, .int .i64 (q : Int)] w (GotKerns ([], k) w) := by
  have HW := Lib.hid (fun W => rword15_any s (q + 2) W (by omega) (by omega))
  rw [hn, show ((q + 2 : Nat) : Int) = (q : Int) + 2 by omega] at HW
  have HW2 := Lib.hid (fun W => rword15_any s q W (by omega) (by omega))
  rw [ho] at HW2
  have HC := Lib.hid (fun W => rcget_any s ((q : Int) + (o : Int)) W (by omega))
  unfold GotRow at HC
  rw [hk] at HC
  have hkb : (k == 0) = false := by simpa using h0
  generalize (Co.get s ((q : Int) + (o : Int))).1 = g at *
  generalize g.length = gn at *
  have hsz : (ByteArray.mk s.toArray).size = s.length := rfl
  generalize s.length = sn at *
  have h3 : ¬ (q : Int) < 0 := by omega
  have h4 : ¬ (sn : Int) < (q : Int) := by omega
  have h5 : ¬ (sn : Int) - (q : Int) < 4 := by omega
  have h6 : ¬ (sn : Int) - (q : Int) < 4 + 8 * (n : Int) := by omega
  clear hn ho hk h0
  go_enter Try.func11, Try.ntmps11
  go_wp2_with fail
  refine (HW.out _).mono ?_
  rintro e w1 ⟨rfl, rfl⟩
  go_wp2_with fail
  refine (HW2.out _).mono ?_
  rintro e w1 ⟨rfl, rfl⟩
  go_wp2_with fail
  refine (HC.out _).mono ?_
  rintro e w1 ⟨p1, c1, rfl, _, lo⟩
  have HL := Lib.hid lo
  clear lo HC HW HW2
  go_wp2_with fail
  go_ret2
  exact GotKerns.nil rfl HL.out

set_option maxHeartbeats 1600000 in
theorem rcuget_form (s : List UInt8) (q o n : Nat) (g : List Int) (w : World) (hl : s.length ≤ 9223372036854000000) (h : q + 4 + 8 * n ≤ s.length) (hn : Co.word s (q + 2) = (n : Int)) (hn2 : n ≤ 65535) (ho : Co.word s q = (o : Int)) (ho2 : o ≤ 65535) (hk : Co.get s ((q : Int) + (o : Int)) = (g, 0)) (h0 : g.length ≠ n) :
    Calls Try.prog 11 #[.string ⟨s.toArray⟩, .int .i64 (q : Int)] w (GotKerns ([], 5) w) := by
  have HW := Lib.hid (fun W => rword15_any s (q + 2) W (by omega) (by omega))
  rw [hn, show ((q + 2 : Nat) : Int) = (q : Int) + 2 by omega] at HW
  have HW2 := Lib.hid (fun W => rword15_any s q W (by omega) (by omega))
  rw [ho] at HW2
  have HC := Lib.hid (fun W => rcget_any s ((q : Int) + (o : Int)) W (by omega))
  unfold GotRow at HC
  rw [hk] at HC
  dsimp only at HC
  generalize g.length = gn at *
  have hkb : ((gn : Int) == (n : Int)) = false := by rw [beq_eq_false_iff_ne]; omega
  have hsz : (ByteArray.mk s.toArray).size = s.length := rfl
  generalize s.length = sn at *
  have h3 : ¬ (q : Int) < 0 := by omega
  have h4 : ¬ (sn : Int) < (q : Int) := by omega
  have h5 : ¬ (sn : Int) - (q : Int) < 4 := by omega
  have h6 : ¬ (sn : Int) - (q : Int) < 4 + 8 * (n : Int) := by omega
  clear hn ho hk h0
  go_enter Try.func11, Try.ntmps11
  go_wp2_with fail
  refine (HW.out _).mono ?_
  rintro e w1 ⟨rfl, rfl⟩
  go_wp2_with fail
  refine (HW2.out _).mono ?_
  rintro e w1 ⟨rfl, rfl⟩
  go_wp2_with fail
  refine (HC.out _).mono ?_
  rintro e w1 ⟨p1, c1, rfl, _, lo⟩
  have HL := Lib.hid lo
  clear lo HC HW HW2
  go_wp2_with fail
  go_ret2
  exact GotKerns.nil rfl HL.out

theorem lit_block (w : World) (B : Nat) (hB : B = w.heap.size) (o : Obj) : (w.alloc o).heap[B]? = some o := by
  rw [hB]; exact new_block w o
theorem cells_two {W : World} {B ty : Nat} {a b : Value} (h : W.heap[B]? = some (.cells #[a, b] ty (0, 0))) {j : Nat} {u : Value} (hh : [a, b][j]? = some u) : W.cell? ⟨B, j, none⟩ = some u := by
  match j, hh with
  | 0, hh => simp at hh; subst hh; exact block_cell h rfl
  | 1, hh => simp at hh; subst hh; exact block_cell h rfl
  | j + 2, hh => simp at hh

set_option maxRecDepth 100000 in
set_option maxHeartbeats 6400000 in
theorem rcuget_ok (s : List UInt8) (q o n : Nat) (g : List Int) (w : World) (hl : s.length ≤ 9223372036853000000) (h : q + 4 + 8 * n ≤ s.length) (hn : Co.word s (q + 2) = (n : Int)) (hn2 : n ≤ 65535) (ho : Co.word s q = (o : Int)) (ho2 : o ≤ 65535) (hk : Co.get s ((q : Int) + (o : Int)) = (g, 0)) (h0 : g.length = n) :
    Calls Try.prog 11 #[.string ⟨s.toArray⟩, .int .i64 (q : Int)] w (GotKerns (endK (s.drop q) g) w) := by
  have HW := Lib.hid (fun W => rword15_any s (q + 2) W (by omega) (by omega))
  rw [hn, show ((q + 2 : Nat) : Int) = (q : Int) + 2 by omega] at HW
  have HW2 := Lib.hid (fun W => rword15_any s q W (by omega) (by omega))
  rw [ho] at HW2
  have HC := Lib.hid (fun W => rcget_any s ((q : Int) + (o : Int)) W (by omega))
  unfold GotRow at HC
  rw [hk] at HC
  dsimp only at HC
  have HG := Lib.hid (fun (o : Nat) (h : o ≤ 65535) W => rstair_any s (q + o) W (by omega) (by omega))
  have HWk := Lib.hid (fun (i : Nat) (hi : i < n) (j : Nat) (hj : j < 4) W => rword15_any s (q + (4 + 8 * i + 2 * j)) W (by omega) (by omega))
  obtain ⟨t, ht⟩ : ∃ t, s.drop q = t := ⟨_, rfl⟩
  have HWq := Lib.hid (fun (i : Nat) (hi : i < n) (j : Nat) (hj : j < 4) W => (by
    have h1 := HWk.out i hi j hj W
    rw [← Co.word_drop, ht, ← Cu.quad_at t i hj, show ((q + (4 + 8 * i + 2 * j) : Nat) : Int) = (q : Int) + 4 + 8 * (i : Int) + 2 * (j : Int) by omega] at h1
    exact h1 : Calls Try.prog 29 #[.string ⟨s.toArray⟩, .int .i64 ((q : Int) + 4 + 8 * (i : Int) + 2 * (j : Int))] W fun e w' => e = .returned (.int .i64 ((Cu.quad t i).getD j 0)) ∧ W = w'))
  have HGt := Lib.hid (fun (o : Nat) (h : o ≤ 65535) (h0 : o ≠ 0) W => (by
    have := HG.out o h W
    rw [← List.drop_drop, ht] at this
    have e : Cu.gone t (o : Int) = Cu.gst (t.drop o) := by unfold Cu.gone; rw [if_neg (by omega), Int.toNat_natCast]
    rw [← e, show ((q + o : Nat) : Int) = (q : Int) + (o : Int) by omega] at this
    exact this : Calls Try.prog 31 #[.string ⟨s.toArray⟩, .int .i64 ((q : Int) + (o : Int))] W (GotStair (Cu.gone t (o : Int)) W)))
  have HQp := Lib.hid (fun (i j : Nat) (hj : j < 4) => (Cu.quad_pos _ (Cu.getI_mem (l := Cu.quad t i) (by rw [Cu.quad_len]; exact hj)) : 0 ≤ (Cu.quad t i).getD j 0 ∧ (Cu.quad t i).getD j 0 ≤ 65535))
  have HCa := Lib.hid (fun (i j : Nat) (hj : j < 4) => @Cu.corn_app t (Cu.quad t i) j (by rw [Cu.quad_len]; exact hj))
  have HCn := Lib.hid (fun (i j : Nat) (hj : j < 4) => @Cu.corner_no t (Cu.quad t i) j (by rw [Cu.quad_len]; exact hj))
  have HCl := Lib.hid (fun (i j : Nat) (hj : j ≤ 4) => @Cu.corn_len t (Cu.quad t i) j (by rw [Cu.quad_len]; exact hj))
  have HQt := Lib.hid (fun (i : Nat) => (List.take_of_length_le (Nat.le_of_eq (Cu.quad_len t i)) : (Cu.quad t i).take 4 = Cu.quad t i))
  have HKa := Lib.hid (fun k (hk : k < n) => @Cu.kern_app t g k (by omega))
  have HKn := Lib.hid (fun k (hk : k < n) => @endK_no t g k (by omega))
  have HKl := Lib.hid (fun k (hk : k ≤ n) => @Cu.kernsTo_len t g k (by omega))
  have HEn := Lib.hid (@endK_to t g)
  rw [h0] at HC HEn
  rw [ht]
  have HGl := Lib.hid h0
  have hsz : (ByteArray.mk s.toArray).size = s.length := rfl
  have HK0 : Hid (Cu.kernsTo t g 0 = []) := Lib.hid rfl
  have HZ0 : Hid ((Cu.gall t (Co.ones t (4 * 0))).2 = 0) := Lib.hid rfl
  have HM0 : Hid (∀ i, (Cu.gall t ((Cu.quad t i).take 0)).1 = [] ∧ (Cu.gall t ((Cu.quad t i).take 0)).2 = 0) := Lib.hid (fun i => ⟨rfl, rfl⟩)
  have HGz : Hid (Cu.gone t 0 = (([], []), 0)) := Lib.hid (Cu.gone_zero t)
  generalize endK t g = R at *
  generalize Cu.kernsTo t g = L at *
  generalize Cu.quad t = Q at *
  generalize s.length = sn at *
  have h3 : ¬ (q : Int) < 0 := by omega
  have h4 : ¬ (sn : Int) < (q : Int) := by omega
  have h5 : ¬ (sn : Int) - (q : Int) < 4 := by omega
  have h6 : ¬ (sn : Int) - (q : Int) < 4 + 8 * (n : Int) := by omega
  clear hn ho hk h0 ht HG HWk
  go_enter Try.func11, Try.ntmps11
  go_wp2_with fail
  refine (HW.out _).mono ?_
  rintro e w1 ⟨rfl, rfl⟩
  go_wp2_with fail
  refine (HW2.out _).mono ?_
  rintro e w1 ⟨rfl, rfl⟩
  go_wp2_with fail
  refine (HC.out _).mono ?_
  rintro e w3 ⟨p3, c3, rfl, hrow, lo⟩
  have HL3 := Lib.hid lo
  have HR3 := Lib.hid hrow
  clear lo hrow HC HW HW2
  go_wp2_with fail
  go_loopw [9, 10, 11, 12, 13, 14, 15, 16] (fun so si _ _ _ _ _ _ W => ∃ (k : Nat) (p : Option Addr) (c : Nat), k ≤ n ∧ si = .int .i64 k ∧ so = .slice p k c ∧ Hid (OwnR RK 42 2 (fun _ => False) W w3.heap.size (.slice p k c) (L k)) ∧ Hid ((Cu.gall t (Co.ones t (4 * k))).2 = 0) ∧ Hid (Lo w3 W)) (fun _ si _ _ _ _ _ _ _ => n - (intOf si).toNat)
  case atStart => exact ⟨0, none, 0, by omega, rfl, rfl, Lib.hid (by rw [HK0.out]; exact OwnR.none _ _ _ _ _ _), HZ0, Lib.hid (Lo.refl _)⟩
  case round =>
    obtain ⟨k, p, c, hk, rfl, rfl, HOk, HZk, HLk⟩ := hrel
    clear HK0 HZ0
    obtain ⟨w6, rfl⟩ : ∃ W, W = wr := ⟨_, rfl⟩
    by_cases hlt : k < n
    · obtain ⟨b6, off6, rfl, ck⟩ := (HR3.out.lo HLk.out).at_ (k := k) hlt
      have HWqk := Lib.hid (HWq.out k hlt)
      have HQpk := Lib.hid (HQp.out k)
      have HCak := Lib.hid (HCa.out k)
      have HCnk := Lib.hid (HCn.out k)
      have HClk := Lib.hid (HCl.out k)
      have HQtk := Lib.hid (HQt.out k)
      have HM0k := Lib.hid (HM0.out k)
      have HKak := Lib.hid (HKa.out k hlt HZk.out)
      have HKnk := Lib.hid (HKn.out k hlt HZk.out)
      have hLl := HKl.out k hk
      clear HWq HQp HCa HCn HCl HQt HM0 HKa HKn
      generalize Q k = qd at *
      generalize g.getD k 0 = y at *
      go_wp2_with fail
      generalize hwa : w6.alloc (.cells #[.int .i64 y, .slice none 0 0] 42) = wa
      have HXa : Hid (wa.heap[w6.heap.size]? = some (.cells #[.int .i64 y, .slice none 0 0] 42 (0, 0))) := Lib.hid (by rw [← hwa]; exact new_block w6 _)
      have HSa : Hid (w6.heap.size + 1 ≤ wa.heap.size) := Lib.hid (by rw [← hwa]; simp)
      have HLa : Hid (Lo w6 wa) := Lib.hid (by rw [← hwa]; exact (Lo.refl w6).alloc _)
      clear hwa ck
      generalize hX : w6.heap.size = X at *
      have HXs := Lib.hid hX
      clear hX
      go_loopw [12, 13, 14, 15, 16] (fun sj _ _ _ _ W => ∃ (j : Nat) (pu : Option Addr) (cu : Nat), j ≤ 4 ∧ sj = .int .i64 j ∧ Hid (W.heap[X]? = some (.cells #[.int .i64 y, .slice pu j cu] 42 (0, 0))) ∧ Hid (OwnR RS 35 2 (fun T => T < X + 1) W (X + 1) (.slice pu j cu) (Cu.gall t (qd.take j)).1) ∧ (Cu.gall t (qd.take j)).2 = 0 ∧ Hid (X + 1 ≤ W.heap.size) ∧ Hid (Lo w6 W)) (fun sj _ _ _ _ _ => 4 - (intOf sj).toNat)
      case atStart => exact ⟨0, none, 0, by omega, rfl, HXa, Lib.hid (by rw [HM0k.out.1]; exact OwnR.none _ _ _ _ _ _), HM0k.out.2, HSa, HLa⟩
      case round =>
        obtain ⟨j, pu, cu, hj, rfl, HX, HO, hz, HSz, HLj⟩ := hrel
        have HZ := Lib.hid hz
        clear hz HXa HSa HLa HM0k
        by_cases hj4 : j < 4
        · have HWj := Lib.hid (HWqk.out j hj4)
          obtain ⟨o1, o2⟩ := HQpk.out j hj4
          have HMl := Lib.hid (HClk.out j hj HZ.out)
          have HCaj := Lib.hid (HCak.out j hj4 HZ.out)
          have HCnj := Lib.hid (HCnk.out j hj4 HZ.out)
          clear HWqk HQpk HCak HCnk HClk
          generalize qd.getD j 0 = of at *
          by_cases ho : of = 0
          · subst ho
            rw [HGz.out] at HCaj
            obtain ⟨z1, z2⟩ := HCaj.out rfl
            have HZj := Lib.hid z1
            have HMj := Lib.hid z2
            clear z1 z2 HCaj HCnj o1 o2
            have HX8 := Lib.hid (lo_block ((Lo.refl wr).alloc (.cells #[.slice none 0 0, .slice none 0 0] 35)) HX.out)
            have HO8 := Lib.hid (HO.out.lo ((Lo.refl wr).alloc (.cells #[.slice none 0 0, .slice none 0 0] 35)))
            have HL8 := Lib.hid (HLj.out.alloc (.cells #[.slice none 0 0, .slice none 0 0] 35))
            have HZ8 : Hid (X + 1 ≤ (wr.alloc (.cells #[.slice none 0 0, .slice none 0 0] 35)).heap.size) := Lib.hid (by have := HSz.out; simp; omega)
            have HI8 : Hid (Ind (fun W => RS W [.slice none 0 0, .slice none 0 0] ([], [])) (fun T => T < wr.heap.size) (wr.alloc (.cells #[.slice none 0 0, .slice none 0 0] 35))) := Lib.hid (ind_true rs_nil _ _)
            obtain ⟨⟨c0, c1⟩, _, _⟩ := cu_two HX8.out
            obtain ⟨⟨y0, y1⟩, _, _⟩ := cu_two (new_block wr (.cells #[.slice none 0 0, .slice none 0 0] 35))
            go_wp2_with fail
            refine (HWj.out _).mono ?_
            rintro e w7 ⟨rfl, rfl⟩
            have HI9 := Lib.hid (HI8.out.weak (S' := fun T => T < X + 1 ∨ (Value.slice pu j cu).ownBlock = some T) (fun T _ hT => by
              have := HSz.out
              rcases hT with hT | hT
              · have hT2 : T < X + 1 := hT
                show T < wr.heap.size; omega
              · exact (OwnR.lt HO.out hT).2))
            go_wp2_with (at_builtin; refine wpList_appR (R := RS) _ rfl (.tmp 98) (.tmp 100) 40 rfl 35 2 48 (.agg #[.slice none 0 0, .slice none 0 0]) Try.underlying40 stair_info rfl (by omega) (by omega) (fun T => T < X + 1) (X + 1) (.slice pu j cu) _ rfl (HO8.out.lo ((Lo.refl _).alloc _)) _ [(.slice none 0 0), (.slice none 0 0)] ([], []) rfl rfl (by intro u hu; simp at hu; rcases hu with rfl | rfl <;> rfl) (fun i' u' hh => (cells_two (lit_block _ _ (by simp) _) hh)) (HI9.out.lo ((Lo.refl _).alloc _)) (by rw [HMl.out]; omega) (by have := HZ8.out; simp at *; omega) ?_; rw [HMl.out]; intro p9 c9 w9 told; have HO9 := Lib.hid told.1; have HL9 := Lib.hid (told.2.1 w6 (HL8.out.alloc _) (by rw [HXs.out]; omega)); have HK9 := Lib.hid (block_agr told.2.2.1 (lo_block ((Lo.refl _).alloc _) HX8.out) (fun hS => by have := (OwnR.lt HO.out hS).1; omega)); have HZ9 := Lib.hid told.2.2.1.1; clear told; obtain ⟨⟨d0, d1⟩, e0, e1⟩ := cu_two HK9.out)
            go_roundw
            case rel =>
              refine ⟨j + 1, p9, c9, by omega, by go_num, Lib.hid (set_two1 HK9.out), ?_, HZj.out, Lib.hid (by have := HZ9.out; have := HZ8.out; simp at *; omega), Lib.hid (HL9.out.set (p := ⟨X, 1, none⟩) (by rw [HXs.out]; exact Nat.le_refl _) _)⟩
              exact Lib.hid (by rw [HMj.out]; exact HO9.out.agr (agr_set (S := fun T => T = X) _ _ _ rfl) (fun g hg hS => by have := (OwnR.lt HO9.out hg).1; omega) (fun T hT => by show T < X + 1; have hT2 : T = X := hT; omega))
            case measure => simp [intOf]; omega
          · obtain ⟨m, rfl⟩ := Int.eq_ofNat_of_zero_le o1
            have hm0 : m ≠ 0 := by omega
            have hm1 : (0 : Int) < (m : Int) := by omega
            have HGs := Lib.hid (HGt.out m (by omega) hm0)
            generalize hgm : Cu.gone t (m : Int) = gm at *
            clear hgm HGt ho
            obtain ⟨a, ge⟩ := gm
            dsimp only at HCaj HCnj
            unfold GotStair at HGs
            dsimp only at HGs
            go_wp2_with fail
            refine (HWj.out _).mono ?_
            rintro e w7 ⟨rfl, rfl⟩
            go_wp2_with fail
            generalize hwb : wr.alloc (.cells #[.slice none 0 0, .slice none 0 0] 35) = wb
            have HYb : Hid (wb.heap[wr.heap.size]? = some (.cells #[.slice none 0 0, .slice none 0 0] 35 (0, 0))) := Lib.hid (by rw [← hwb]; exact new_block wr _)
            have HLb : Hid (Lo wr wb) := Lib.hid (by rw [← hwb]; exact (Lo.refl wr).alloc _)
            have HSb : Hid (wr.heap.size < wb.heap.size) := Lib.hid (by rw [← hwb]; simp)
            clear hwb
            refine (HGs.out _).mono ?_
            rintro e w5 ⟨u5, v5, rfl, hnew, lo⟩
            have HN5 := Lib.hid hnew
            have HL5 := Lib.hid (HLb.out.trans lo)
            have HY5 := Lib.hid (lo_block lo HYb.out)
            obtain ⟨r1, r2⟩ := hnew.self
            obtain ⟨pa, ca, rfl, _⟩ := r1.form
            obtain ⟨pb, cb, rfl, _⟩ := r2.form
            clear hnew lo r1 r2 HGs
            obtain ⟨a1, a2⟩ := a
            dsimp only at HN5 HCaj ⊢
            generalize a1.length = na at *
            generalize a2.length = nb at *
            by_cases hge : ge = 0
            · subst hge
              obtain ⟨z1, z2⟩ := HCaj.out rfl
              have HZj := Lib.hid z1
              have HMj := Lib.hid z2
              clear z1 z2 HCaj HCnj
              have hYa := lo_block ((Lo.refl w5).alloc (.cells #[.slice pa na ca, .slice pb nb cb] 35)) HY5.out
              have HLw : Hid (Lo wr (((w5.alloc (.cells #[.slice pa na ca, .slice pb nb cb] 35)).setCell ⟨wr.heap.size, 0, none⟩ (.slice pa na ca)).setCell ⟨wr.heap.size, 1, none⟩ (.slice pb nb cb))) := Lib.hid (Lo.set2 (HL5.out.alloc _) (Nat.le_refl _) _ _)
              have hag : Agr (fun T => T = wr.heap.size) (w5.alloc (.cells #[.slice pa na ca, .slice pb nb cb] 35)) (((w5.alloc (.cells #[.slice pa na ca, .slice pb nb cb] 35)).setCell ⟨wr.heap.size, 0, none⟩ (.slice pa na ca)).setCell ⟨wr.heap.size, 1, none⟩ (.slice pb nb cb)) := (agr_set (S := fun T => T = wr.heap.size) _ ⟨wr.heap.size, 0, none⟩ _ rfl).trans (agr_set (S := fun T => T = wr.heap.size) _ ⟨wr.heap.size, 1, none⟩ _ rfl)
              have hXw : X < wr.heap.size := by have := HSz.out; omega
              have HX8 := Lib.hid (block_agr hag (lo_block (HL5.out.alloc (.cells #[.slice pa na ca, .slice pb nb cb] 35)) HX.out) (fun e => by have e2 : X = wr.heap.size := e; omega))
              have HY8 := Lib.hid (set_two1 (u := .slice pb nb cb) (set_two (u := .slice pa na ca) hYa))
              have HO8 := Lib.hid (HO.out.lo HLw.out)
              have HL8 := Lib.hid (HLj.out.trans HLw.out)
              have HZ8 : Hid (X + 1 ≤ (((w5.alloc (.cells #[.slice pa na ca, .slice pb nb cb] 35)).setCell ⟨wr.heap.size, 0, none⟩ (.slice pa na ca)).setCell ⟨wr.heap.size, 1, none⟩ (.slice pb nb cb)).heap.size) := Lib.hid (Nat.le_trans HSz.out HLw.out.size)
              have HI8 : Hid (Ind (fun W => RS W [.slice pa na ca, .slice pb nb cb] (a1, a2)) (fun T => T < wr.heap.size) (((w5.alloc (.cells #[.slice pa na ca, .slice pb nb cb] 35)).setCell ⟨wr.heap.size, 0, none⟩ (.slice pa na ca)).setCell ⟨wr.heap.size, 1, none⟩ (.slice pb nb cb))) := Lib.hid (((((HN5.out.lo ((Lo.refl w5).alloc (.cells #[.slice pa na ca, .slice pb nb cb] 35))).agr (agr_set (S := fun T => T < wb.heap.size) _ ⟨wr.heap.size, 0, none⟩ _ HSb.out)).agr (agr_set (S := fun T => T < wb.heap.size) _ ⟨wr.heap.size, 1, none⟩ _ HSb.out)).mono fun W hW => ⟨_, _, rfl, hW.1, hW.2⟩).weak fun T _ hT => by
                have := HSb.out
                have hT2 : T < wr.heap.size := hT
                show T < wb.heap.size; omega)
              have HI9 := Lib.hid (HI8.out.weak (S' := fun T => T < X + 1 ∨ (Value.slice pu j cu).ownBlock = some T) (fun T _ hT => by
                have := HSz.out
                rcases hT with hT | hT
                · have hT2 : T < X + 1 := hT
                  show T < wr.heap.size; omega
                · exact (OwnR.lt HO.out hT).2))
              obtain ⟨⟨c0, c1⟩, _, _⟩ := cu_two HX8.out
              obtain ⟨⟨y0, y1⟩, _, _⟩ := cu_two HY8.out
              obtain ⟨_, f0, f1⟩ := cu_two hYa
              obtain ⟨_, _, f2⟩ := cu_two (set_two (u := .slice pa na ca) hYa)
              clear hYa hag hXw HI8 HN5 HY8 o1 o2 hm1 hm0
              go_wp2_with (at_builtin; refine wpList_appR (R := RS) _ rfl (.tmp 98) (.tmp 100) 40 rfl 35 2 48 (.agg #[.slice none 0 0, .slice none 0 0]) Try.underlying40 stair_info rfl (by omega) (by omega) (fun T => T < X + 1) (X + 1) (.slice pu j cu) _ rfl (HO8.out.lo ((Lo.refl _).alloc _)) _ [(.slice pa na ca), (.slice pb nb cb)] (a1, a2) rfl rfl (by intro u hu; simp at hu; rcases hu with rfl | rfl <;> rfl) (fun i' u' hh => (cells_two (lit_block _ _ (by simp) _) hh)) (HI9.out.lo ((Lo.refl _).alloc _)) (by rw [HMl.out]; omega) (by have := HZ8.out; simp at *; omega) ?_; rw [HMl.out]; intro p9 c9 w9 told; have HO9 := Lib.hid told.1; have HL9 := Lib.hid (told.2.1 w6 (HL8.out.alloc _) (by rw [HXs.out]; omega)); have HK9 := Lib.hid (block_agr told.2.2.1 (lo_block ((Lo.refl _).alloc _) HX8.out) (fun hS => by have := (OwnR.lt HO.out hS).1; omega)); have HZ9 := Lib.hid told.2.2.1.1; clear told; obtain ⟨⟨d0, d1⟩, e0, e1⟩ := cu_two HK9.out)
              go_roundw
              case rel =>
                refine ⟨j + 1, p9, c9, by omega, by go_num, Lib.hid (set_two1 HK9.out), ?_, HZj.out, Lib.hid (by have := HZ9.out; have := HZ8.out; simp at *; omega), Lib.hid (HL9.out.set (p := ⟨X, 1, none⟩) (by rw [HXs.out]; exact Nat.le_refl _) _)⟩
                exact Lib.hid (by rw [HMj.out]; exact HO9.out.agr (agr_set (S := fun T => T = X) _ _ _ rfl) (fun g hg hS => by have := (OwnR.lt HO9.out hg).1; omega) (fun T hT => by show T < X + 1; have hT2 : T = X := hT; omega))
              case measure => simp [intOf]; omega
            · have HCe := Lib.hid (HCnj.out hge)
              have hR : R = ([], ge) := by
                have := HKnk.out
                rw [HCe.out] at this
                exact this hge
              have hkb : (ge == 0) = false := by simpa using hge
              clear HCaj HCnj HKnk HCe
              subst hR
              go_wp2_with fail
              go_ret2
              exact GotKerns.nil rfl (HL3.out.trans (HLk.out.trans (HLj.out.trans (HL5.out.alloc _))))
        · obtain rfl : j = 4 := by omega
          rw [HQtk.out] at HO HZ
          obtain ⟨z1, z2⟩ := HKak.out HZ.out
          have HZj := Lib.hid z1
          have HMj := Lib.hid z2
          have HOo := Lib.hid (HOk.out.lo HLj.out)
          have HI9 : Hid (Ind (fun W => RK W [.int .i64 y, .slice pu 4 cu] (y, (Cu.gall t qd).1)) (fun T => False ∨ (Value.slice p k c).ownBlock = some T) wr) := Lib.hid (((OwnR.ind HO.out (fun T h => h)).mono fun W hW => ⟨_, rfl, hW⟩).weak fun T _ hT => by
            rcases hT with hT | hT
            · exact hT.elim
            · have := (OwnR.lt HOk.out hT).2
              have := HXs.out
              show T < X + 1; omega)
          have HW3 : Hid (w3.heap.size ≤ wr.heap.size) := Lib.hid (Nat.le_trans HLk.out.size HLj.out.size)
          clear z1 z2 HKak HKnk HQtk HWqk HQpk HCak HCnk HClk
          obtain ⟨⟨c0, c1⟩, _, _⟩ := cu_two HX.out
          go_wp2_with (at_builtin; refine wpList_appR (R := RK) _ rfl (.tmp 103) (.tmp 105) 22 rfl 42 2 32 (.agg #[.int .i64 0, .slice none 0 0]) Try.underlying22 kern_info rfl (by omega) (by omega) (fun _ => False) w3.heap.size (.slice p k c) _ rfl (HOo.out.lo ((Lo.refl _).alloc _)) _ [.int .i64 y, .slice pu 4 cu] (y, (Cu.gall t qd).1) rfl rfl (by intro u hu; simp at hu; rcases hu with rfl | rfl <;> rfl) (fun i' u' hh => (cells_two (lit_block _ _ (by simp) _) hh)) (HI9.out.lo ((Lo.refl _).alloc _)) (by rw [hLl]; omega) (by have := HW3.out; simp at *; omega) ?_; rw [hLl]; intro p9 c9 w9 told; have HO9 := Lib.hid told.1; have HL9 := Lib.hid (told.2.1 w3 ((HLk.out.trans HLj.out).alloc _) (Nat.le_refl _)); clear told)
          go_roundw
          case rel => exact ⟨k + 1, p9, c9, by omega, by go_num, rfl, Lib.hid (by rw [HMj.out]; exact HO9.out), HZj, HL9⟩
          case measure => simp [intOf]; omega
    · obtain rfl : k = n := by omega
      have HE := Lib.hid (HEn.out HZk.out)
      have hLl := HKl.out k (Nat.le_refl _)
      have HLl := Lib.hid hLl
      clear hLl HKl HEn
      generalize L k = Lk at *
      obtain rfl : R = (Lk, 0) := HE.out
      go_wp2_with fail
      go_ret2
      refine ⟨p, c, ?_, ?_, HL3.out.trans HLk.out⟩
      · rw [show (Lk, (0 : Int)).1.length = k from HLl.out]; rfl
      · rw [show (Lk, (0 : Int)).1.length = k from HLl.out]; exact OwnR.row HOk.out

/-- Get. -/
theorem rcukget_any (s : List UInt8) (pos : Int) (w : World) (hs : s.length ≤ 9223372036853000000) (h1 : pos ≤ 9223372036854775807) :
    Calls Try.prog 11 #[.string ⟨s.toArray⟩, .int .i64 pos] w (GotKerns (Cu.get s pos) w) := by
  unfold Cu.get
  by_cases c1 : pos < 0
  · rw [if_pos c1]; exact rcuget_arg s pos w c1
  · rw [if_neg c1]
    by_cases c2 : (s.length : Int) < pos + 4
    · rw [if_pos (by omega)]; exact rcuget_more s pos w (by omega) (by omega) h1 c2
    · rw [if_neg (by omega)]
      obtain ⟨q, rfl⟩ := Int.eq_ofNat_of_zero_le (show 0 ≤ pos by omega)
      rw [Int.toNat_natCast]
      obtain ⟨o, ho, ho2⟩ := Cu.word_nat (s.drop q) 0
      obtain ⟨n, hn, hn2⟩ := Cu.word_nat (s.drop q) 2
      have hwo : Co.word s q = (o : Int) := by
        have h1 := Co.word_drop s q 0
        rw [Nat.add_zero] at h1
        rw [← h1]; exact ho
      have hwn : Co.word s (q + 2) = (n : Int) := by
        rw [← Co.word_drop s q 2]; exact hn
      rw [ho, hn]
      by_cases c3 : s.length < q + 4 + 8 * n
      · rw [if_pos (by omega)]; exact rcuget_piece s q n w (by omega) (by omega) hwn hn2 c3
      · rw [if_neg (by omega)]
        unfold Cu.rest
        rw [hn]
        by_cases c4 : (Co.get s ((q : Int) + (o : Int))).2 = 0
        · rw [if_neg (by omega)]
          by_cases c5 : (Co.get s ((q : Int) + (o : Int))).1.length = n
          · rw [if_neg (by omega)]
            exact rcuget_ok s q o n _ w hs (by omega) hwn hn2 hwo ho2 (Prod.ext rfl c4) c5
          · rw [if_pos (by omega)]
            exact rcuget_form s q o n _ w (by omega) (by omega) hwn hn2 hwo ho2 (Prod.ext rfl c4) c5
        · rw [if_pos c4]
          exact rcuget_cover s q o n _ w (by omega) (by omega) hwn hn2 hwo ho2 rfl c4
end Go.Proofs.Ytcnmfgdeanbhoaa
