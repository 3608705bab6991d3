/-
  Facts that the walks rest on: CuRefB, BnRefI, CuRefC. No conditions beyond those stated.
-/
import Derived.Test.YtcnmfgdeanbhoaaPart15
import Derived.Test.YtcnmfgdeanbhoaaPart14
import Derived.Test.YtcnmfgdeanbhoaaPart05
/-
  Contracts of the document's answers for layer 15: At, glyphs, Right. No conditions beyond those stated.
-/
namespace Go.Proofs.Ytcnmfgdeanbhoaa
open Go.RowKit

set_option maxHeartbeats 3200000 in
theorem rcuat_any (u v : Value) (x : Cu.Stair) (h : Int) (w : World) (h1 : Row w u x.1) (h2 : Row w v x.2) :
    Calls Try.prog 21 #[.agg #[u, v], .int .i64 h] w fun e w' => e = .returned (.int .i64 (Cu.ht x h)) ∧ Lo w w' := by
  have HI := Lib.hid (fun W (a : Row W u x.1) (b : Row W v x.2) => rcuis_any u v x W a b)
  cases hi : Cu.isS x with
  | false =>
    rw [Cu.ht_bad hi]
    rw [hi] at HI
    obtain ⟨pu, cu, rfl, hm1⟩ := h1.form
    obtain ⟨pv, cv, rfl, hm2⟩ := h2.form
    have HR1 := Lib.hid h1
    have HR2 := Lib.hid h2
    clear h1 h2 hi
    generalize x.1.length = n at *
    generalize x.2.length = m at *
    go_enter Try.func21, Try.ntmps21
    go_wp2_with fail
    refine (HI.out _ (HR1.out.lo ((Lo.refl w).alloc _)) (HR2.out.lo ((Lo.refl w).alloc _))).mono ?_
    rintro e w1 ⟨rfl, lo⟩
    have HL := Lib.hid (((Lo.refl w).alloc _).trans lo)
    clear lo
    go_wp2_with fail
    go_ret
    exact ⟨rfl, HL.out⟩
  | true =>
    rw [hi] at HI
    by_cases hk : x.2 = []
    · rw [Cu.ht_none hi hk]
      obtain ⟨pu, cu, rfl, hm1⟩ := h1.form
      obtain ⟨pv, cv, rfl, hm2⟩ := h2.form
      have HR1 := Lib.hid h1
      have HR2 := Lib.hid h2
      have hk0 : x.2.length = 0 := by rw [hk]; rfl
      rw [hk0] at HR2 HI
      rw [hk0]
      clear h1 h2 hi hk hk0 hm2
      generalize x.1.length = n at *
      go_enter Try.func21, Try.ntmps21
      go_wp2_with fail
      refine (HI.out _ (HR1.out.lo ((Lo.refl w).alloc _)) (HR2.out.lo ((Lo.refl w).alloc _))).mono ?_
      rintro e w1 ⟨rfl, lo⟩
      have HL := Lib.hid (((Lo.refl w).alloc _).trans lo)
      obtain ⟨c0, c1⟩ := two_cells (lo_block lo (new_block w _))
      clear lo
      go_wp2_with fail
      go_ret
      exact ⟨rfl, HL.out⟩
    · obtain ⟨q1, q2, _, _, q5⟩ := Cu.isS_has hi hk
      have hcl : Cu.cnt h x.1 < x.2.length := by have := Cu.cnt_le h x.1; omega
      rw [Cu.ht_cnt hi]
      have hm0 : x.2.length ≠ 0 := by simpa using hk
      obtain ⟨pu, cu, rfl, hm1⟩ := h1.form
      obtain ⟨pv, cv, rfl, hm2⟩ := h2.form
      have HR1 := Lib.hid h1
      have HR2 := Lib.hid h2
      have HC := Lib.hid (fun k (hk : k < x.1.length) => Cu.cnt_snoc (h := x.1) h hk)
      have HC0 : Hid (Cu.cnt h (x.1.take 0) = 0) := Lib.hid rfl
      have HCa : Hid (Cu.cnt h (x.1.take x.1.length) = Cu.cnt h x.1) := Lib.hid (by rw [List.take_length])
      clear h1 h2 hi hk q2 q5
      generalize x.2.length = m at *
      generalize x.1.length = n at *
      have hmb : ((m : Int) == 0) = false := by rw [beq_eq_false_iff_ne]; omega
      generalize hcc : Cu.cnt h x.1 = c at *
      clear hcc
      obtain ⟨z, hz⟩ : ∃ z, x.2.getD c 0 = z := ⟨_, rfl⟩
      rw [hz]
      have HZ := Lib.hid hz
      clear hz
      obtain ⟨a, b⟩ := x
      dsimp only at *
      go_enter Try.func21, Try.ntmps21
      go_wp2_with fail
      refine (HI.out _ (HR1.out.lo ((Lo.refl w).alloc _)) (HR2.out.lo ((Lo.refl w).alloc _))).mono ?_
      rintro e w1 ⟨rfl, lo⟩
      have HL := Lib.hid (((Lo.refl w).alloc _).trans lo)
      have HX := Lib.hid (lo_block lo (new_block w _))
      obtain ⟨c0, c1⟩ := two_cells HX.out
      clear lo HI
      go_wp2_with fail
      clear c0 c1
      go_loopw [5, 6] (fun s i W => ∃ (k t : Nat), k ≤ n ∧ i = .int .i64 k ∧ s = .int .i64 t ∧ t ≤ k ∧ Hid (Cu.cnt h (a.take k) = t) ∧ Hid (Lo w1 W)) (fun _ i _ => n - (intOf i).toNat)
      case atStart => exact ⟨0, 0, by omega, rfl, rfl, by omega, HC0, Lib.hid (Lo.refl _)⟩
      case round =>
        obtain ⟨k, t, hk, rfl, rfl, htk, HT, HL1⟩ := hrel
        obtain ⟨c0, c1⟩ := two_cells (lo_block HL1.out HX.out)
        by_cases hlt : k < n
        · obtain ⟨b1, off1, rfl, ck⟩ := ((HR1.out.lo HL.out).lo HL1.out).at_ (k := k) hlt
          have HCk := Lib.hid (HC.out k hlt)
          rw [HT.out] at HCk
          generalize a.getD k 0 = y at *
          by_cases hy : y ≤ h
          · rw [if_pos hy] at HCk
            go_wp2_with fail
            go_roundw
            case rel => exact ⟨k + 1, t + 1, by omega, by go_num, by go_num, by omega, HCk, HL1⟩
            case measure => simp [intOf]; omega
          · rw [if_neg hy] at HCk
            go_wp2_with fail
            go_roundw
            case rel => exact ⟨k + 1, t, by omega, by go_num, rfl, by omega, HCk, HL1⟩
            case measure => simp [intOf]; omega
        · obtain rfl : k = n := by omega
          rw [HCa.out] at HT
          obtain rfl : c = t := HT.out
          obtain ⟨b1, off1, rfl, ck⟩ := ((HR2.out.lo HL.out).lo HL1.out).at_ (k := c) hcl
          rw [HZ.out] at ck
          go_wp2_with fail
          go_ret
          exact ⟨rfl, HL.out.trans HL1.out⟩

set_option maxHeartbeats 1600000 in
theorem rcugl_any (v : Value) (l : List Cu.Kern) (w : World) (h : KRowC w v l) (hlen : l.length ≤ 1000000) :
    Calls Try.prog 37 #[v] w fun e w' => ∃ p c, e = .returned (.slice p l.length c) ∧ Row w' (.slice p l.length c) (Cu.glyphs l) ∧ Lo w w' := by
  obtain ⟨pu, cu, rfl, _⟩ := RowR.form h
  have HR := Lib.hid h
  generalize hn : l.length = n at *
  have HN := Lib.hid hn
  clear hn h
  go_enter Try.func37, Try.ntmps37
  go_wp2_with fail
  go_loopw [3, 4] (fun s i W => ∃ (k : Nat) (p : Option Addr) (c : Nat), k ≤ n ∧ i = .int .i64 k ∧ s = .slice p k c ∧ Hid (Own W w.heap.size (.slice p k c) (Cu.glyphs (l.take k))) ∧ Hid (Lo w W)) (fun _ i _ => n - (intOf i).toNat)
  case atStart => exact ⟨0, none, 0, Nat.zero_le _, rfl, rfl, Lib.hid (Own.none _ _), Lib.hid (Lo.refl _)⟩
  case round =>
    obtain ⟨k, p, c, hk, rfl, rfl, HO1, HL1⟩ := hrel
    by_cases hlt : k < n
    · have hk' : k < l.length := by rw [HN.out]; exact hlt
      have HT := Lib.hid (Cu.glyphs_snoc hk')
      obtain ⟨b, off, u, rfl, c1, c2, _⟩ := KRowC.at2 (KRowC.lo HR.out HL1.out) (Cu.getK_some hk')
      have HTL : Hid ((Cu.glyphs (l.take k)).length = k) := Lib.hid (by rw [Cu.glyphs_len, List.length_take]; omega)
      clear hk'
      generalize l.getD k Cu.zK = x at *
      obtain ⟨g, q⟩ := x
      dsimp only at c1 HT
      go_wp2_with (at_builtin; refine wpList_app _ rfl (.tmp 11) (.tmp 17) rfl w.heap.size (.slice p k c) _ rfl (Own.lo HO1.out ((Lo.refl _).alloc _)) _ [g] rfl (row1 _ _ (by simp) g) (by rw [HTL.out]; simp; omega) (by have := HL1.out.size; simp; omega) ?_; intro q1 c1 w3 hown hlo; have HO3 := Lib.hid hown; have HL3 := Lib.hid (hlo w (HL1.out.alloc _) rfl); clear hown hlo; rw [HTL.out] at HO3 ⊢)
      go_roundw
      case rel => exact ⟨k + 1, q1, c1, by omega, by go_num, rfl, Lib.hid (by rw [HT.out]; exact HO3.out), HL3⟩
      case measure => simp [intOf]; omega
    · obtain rfl : k = n := by omega
      have HO2 := HO1
      rw [List.take_of_length_le (by rw [HN.out]; exact Nat.le_refl _)] at HO2
      go_wp2_with fail
      go_ret
      exact ⟨p, c, rfl, Own.row HO2.out, HL1.out⟩

set_option maxHeartbeats 3200000 in
theorem rcuright_any (v : Value) (l : List Cu.Kern) (w : World) (h : KRowC w v l) (hlen : l.length ≤ 1000000) :
    Calls Try.prog 17 #[v] w fun e w' => e = .returned (.bool (Cu.isK l)) ∧ Lo w w' := by
  have HG := Lib.hid (fun W h => rcugl_any v l W h hlen)
  have HC := Lib.hid (fun u W h => ris12_any u (Cu.glyphs l) W h (by rw [Cu.glyphs_len]; omega))
  have HI := Lib.hid (fun (u v : Value) (x : Cu.Stair) W (a : Row W u x.1) (b : Row W v x.2) => rcuis_any u v x W a b)
  obtain ⟨pu, cu, rfl, _⟩ := RowR.form h
  have HR := Lib.hid h
  have HB := Lib.hid (fun k hk hf => @Cu.isK_four l k hk hf)
  have HB2 := Lib.hid (fun k j hk hj hf => @Cu.isK_stair l k j hk hj hf)
  have HA := Lib.hid (@Cu.isK_all l)
  generalize Cu.isK l = y at *
  generalize Co.isCov (Cu.glyphs l) = yc at *
  generalize hn : l.length = n at *
  have HN := Lib.hid hn
  clear hn h
  go_enter Try.func17, Try.ntmps17
  go_wp2_with fail
  go_loopw [3, 4] (fun i _ W => ∃ (k : Nat), k ≤ n ∧ i = .int .i64 k ∧ Hid (∀ i, i < k → (l.getD i Cu.zK).2.length = 4 ∧ ∀ j, j < 4 → Cu.isS ((l.getD i Cu.zK).2.getD j Cu.zS) = true) ∧ Hid (Lo w W)) (fun i _ _ => n - (intOf i).toNat)
  case atStart => exact ⟨0, Nat.zero_le _, rfl, Lib.hid (fun i h => by omega), Lib.hid (Lo.refl _)⟩
  case round =>
    obtain ⟨k, hk, rfl, HIv, HL1⟩ := hrel
    by_cases hlt : k < n
    · have hk' : k < l.length := by rw [HN.out]; exact hlt
      obtain ⟨b, off, u, rfl, e1, e2, hsr⟩ := KRowC.at2 (KRowC.lo HR.out HL1.out) (Cu.getK_some hk')
      obtain ⟨ps, cs, rfl, hsl⟩ := RowR.form hsr
      have HSR := Lib.hid hsr
      have HE2 := Lib.hid e2
      have c2 := e2
      have HS : Hid ((l.getD k Cu.zK).2.length = 4 → (∀ j, j < 4 → Cu.isS ((l.getD k Cu.zK).2.getD j Cu.zS) = true) → ∀ i, i < k + 1 → (l.getD i Cu.zK).2.length = 4 ∧ ∀ j, j < 4 → Cu.isS ((l.getD i Cu.zK).2.getD j Cu.zS) = true) := Lib.hid (fun h h2 i hi => by
        rcases Nat.lt_or_ge i k with h1 | h1
        · exact HIv.out i h1
        · obtain rfl : i = k := by omega
          exact ⟨h, h2⟩)
      have HBk := Lib.hid (HB.out k hlt)
      have HB2k := Lib.hid (fun j => HB2.out k j hlt)
      clear hk' hsr e1 e2
      generalize l.getD k Cu.zK = x at *
      obtain ⟨g, q⟩ := x
      dsimp only at c2 HE2 HS HBk HB2k HSR hsl
      generalize hm : q.length = m at *
      by_cases h4 : m = 4
      · subst h4
        have HM := Lib.hid hm
        clear hm HBk
        go_wp2_with fail
        clear c2
        go_loopw [4] (fun i W => ∃ (j : Nat), j ≤ 4 ∧ i = .int .i64 j ∧ Hid (∀ i, i < j → Cu.isS (q.getD i Cu.zS) = true) ∧ Hid (Lo wr W)) (fun i _ => 4 - (intOf i).toNat)
        case atStart => exact ⟨0, Nat.zero_le _, rfl, Lib.hid (fun i h => by omega), Lib.hid (Lo.refl _)⟩
        case round =>
          obtain ⟨j, hj, rfl, HJ, HL2⟩ := hrel
          by_cases hj4 : j < 4
          · have c2 := (HL2.out.cell (World.block_lt_of_cell? _ _ HE2.out)).trans HE2.out
            obtain ⟨b2, off2, u, v, rfl, d1, d2, ra, rb⟩ := SRowC.at2 (SRowC.lo HSR.out HL2.out) (Cu.getS_some (l := q) (i := j) (by rw [HM.out]; exact hj4))
            have HIx := Lib.hid (HI.out u v (q.getD j Cu.zS))
            obtain ⟨pa, ca, rfl, _⟩ := ra.form
            obtain ⟨pb, cb, rfl, _⟩ := rb.form
            have HRa := Lib.hid ra
            have HRb := Lib.hid rb
            have HJ2 : Hid (Cu.isS (q.getD j Cu.zS) = true → ∀ i, i < j + 1 → Cu.isS (q.getD i Cu.zS) = true) := Lib.hid (fun h i hi => by
              rcases Nat.lt_or_ge i j with h1 | h1
              · exact HJ.out i h1
              · obtain rfl : i = j := by omega
                exact h)
            have HB3 := Lib.hid (HB2k.out j hj4)
            clear ra rb
            generalize q.getD j Cu.zS = x at *
            generalize x.1.length = nx at *
            generalize x.2.length = mx at *
            cases hx : Cu.isS x with
            | false =>
              have HF : Hid (y = false) := Lib.hid (HB3.out hx)
              rw [hx] at HIx
              clear HJ2 HB3 hx
              go_wp2_with fail
              refine (HIx.out _ HRa.out HRb.out).mono ?_
              rintro e w1 ⟨rfl, lo⟩
              have HL3 := Lib.hid ((HL1.out.trans HL2.out).trans lo)
              clear lo
              go_wp2_with fail
              go_ret
              exact ⟨ret_bool HF.out.symm, HL3.out⟩
            | true =>
              have HJ3 := Lib.hid (HJ2.out hx)
              rw [hx] at HIx
              clear HJ2 HB3 hx
              go_wp2_with fail
              refine (HIx.out _ HRa.out HRb.out).mono ?_
              rintro e w1 ⟨rfl, lo⟩
              have HL3 := Lib.hid (HL2.out.trans lo)
              clear lo
              go_wp2_with fail
              go_roundw
              case rel => exact ⟨j + 1, by omega, by go_num, HJ3, HL3⟩
              case measure => simp [intOf]; omega
          · obtain rfl : j = 4 := by omega
            have HI3 := Lib.hid (HS.out trivial HJ.out)
            go_wp2_with fail
            go_roundw
            case rel => exact ⟨k + 1, by omega, by go_num, HI3, Lib.hid (HL1.out.trans HL2.out)⟩
            case measure => simp [intOf]; omega
      · have HF : Hid (y = false) := Lib.hid (HBk.out h4)
        have hmb : ((m : Int) == 4) = false := by rw [beq_eq_false_iff_ne]; omega
        clear HBk HB2k HS
        go_wp2_with fail
        go_ret
        exact ⟨ret_bool HF.out.symm, HL1.out⟩
    · obtain rfl : k = n := by omega
      have HF : Hid (y = yc) := Lib.hid (HA.out HIv.out)
      go_wp2_with fail
      refine (HG.out _ (KRowC.lo HR.out HL1.out)).mono ?_
      rintro e w1 ⟨p1, c1, rfl, hrow, lo⟩
      have HL2 := Lib.hid (HL1.out.trans lo)
      have HR2 := Lib.hid hrow
      clear hrow lo
      go_wp2_with fail
      refine (HC.out _ _ HR2.out).mono ?_
      rintro e w2 ⟨rfl, lo⟩
      have HL3 := Lib.hid (HL2.out.trans lo)
      clear lo
      go_wp2_with fail
      go_ret
      exact ⟨ret_bool HF.out.symm, HL3.out⟩
end Go.Proofs.Ytcnmfgdeanbhoaa
/-
  Contracts of the document's answers for layer 3: Ints and Own of the references. No conditions beyond those stated.
-/
namespace Go.Proofs.Ytcnmfgdeanbhoaa
open Go.RowKit

theorem ints_snoc {l m : List Int} {k : Nat} (h1 : k < l.length) (h2 : k < m.length) (h : l.take k = m.take k) (he : l.getD k 0 = m.getD k 0) : l.take (k + 1) = m.take (k + 1) := by
  rw [Bn.take_snoc h1, Bn.take_snoc h2, h, he]

set_option maxHeartbeats 400000 in
theorem rints_len (v u : Value) (l m : List Int) (w : World) (h1 : Row w v l) (h2 : Row w u m) (hne : l.length ≠ m.length) :
    Calls Try.prog 72 #[v, u] w fun e w' => e = .returned (.bool false) ∧ Lo w w' := by
  obtain ⟨p, c, rfl, hlen⟩ := h1.form
  obtain ⟨p2, c2, rfl, hlen2⟩ := h2.form
  have hb : ((l.length : Int) == (m.length : Int)) = false := by simp; omega
  clear h1 h2 hne
  go_enter Try.func72, Try.ntmps72
  go_wp2_with fail
  go_ret
  exact ⟨rfl, Lo.refl w⟩

set_option maxHeartbeats 800000 in
theorem rints_same (v u : Value) (l m : List Int) (w : World) (h1 : Row w v l) (h2 : Row w u m) (heq : l.length = m.length) :
    Calls Try.prog 72 #[v, u] w fun e w' => e = .returned (.bool (decide (l = m))) ∧ Lo w w' := by
  obtain ⟨p, c, rfl, hlen⟩ := h1.form
  obtain ⟨p2, c2, rfl, hlen2⟩ := h2.form
  rw [← heq] at h2 ⊢
  have HR := Lib.hid h1
  have HR2 := Lib.hid h2
  have HM := Lib.hid heq
  generalize hy : decide (l = m) = y
  have HY := Lib.hid hy
  generalize hnn : l.length = n at *
  have HN := Lib.hid hnn
  clear h1 h2 heq hnn hlen2 hy
  go_enter Try.func72, Try.ntmps72
  go_wp2_with fail
  go_loopw [5] (fun i W => ∃ k : Nat, k ≤ n ∧ i = .int .i64 k ∧ Hid (l.take k = m.take k) ∧ Hid (Lo w W)) (fun i _ => n - (intOf i).toNat)
  case atStart => exact ⟨0, Nat.zero_le _, rfl, Lib.hid rfl, Lib.hid (Lo.refl _)⟩
  case round =>
    obtain ⟨k, hk, rfl, HE, HL⟩ := hrel
    by_cases hlt : k < n
    · obtain ⟨b, off, rfl, hcell⟩ := (HR.out.lo HL.out).at_ hlt
      obtain ⟨b', off', rfl, hcell2⟩ := (HR2.out.lo HL.out).at_ hlt
      have HK : Hid (k < l.length) := Lib.hid (by rw [HN.out]; exact hlt)
      have HK2 : Hid (k < m.length) := Lib.hid (by rw [← HM.out]; exact hlt)
      have HSn := Lib.hid (fun h => ints_snoc HK.out HK2.out HE.out h)
      have HNe : Hid (l.getD k 0 ≠ m.getD k 0 → y = false) := Lib.hid (by
        intro h
        rw [← HY.out, decide_eq_false_iff_not]
        rintro rfl
        exact h rfl)
      generalize l.getD k 0 = x at *
      generalize m.getD k 0 = z at *
      have hk0 : (0 : Int) ≤ (k : Int) := by omega
      have hkn : (k : Int) < (n : Int) := by omega
      by_cases he : x = z
      · subst he
        have HSn2 := Lib.hid (HSn.out rfl)
        clear HSn HNe
        go_wp2_with fail
        go_quiet (fail)
        have HL2 := Lib.hid (HL.out.drewN nq)
        go_wp2_with fail
        go_roundw
        case rel => exact ⟨k + 1, by omega, by go_num, HSn2, HL2⟩
        case measure => simp [intOf]; omega
      · have hb : (x == z) = false := by simpa using he
        have HYY : Hid (y = false) := Lib.hid (HNe.out he)
        clear he HNe HSn
        go_wp2_with fail
        go_quiet (fail)
        have HL2 := Lib.hid (HL.out.drewN nq)
        go_wp2_with fail
        go_ret
        exact ⟨ret_bool HYY.out.symm, HL2.out⟩
    · have HYY : Hid (y = true) := Lib.hid (by
        rw [← HY.out, decide_eq_true_iff]
        have := HE.out
        rwa [List.take_of_length_le (by rw [HN.out]; omega), List.take_of_length_le (by rw [← HM.out]; omega)] at this)
      go_wp2_with fail
      go_ret
      exact ⟨ret_bool HYY.out.symm, HL.out⟩

theorem rints_any (v u : Value) (l m : List Int) (w : World) (h1 : Row w v l) (h2 : Row w u m) :
    Calls Try.prog 72 #[v, u] w fun e w' => e = .returned (.bool (decide (l = m))) ∧ Lo w w' := by
  by_cases heq : l.length = m.length
  · exact rints_same v u l m w h1 h2 heq
  · rw [show decide (l = m) = false by rw [decide_eq_false_iff_not]; rintro rfl; exact heq rfl]
    exact rints_len v u l m w h1 h2 heq

set_option maxHeartbeats 400000 in
theorem rown_any (v : Value) (l : List Int) (w : World) (h1 : Row w v l) (hn : l.length ≤ 100000) :
    Calls Try.prog 24 #[v] w fun e w' => ∃ p c, e = .returned (.slice p l.length c) ∧ Row w' (.slice p l.length c) l ∧ Lo w w' := by
  have HR := Lib.hid h1
  clear h1
  go_enter Try.func24, Try.ntmps24
  go_wp2_with (at_builtin; refine wpList_app _ rfl (.tmp 4) (.tmp 5) rfl w.heap.size (.slice none 0 0) [] rfl (Own.none _ _) _ l rfl HR.out (by simp; omega) (Nat.le_refl _) ?_; intro q c2 w1 hown hlo; rw [List.nil_append, List.length_nil, Nat.zero_add] at hown; have HO := Lib.hid hown.row; have HL := Lib.hid (hlo w (Lo.refl w) rfl); clear hown hlo; rw [List.length_nil, Nat.zero_add])
  go_ret
  exact ⟨q, c2, rfl, HO.out, HL.out⟩
end Go.Proofs.Ytcnmfgdeanbhoaa
/-
  Contracts of the document's answers for layer 15: Find, SameStair and Same (of what is alike), Few. No conditions beyond those stated.
-/
namespace Cu
open Bn He
theorem not_glyph {l : List Kern} {g : Int} (h : ∀ i, i < l.length → (l.getD i zK).1 ≠ g) : g ∉ glyphs l := by
  intro hm
  obtain ⟨i, hi, he⟩ := List.mem_iff_getElem.1 hm
  have hi2 : i < l.length := by rw [glyphs_len] at hi; exact hi
  apply h i hi2
  rw [← glyphs_at hi2, ← he]
  simp [List.getD, hi]
def fewS (x : Stair) : Bool := decide (x.1.length ≤ 80) && decide (x.2.length ≤ 80)
def fewK (x : Kern) : Bool := decide (x.2.length ≤ 8) && x.2.all fewS
def few (l : List Kern) : Bool := decide (l.length ≤ 40) && l.all fewK
theorem few_long {l : List Kern} (h : 40 < l.length) : few l = false := by unfold few; rw [decide_eq_false (by omega)]; rfl
theorem few_bad {l : List Kern} {k : Nat} (hk : k < l.length) (h : fewK (l.getD k zK) = false) : few l = false := by
  rw [Bool.eq_false_iff]
  intro hc
  unfold few at hc
  rw [Bool.and_eq_true, List.all_eq_true] at hc
  have := hc.2 _ (getK_mem hk)
  rw [h] at this; cases this
theorem fewK_bad {x : Kern} {j : Nat} (hj : j < x.2.length) (h : fewS (x.2.getD j zS) = false) : fewK x = false := by
  rw [Bool.eq_false_iff]
  intro hc
  unfold fewK at hc
  rw [Bool.and_eq_true, List.all_eq_true] at hc
  have := hc.2 _ (getS_mem hj)
  rw [h] at this; cases this
theorem fewK_all {x : Kern} (h : x.2.length ≤ 8) (ha : ∀ j, j < x.2.length → fewS (x.2.getD j zS) = true) : fewK x = true := by
  unfold fewK
  rw [decide_eq_true h, Bool.true_and, List.all_eq_true]
  intro y hy
  obtain ⟨j, hj, rfl⟩ := List.mem_iff_getElem.1 hy
  have := ha j hj
  simpa [List.getD, hj] using this
theorem few_all {l : List Kern} (h : l.length ≤ 40) (ha : ∀ i, i < l.length → fewK (l.getD i zK) = true) : few l = true := by
  unfold few
  rw [decide_eq_true h, Bool.true_and, List.all_eq_true]
  intro y hy
  obtain ⟨j, hj, rfl⟩ := List.mem_iff_getElem.1 hy
  have := ha j hj
  simpa [List.getD, hj] using this
theorem few_has {l : List Kern} (h : few l = true) : l.length ≤ 40 ∧ ∀ x ∈ l, x.2.length ≤ 8 ∧ ∀ y ∈ x.2, y.1.length ≤ 80 ∧ y.2.length ≤ 80 := by
  unfold few at h
  rw [Bool.and_eq_true, List.all_eq_true, decide_eq_true_eq] at h
  refine ⟨h.1, fun x hx => ?_⟩
  have := h.2 x hx
  unfold fewK at this
  rw [Bool.and_eq_true, List.all_eq_true, decide_eq_true_eq] at this
  refine ⟨this.1, fun y hy => ?_⟩
  have := this.2 y hy
  unfold fewS at this
  simpa using this
end Cu
namespace Go.Proofs.Ytcnmfgdeanbhoaa
open Go.RowKit

set_option maxHeartbeats 3200000 in
theorem rcufind_any (v : Value) (l : List Cu.Kern) (g c h : Int) (w : World) (hr : KRowC w v l) (hlen : l.length ≤ 1000000) :
    Calls Try.prog 23 #[v, .int .i64 g, .int .i64 c, .int .i64 h] w fun e w' => e = .returned (.int .i64 (Cu.find l g c h)) ∧ Lo w w' := by
  have HI := Lib.hid (rcuright_any v l w hr hlen)
  cases hk : Cu.isK l with
  | false =>
    rw [Cu.find_bad hk]
    rw [hk] at HI
    obtain ⟨p, cc, rfl, _⟩ := RowR.form hr
    clear hr hk
    go_enter Try.func23, Try.ntmps23
    go_wp2_with fail
    refine HI.out.mono ?_
    rintro e w1 ⟨rfl, lo⟩
    have HL := Lib.hid lo
    clear lo
    go_wp2_with fail
    go_ret
    exact ⟨rfl, HL.out⟩
  | true =>
    rw [hk] at HI
    by_cases hc : c < 0 ∨ 3 < c
    · rw [Cu.find_low g hc]
      obtain ⟨p, cc, rfl, _⟩ := RowR.form hr
      clear hr hk
      rcases hc with hc | hc
      · go_enter Try.func23, Try.ntmps23
        go_wp2_with fail
        refine HI.out.mono ?_
        rintro e w1 ⟨rfl, lo⟩
        have HL := Lib.hid lo
        clear lo
        go_wp2_with fail
        go_ret
        exact ⟨rfl, HL.out⟩
      · have h1 : ¬ c < 0 := by omega
        go_enter Try.func23, Try.ntmps23
        go_wp2_with fail
        refine HI.out.mono ?_
        rintro e w1 ⟨rfl, lo⟩
        have HL := Lib.hid lo
        clear lo
        go_wp2_with fail
        go_ret
        exact ⟨rfl, HL.out⟩
    · obtain ⟨k, rfl⟩ := Int.eq_ofNat_of_zero_le (show 0 ≤ c by omega)
      have hk4 : k < 4 := by omega
      have HA := Lib.hid (fun (u v : Value) (x : Cu.Stair) W (a : Row W u x.1) (b : Row W v x.2) => rcuat_any u v x h W a b)
      have HF := Lib.hid (fun i (hi : i < l.length) (he : (l.getD i Cu.zK).1 = g) => (by rw [← he]; exact Cu.find_at hk (Cu.getK_some hi) k (by rw [Cu.kern_four hk hi]; exact hk4) h : Cu.find l g k h = Cu.ht ((l.getD i Cu.zK).2.getD k Cu.zS) h))
      have HF4 := Lib.hid (fun i (hi : i < l.length) => Cu.kern_four hk hi)
      have HNo := Lib.hid (fun hi => Cu.find_none (Cu.not_glyph (l := l) (g := g) hi) k h)
      obtain ⟨p, cc, rfl, _⟩ := RowR.form hr
      have HR := Lib.hid hr
      generalize Cu.find l g k h = y at *
      generalize hn : l.length = n at *
      have HN := Lib.hid hn
      clear hr hk hn hc
      have h1 : ¬ ((k : Nat) : Int) < 0 := by omega
      have h2 : ¬ (3 : Int) < ((k : Nat) : Int) := by omega
      go_enter Try.func23, Try.ntmps23
      go_wp2_with fail
      refine HI.out.mono ?_
      rintro e w1 ⟨rfl, lo⟩
      have HL := Lib.hid lo
      clear lo HI
      go_wp2_with fail
      go_loopw [9] (fun i W => ∃ (t : Nat), t ≤ n ∧ i = .int .i64 t ∧ Hid (∀ i, i < t → (l.getD i Cu.zK).1 ≠ g) ∧ Hid (Lo w W)) (fun i _ => n - (intOf i).toNat)
      case atStart => exact ⟨0, Nat.zero_le _, rfl, Lib.hid (fun i h => by omega), HL⟩
      case round =>
        obtain ⟨t, ht, rfl, HJ, HLt⟩ := hrel
        by_cases hlt : t < n
        · obtain ⟨b, off, u, rfl, c0, c1, hsr⟩ := KRowC.at2 (KRowC.lo HR.out HLt.out) (Cu.getK_some (l := l) (i := t) (by rw [HN.out]; exact hlt))
          have HF4t := Lib.hid (HF4.out t hlt)
          have HFt := Lib.hid (HF.out t hlt)
          obtain ⟨ps, cs, rfl, _⟩ := RowR.form hsr
          have HSR := Lib.hid hsr
          have HJ2 : Hid ((l.getD t Cu.zK).1 ≠ g → ∀ i, i < t + 1 → (l.getD i Cu.zK).1 ≠ g) := Lib.hid (fun h i hi => by
            rcases Nat.lt_or_ge i t with h1 | h1
            · exact HJ.out i h1
            · obtain rfl : i = t := by omega
              exact h)
          clear hsr HF HF4
          generalize l.getD t Cu.zK = x at *
          obtain ⟨gg, q⟩ := x
          dsimp only at c0 c1 HF4t HFt HSR HJ2
          have hq := HF4t.out
          simp only [hq] at c1 HSR
          clear hq
          by_cases hg : gg = g
          · subst hg
            have HY := Lib.hid (HFt.out rfl)
            obtain ⟨b2, off2, u2, v2, rfl, d0, d1, ra, rb⟩ := SRowC.at2 HSR.out (Cu.getS_some (l := q) (i := k) (by rw [HF4t.out]; exact hk4))
            have HAx := Lib.hid (HA.out u2 v2 (q.getD k Cu.zS))
            have HRa := Lib.hid ra
            have HRb := Lib.hid rb
            obtain ⟨pu, cu, rfl, _⟩ := ra.form
            obtain ⟨pv, cv2, rfl, _⟩ := rb.form
            clear ra rb HFt HJ2
            generalize q.getD k Cu.zS = x at *
            generalize Cu.ht x h = z at *
            obtain ⟨x1, x2⟩ := x
            dsimp only at HRa HRb HAx d0 d1
            generalize x1.length = n1 at *
            generalize x2.length = n2 at *
            go_wp2_with fail
            refine (HAx.out _ HRa.out HRb.out).mono ?_
            rintro e w2 ⟨rfl, lo⟩
            have HL2 := Lib.hid (HLt.out.trans lo)
            clear lo
            go_wp2_with fail
            go_ret
            rw [HY.out]
            exact ⟨rfl, HL2.out⟩
          · have HJ3 := Lib.hid (HJ2.out hg)
            have hgb : (gg == g) = false := by rw [beq_eq_false_iff_ne]; exact hg
            clear HFt HJ2
            go_wp2_with fail
            go_roundw
            case rel => exact ⟨t + 1, by omega, by go_num, HJ3, HLt⟩
            case measure => simp [intOf]; omega
        · obtain rfl : t = n := by omega
          have HY := Lib.hid (HNo.out HJ.out)
          go_wp2_with fail
          go_ret
          rw [HY.out]
          exact ⟨rfl, HLt.out⟩

set_option maxHeartbeats 1600000 in
theorem samest_any (x : Cu.Stair) (u v u2 v2 : Value) (w : World) (h1 : Row w u x.1) (h2 : Row w v x.2) (h3 : Row w u2 x.1) (h4 : Row w v2 x.2) :
    Calls Try.prog 41 #[.agg #[u, v], .agg #[u2, v2]] w fun e w' => e = .returned (.bool true) ∧ Lo w w' := by
  have HA := Lib.hid (fun W (a : Row W u x.1) (b : Row W u2 x.1) => rints_any u u2 x.1 x.1 W a b)
  have HB := Lib.hid (fun W (a : Row W v x.2) (b : Row W v2 x.2) => rints_any v v2 x.2 x.2 W a b)
  rw [decide_eq_true rfl] at HA HB
  have HR1 := Lib.hid h1
  have HR2 := Lib.hid h2
  have HR3 := Lib.hid h3
  have HR4 := Lib.hid h4
  obtain ⟨p1, c1, rfl, _⟩ := h1.form
  obtain ⟨p2, c2, rfl, _⟩ := h2.form
  obtain ⟨p3, c3, rfl, _⟩ := h3.form
  obtain ⟨p4, c4, rfl, _⟩ := h4.form
  clear h1 h2 h3 h4
  generalize x.1 = a at *
  generalize x.2 = b at *
  generalize a.length = n at *
  generalize b.length = m at *
  go_enter Try.func41, Try.ntmps41
  go_wp2_with fail
  have HL0 : Hid (Lo w ((w.alloc (.cells #[.slice p1 n c1, .slice p2 m c2] 35)).alloc (.cells #[.slice p3 n c3, .slice p4 m c4] 35))) := Lib.hid (((Lo.refl w).alloc _).alloc _)
  refine (HA.out _ (HR1.out.lo HL0.out) (HR3.out.lo HL0.out)).mono ?_
  rintro e w1 ⟨rfl, lo⟩
  have HL := Lib.hid (HL0.out.trans lo)
  obtain ⟨q0, q1⟩ := two_cells (lo_block (((Lo.refl _).alloc _).trans lo) (new_block w _))
  obtain ⟨q2, q3⟩ := two_cells (lo_block lo (new_block _ _))
  rw [show (w.alloc (.cells #[.slice p1 n c1, .slice p2 m c2] 35)).heap.size = w.heap.size + 1 by simp] at q2 q3
  clear lo HL0
  go_wp2_with fail
  refine (HB.out _ (HR2.out.lo HL.out) (HR4.out.lo HL.out)).mono ?_
  rintro e w2 ⟨rfl, lo⟩
  have HL2 := Lib.hid (HL.out.trans lo)
  clear lo
  go_wp2_with fail
  go_ret
  exact ⟨rfl, HL2.out⟩

set_option maxHeartbeats 3200000 in
theorem samek_any (l : List Cu.Kern) (v u : Value) (w : World) (h : KRowC w v l) (h2 : KRowC w u l) : Calls Try.prog 15 #[v, u] w fun e w' => e = .returned (.bool true) ∧ Lo w w' := by
  obtain ⟨p, c, rfl, hlen⟩ := RowR.form h
  obtain ⟨p2, c2, rfl, _⟩ := RowR.form h2
  have HR := Lib.hid h
  have HR2 := Lib.hid h2
  have HS := Lib.hid samest_any
  generalize hn : l.length = n at *
  have HN := Lib.hid hn
  clear hn h h2
  go_enter Try.func15, Try.ntmps15
  go_wp2_with fail
  go_loopw [5, 6] (fun i _ W => ∃ k : Nat, k ≤ n ∧ i = .int .i64 k ∧ Hid (Lo w W)) (fun i _ _ => n - (intOf i).toNat)
  case atStart => exact ⟨0, Nat.zero_le _, rfl, Lib.hid (Lo.refl _)⟩
  case round =>
    obtain ⟨k, hk, rfl, HL⟩ := hrel
    by_cases hlt : k < n
    · have hx : l[k]? = some (l.getD k Cu.zK) := Cu.getK_some (by rw [HN.out]; exact hlt)
      obtain ⟨b, off, s1, rfl, hc1, hc2, hs1⟩ := KRowC.at2 (KRowC.lo HR.out HL.out) hx
      obtain ⟨b2, off2, s2, rfl, hc3, hc4, hs2⟩ := KRowC.at2 (KRowC.lo HR2.out HL.out) hx
      obtain ⟨ps, cs, rfl, hsl⟩ := RowR.form hs1
      obtain ⟨ps2, cs2, rfl, _⟩ := RowR.form hs2
      have HS1 := Lib.hid hs1
      have HS2 := Lib.hid hs2
      clear hx hs1 hs2
      generalize l.getD k Cu.zK = x at *
      obtain ⟨g, q⟩ := x
      dsimp only at hc1 hc2 hc3 hc4 HS1 HS2 hsl
      generalize hm : q.length = m at *
      have HM := Lib.hid hm
      clear hm
      go_wp2_with fail
      go_quiet (fail)
      have HL2 := Lib.hid (HL.out.drewN nq)
      have HW0 := Lib.hid ((Lo.refl wr).drewN nq)
      go_wp2_with fail
      have HC2 := Lib.hid hc2
      have HC4 := Lib.hid hc4
      clear hc1 hc2 hc3 hc4
      go_loopw [6] (fun i W => ∃ (j : Nat), j ≤ m ∧ i = .int .i64 j ∧ Hid (Lo wr W)) (fun i _ => m - (intOf i).toNat)
      case atStart => exact ⟨0, Nat.zero_le _, rfl, HW0⟩
      case round =>
        obtain ⟨j, hj, rfl, HLj⟩ := hrel
        have c2 := (HLj.out.cell (World.block_lt_of_cell? _ _ HC2.out)).trans HC2.out
        have c4 := (HLj.out.cell (World.block_lt_of_cell? _ _ HC4.out)).trans HC4.out
        by_cases hjm : j < m
        · have hy : q[j]? = some (q.getD j Cu.zS) := Cu.getS_some (by rw [HM.out]; exact hjm)
          obtain ⟨b3, off3, u1, v1, rfl, d0, d1, ra, rb⟩ := SRowC.at2 (SRowC.lo HS1.out HLj.out) hy
          obtain ⟨b4, off4, u2, v2, rfl, d2, d3, rc, rd⟩ := SRowC.at2 (SRowC.lo HS2.out HLj.out) hy
          have HX := Lib.hid (fun W (lo : Lo wr W) => HS.out (q.getD j Cu.zS) u1 v1 u2 v2 W (ra.lo lo) (rb.lo lo) (rc.lo lo) (rd.lo lo))
          obtain ⟨pa, ca, rfl, _⟩ := ra.form
          obtain ⟨pb, cb, rfl, _⟩ := rb.form
          obtain ⟨pc, cc, rfl, _⟩ := rc.form
          obtain ⟨pd, cd, rfl, _⟩ := rd.form
          clear ra rb rc rd hy
          generalize q.getD j Cu.zS = x at *
          obtain ⟨x1, x2⟩ := x
          dsimp only at d0 d1 d2 d3 HX
          generalize x1.length = n1 at *
          generalize x2.length = n2 at *
          go_wp2_with fail
          go_region_with (go_at_call 41; refine (HX.out _ (Lo.refl _).drew).mono ?_; rintro e w3 ⟨rfl, hlo⟩; have HL3 := Lib.hid (HLj.out.trans (((Lo.refl _).drew).trans hlo)); clear hlo)
          all_goals
            go_wp2_with fail
            go_roundw
            case rel => exact ⟨j + 1, by omega, by go_num, HL3⟩
            case measure => simp [intOf]; omega
        · go_wp2_with fail
          go_roundw
          case rel => exact ⟨k + 1, by omega, by go_num, Lib.hid (HL.out.trans HLj.out)⟩
          case measure => simp [intOf]; omega
    · go_wp2_with fail
      go_ret
      exact ⟨rfl, HL.out⟩

set_option maxHeartbeats 3200000 in
theorem rcufew_any (v : Value) (l : List Cu.Kern) (w : World) (h : KRowC w v l) : Calls Try.prog 8 #[v] w fun e w' => e = .returned (.bool (Cu.few l)) ∧ Lo w w' := by
  obtain ⟨p, c, rfl, hlen⟩ := RowR.form h
  have HR := Lib.hid h
  by_cases hl : 40 < l.length
  · rw [Cu.few_long hl]
    generalize l.length = n at *
    have h1 : ¬ (n : Int) ≤ 40 := by omega
    have h2 : (0 : Int) < (n : Int) := by omega
    have hb : decide ((n : Int) ≤ 40) = false := decide_eq_false h1
    clear h HR
    go_enter Try.func8, Try.ntmps8
    go_wp2_with fail
    go_loopw [3, 4] (fun i _ W => i = .int .i64 0 ∧ w = W) (fun i _ _ => 1 - (intOf i).toNat)
    case atStart => exact ⟨rfl, rfl⟩
    case round =>
      obtain ⟨rfl, rfl⟩ := hrel
      go_wp2_with fail
      go_ret
      exact ⟨rfl, Lo.refl _⟩
  · have HB := Lib.hid (fun k hk hf => @Cu.few_bad l k hk hf)
    have HA := Lib.hid (@Cu.few_all l (by omega))
    generalize Cu.few l = y at *
    generalize hn : l.length = n at *
    have HN := Lib.hid hn
    have hn40 : n ≤ 40 := by omega
    clear hn h hl
    go_enter Try.func8, Try.ntmps8
    go_wp2_with fail
    go_loopw [3, 4] (fun i _ W => ∃ k : Nat, k ≤ n ∧ i = .int .i64 k ∧ Hid (∀ i, i < k → Cu.fewK (l.getD i Cu.zK) = true) ∧ Hid (Lo w W)) (fun i _ _ => n - (intOf i).toNat)
    case atStart => exact ⟨0, Nat.zero_le _, rfl, Lib.hid (fun i h => by omega), Lib.hid (Lo.refl _)⟩
    case round =>
      obtain ⟨k, hk, rfl, HI, HL⟩ := hrel
      by_cases hlt : k < n
      · have hx : l[k]? = some (l.getD k Cu.zK) := Cu.getK_some (by rw [HN.out]; exact hlt)
        obtain ⟨b, off, s1, rfl, hc1, hc2, hs1⟩ := KRowC.at2 (KRowC.lo HR.out HL.out) hx
        obtain ⟨ps, cs, rfl, hsl⟩ := RowR.form hs1
        have HS1 := Lib.hid hs1
        have HBk := Lib.hid (HB.out k hlt)
        have HS : Hid (Cu.fewK (l.getD k Cu.zK) = true → ∀ i, i < k + 1 → Cu.fewK (l.getD i Cu.zK) = true) := Lib.hid (fun h i hi => by
          rcases Nat.lt_or_ge i k with h1 | h1
          · exact HI.out i h1
          · obtain rfl : i = k := by omega
            exact h)
        have HKb := Lib.hid (fun j hj h => @Cu.fewK_bad (l.getD k Cu.zK) j hj h)
        have HKa := Lib.hid (@Cu.fewK_all (l.getD k Cu.zK))
        have HKl : Hid (8 < (l.getD k Cu.zK).2.length → Cu.fewK (l.getD k Cu.zK) = false) := Lib.hid (fun h => by unfold Cu.fewK; rw [decide_eq_false (by omega)]; rfl)
        clear hx hs1
        generalize l.getD k Cu.zK = x at *
        generalize Cu.fewK x = yk at *
        obtain ⟨g, q⟩ := x
        dsimp only at hc1 hc2 HS1 hsl HKb HKa HKl
        generalize hm : q.length = m at *
        have HM := Lib.hid hm
        clear hm
        by_cases hm8 : 8 < m
        · have HF : Hid (y = false) := Lib.hid (HBk.out (HKl.out hm8))
          have h8 : (8 : Int) < (m : Int) := by omega
          go_wp2_with fail
          go_ret
          exact ⟨ret_bool HF.out.symm, HL.out⟩
        · have h8 : ¬ (8 : Int) < (m : Int) := by omega
          have HKa2 := Lib.hid (HKa.out (by omega))
          clear HKa HKl
          have HC2 := Lib.hid hc2
          go_wp2_with fail
          clear hc1 hc2
          go_loopw [4] (fun i W => ∃ (j : Nat), j ≤ m ∧ i = .int .i64 j ∧ Hid (∀ i, i < j → Cu.fewS (q.getD i Cu.zS) = true) ∧ Hid (Lo wr W)) (fun i _ => m - (intOf i).toNat)
          case atStart => exact ⟨0, Nat.zero_le _, rfl, Lib.hid (fun i h => by omega), Lib.hid (Lo.refl _)⟩
          case round =>
            obtain ⟨j, hj, rfl, HJ, HLj⟩ := hrel
            have c2 := (HLj.out.cell (World.block_lt_of_cell? _ _ HC2.out)).trans HC2.out
            by_cases hjm : j < m
            · have hy : q[j]? = some (q.getD j Cu.zS) := Cu.getS_some (by rw [HM.out]; exact hjm)
              obtain ⟨b3, off3, u1, v1, rfl, d0, d1, ra, rb⟩ := SRowC.at2 (SRowC.lo HS1.out HLj.out) hy
              obtain ⟨pa, ca, rfl, _⟩ := ra.form
              obtain ⟨pb, cb, rfl, _⟩ := rb.form
              have HJ2 : Hid (Cu.fewS (q.getD j Cu.zS) = true → ∀ i, i < j + 1 → Cu.fewS (q.getD i Cu.zS) = true) := Lib.hid (fun h i hi => by
                rcases Nat.lt_or_ge i j with h1 | h1
                · exact HJ.out i h1
                · obtain rfl : i = j := by omega
                  exact h)
              have HKbj := Lib.hid (HKb.out j hjm)
              have HFe : Hid (Cu.fewS (q.getD j Cu.zS) = (decide ((q.getD j Cu.zS).1.length ≤ 80) && decide ((q.getD j Cu.zS).2.length ≤ 80))) := Lib.hid rfl
              clear ra rb hy
              generalize q.getD j Cu.zS = x at *
              generalize Cu.fewS x = yx at *
              obtain ⟨x1, x2⟩ := x
              dsimp only at d0 d1 HFe
              generalize x1.length = n1 at *
              generalize x2.length = n2 at *
              by_cases h1 : 80 < n1
              · have HF : Hid (y = false) := Lib.hid (HBk.out (HKbj.out (by rw [HFe.out, decide_eq_false (by omega)]; rfl)))
                have h1i : (80 : Int) < (n1 : Int) := by omega
                have h1b : decide ((80 : Int) < (n1 : Int)) = true := decide_eq_true h1i
                clear HJ2 HKbj HFe
                go_wp2_with fail
                go_ret
                exact ⟨ret_bool HF.out.symm, HL.out.trans HLj.out⟩
              · have h1i : ¬ (80 : Int) < (n1 : Int) := by omega
                by_cases h2 : 80 < n2
                · have HF : Hid (y = false) := Lib.hid (HBk.out (HKbj.out (by rw [HFe.out, decide_eq_false (show ¬ n2 ≤ 80 by omega), Bool.and_false])))
                  have h2i : (80 : Int) < (n2 : Int) := by omega
                  clear HJ2 HKbj HFe
                  go_wp2_with fail
                  go_ret
                  exact ⟨ret_bool HF.out.symm, HL.out.trans HLj.out⟩
                · have h2i : ¬ (80 : Int) < (n2 : Int) := by omega
                  have HJ3 := Lib.hid (HJ2.out (by rw [HFe.out, decide_eq_true (by omega), decide_eq_true (by omega)]; rfl))
                  clear HJ2 HKbj HFe
                  go_wp2_with fail
                  go_roundw
                  case rel => exact ⟨j + 1, by omega, by go_num, HJ3, HLj⟩
                  case measure => simp [intOf]; omega
            · obtain rfl : j = m := by omega
              have HI3 := Lib.hid (HS.out (HKa2.out HJ.out))
              go_wp2_with fail
              go_roundw
              case rel => exact ⟨k + 1, by omega, by go_num, HI3, Lib.hid (HL.out.trans HLj.out)⟩
              case measure => simp [intOf]; omega
      · obtain rfl : k = n := by omega
        have HF : Hid (y = true) := Lib.hid (HA.out HI.out)
        have hki : (k : Int) ≤ 40 := by omega
        go_wp2_with fail
        go_ret
        exact ⟨ret_bool HF.out.symm, HL.out⟩
end Go.Proofs.Ytcnmfgdeanbhoaa
