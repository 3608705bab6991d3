/-
  The contract of the document's wrong for layer 4: the error of a record. No conditions beyond those stated.
-/
import Derived.Test.YtchhjfocanjniaaGreatSfRefRec
namespace Go.Proofs.YtchhjfocanjniaaGreat
open Go.RowKit

/-- A record in a block of its own. -/
abbrev RecAt (T : Nat) (t : List UInt8) (sm ad mn : Nat) (w0 W : World) : Prop := W.cell? ⟨T, 0, none⟩ = some (.string ⟨t.toArray⟩) ∧ W.cell? ⟨T, 1, none⟩ = some (.int .i64 sm) ∧ W.cell? ⟨T, 2, none⟩ = some (.int .i64 ad) ∧ W.cell? ⟨T, 3, none⟩ = some (.int .i64 mn) ∧ Hid (T < W.heap.size) ∧ Hid (Lo w0 W)
theorem RecAt.lo {T : Nat} {t : List UInt8} {sm ad mn : Nat} {w0 W W' : World} (h : RecAt T t sm ad mn w0 W) (l : Lo W W') : RecAt T t sm ad mn w0 W' :=
  ⟨(l.cell h.2.2.2.2.1.out).trans h.1, (l.cell h.2.2.2.2.1.out).trans h.2.1, (l.cell h.2.2.2.2.1.out).trans h.2.2.1, (l.cell h.2.2.2.2.1.out).trans h.2.2.2.1, Lib.hid (Nat.lt_of_lt_of_le h.2.2.2.2.1.out l.size), Lib.hid (h.2.2.2.2.2.out.trans l)⟩

set_option maxRecDepth 100000 in
set_option maxHeartbeats 4000000 in
theorem rwrong_any (s : List UInt8) (n i : Nat) (v : Value) (w : World) (hr : QRow w v (rqs s n)) (hi : i < n) (hn : n ≤ 64) (hl : s.length ≤ 100000) :
    Calls Tryz.prog 21 #[.string ⟨s.toArray⟩, v, .int .i64 i] w fun e w' => e = .returned (.int .i64 (Sf.wrong s n i)) ∧ Lo w w' := by
  obtain ⟨p, c, rfl, hlen⟩ := RowK.form hr
  rw [rqs_len] at hr hlen ⊢
  obtain ⟨b, off, rfl, c0, c1, c2, c3⟩ := QRow.at4 hr (rqs_at s hi)
  have HP : Hid (0 < i → w.cell? ⟨b, off + (i - 1) * 4, none⟩ = some (.string ⟨(Sf.recTag s (i - 1)).toArray⟩)) := Lib.hid (fun h0 => by
    obtain ⟨b', off', he, d0, _⟩ := QRow.at4 hr (rqs_at s (n := n) (i := i - 1) (by omega))
    simp only [Option.some.injEq, Addr.mk.injEq, and_true] at he
    rw [he.1, he.2]; exact d0)
  have hbw := World.block_lt_of_cell? w _ c0
  unfold Sf.rq at c0 c1 c2 c3
  dsimp only at c0 c1 c2 c3
  have HTl : Hid ((Sf.recTag s i).length ≤ 4) := Lib.hid (by unfold Sf.recTag; rw [List.length_take]; omega)
  have HT := Lib.hid (fun W => rtag_any (Sf.recTag s i) W (by have := HTl.out; omega))
  have hat := Sf.num_lt s (20 + 16 * i)
  have hmn := Sf.num_lt s (24 + 16 * i)
  have HSum := Lib.hid (fun W => rtsum_any (Sf.tab s i) W (by unfold Sf.tab; simp only [List.length_take, List.length_drop]; omega))
  have hbf : Sf.badForm s n i = (!Sf.isTag (Sf.recTag s i) || (decide (0 < i) && !Sf.less (Sf.recTag s (i - 1)) (Sf.recTag s i)) || decide (Sf.recAt s i % 4 ≠ 0) || decide (Sf.recAt s i < 12 + 16 * n)) := rfl
  have hyy : Sf.wrong s n i = if Sf.badForm s n i = true then 5 else if s.length < Sf.recAt s i + Sf.recLen s i then 4 else if Sf.tsum (Sf.tab s i) ≠ Sf.recSum s i then 5 else 0 := rfl
  rw [hbf] at hyy
  have hex : Sf.recAt s i + Sf.recLen s i ≤ s.length → (⟨s.toArray⟩ : ByteArray).extract (Sf.recAt s i) (Sf.recAt s i + Sf.recLen s i) = ⟨((s.drop (Sf.recAt s i)).take (Sf.recLen s i)).toArray⟩ := fun _ => by rw [Gk.extract_list, Nat.add_sub_cancel_left]
  have hle := Sf.le_mk (Sf.recTag s i) (Sf.recTag s (i - 1))
  unfold aggT Sf.tab at HSum
  unfold Sf.tab at hyy
  dsimp only at HSum
  change Sf.recAt s i < 4294967296 at hat
  change Sf.recLen s i < 4294967296 at hmn
  generalize Sf.wrong s n i = y at *
  generalize Sf.tsum (Sf.recTag s i, (s.drop (Sf.recAt s i)).take (Sf.recLen s i)) = ts at *
  generalize (s.drop (Sf.recAt s i)).take (Sf.recLen s i) = body at *
  generalize Sf.recTag s (i - 1) = pt at *
  generalize Sf.isTag (Sf.recTag s i) = tg at *
  generalize Sf.less pt (Sf.recTag s i) = ls at *
  generalize Sf.recTag s i = t at *
  generalize Sf.recSum s i = sm at *
  generalize Sf.recAt s i = ad at *
  generalize Sf.recLen s i = mn at *
  have HY := Lib.hid hyy
  have HX := Lib.hid hex
  have HLE := Lib.hid hle
  clear hyy hbf hr hex hle HTl
  have j0 : (0 : Int) ≤ (i : Int) := by omega
  have j1 : (i : Int) < (n : Int) := by omega
  go_enter Tryz.func21, Tryz.ntmps21
  go_wp2_with fail
  generalize hW : World.alloc w _ = W1
  have HL : Hid (Lo w W1) := Lib.hid (by rw [← hW]; exact (Lo.refl w).alloc _)
  have hB : W1.heap[w.heap.size]? = some (.cells #[.string ⟨t.toArray⟩, .int .i64 sm, .int .i64 ad, .int .i64 mn] 55 (0, 0)) := by rw [← hW]; exact new_block w _
  obtain ⟨⟨r0, r1, r2, r3⟩, _⟩ := four_at hB
  have HP1 : Hid (0 < i → W1.cell? ⟨b, off + (i - 1) * 4, none⟩ = some (.string ⟨pt.toArray⟩)) := Lib.hid (fun h => (HL.out.cell hbw).trans (HP.out h))
  clear hW hB c0 c1 c2 c3 HP
  generalize w.heap.size = T at *
  have a1 : IntKind.i64.wrap (16 * (n : Int)) = 16 * (n : Int) := IntWalk.i64_in _ (by omega)
  have a2 : IntKind.i64.wrap (12 + 16 * (n : Int)) = 12 + 16 * (n : Int) := IntWalk.i64_in _ (by omega)
  have a3 : IntKind.i64.wrap ((i : Int) - 1) = (i : Int) - 1 := IntWalk.i64_in _ (by omega)
  have a4 : ((i : Int) - 1).toNat = i - 1 := by omega
  have a5 : (i : Int) - 1 < (n : Int) := by omega
  have a6 : (ad : Int).tmod 4 = (ad : Int) % 4 := Int.tmod_eq_emod_of_nonneg (by omega)
  cases tg with
  | false =>
    have HE : Hid (y = 5) := Lib.hid (by rw [HY.out]; simp)
    clear HY a6
    go_quiet (first | (go_at_call 46; exact quiet' (HT.out _)))
    have HL2 := Lib.hid (HL.out.drewN nq)
    clear a1 a2 a3 a4 a5
    go_wp2_with fail
    go_ret
    exact ⟨ret_int HE.out.symm, HL2.out⟩
  | true =>
    by_cases h0 : i = 0
    · have b1 : decide ((0 : Int) < (i : Int)) = false := by simp; omega
      have b2 : decide (0 < i) = false := by simp; omega
      by_cases h4 : ad % 4 = 0
      · have m1 : (ad : Int) % 4 = 0 := by omega
        by_cases h5 : ad < 12 + 16 * n
        · have HE : Hid (y = 5) := Lib.hid (by rw [HY.out]; simp [h4, h5])
          have m2 : decide ((ad : Int) < 12 + 16 * (n : Int)) = true := by simp; omega
          clear HY HX
          go_quiet (first | (go_at_call 46; exact quiet' (HT.out _)))
          have HL2 := Lib.hid (HL.out.drewN nq)
          clear a1 a2 a3 a4 a5 a6 m1 m2
          go_wp2_with fail
          go_ret
          exact ⟨ret_int HE.out.symm, HL2.out⟩
        · have m2 : decide ((ad : Int) < 12 + 16 * (n : Int)) = false := by simp; omega
          have HTL : Hid (T < W1.heap.size) := Lib.hid (World.block_lt_of_cell? W1 _ r0)
          have HNL : Hid ((decide (0 < i) && !ls) = false) := Lib.hid (by rw [b2]; rfl)
          go_quiet (first | (go_at_call 46; exact quiet' (HT.out _)))
          have HL2 := Lib.hid (HL.out.drewN nq)
          clear a1 a2 a3 a4 a5 a6 m1 m2
          by_cases h6 : s.length < ad + mn
          · have HE : Hid (y = 4) := Lib.hid (by rw [HY.out]; simp [h4, h6, HNL.out]; omega)
            have m6 : (s.length : Int) < (ad : Int) + (mn : Int) := by omega
            clear HY HX HNL
            go_wp2_with fail
            go_ret
            exact ⟨ret_int HE.out.symm, HL2.out⟩
          · have hxx := HX.out (by omega)
            have m6 : (ad : Int) + (mn : Int) ≤ (s.length : Int) := by omega
            have m7 : IntKind.i64.wrap ((ad : Int) + (mn : Int)) = (ad : Int) + (mn : Int) := IntWalk.i64_in _ (by omega)
            have m8 : (0 : Int) ≤ (ad : Int) + (mn : Int) := by omega
            have m9 : (ad : Int) ≤ (ad : Int) + (mn : Int) := by omega
            have n1 : ((ad : Int) + (mn : Int)).toNat = ad + mn := by omega
            have n2 : (0 : Int) ≤ (ad : Int) := by omega
            have HEq : Hid (y = if ts ≠ sm then 5 else 0) := Lib.hid (by rw [HY.out]; simp [h4, h6, HNL.out]; intro h; omega)
            clear HY HX HNL
            go_wp2_with fail
            have CS : Hid (∀ W, RecAt T t sm ad mn w W → Calls Tryz.prog 12 #[.agg #[.string ⟨t.toArray⟩, .string ⟨body.toArray⟩]] W fun e w' => e = .returned (.int .i64 ts) ∧ RecAt T t sm ad mn w w') := Lib.hid (fun W hW => (HSum.out W).mono fun _ _ ⟨h1, h2⟩ => ⟨h1, hW.lo h2⟩)
            go_region_held3 (fun W => RecAt T t sm ad mn w W) (first | assumption | exact ⟨r0, r1, r2, r3, HTL, Lib.hid HL2.out.drew⟩)
              (first | (go_at_call 12; refine (CS.out _ (by assumption)).mono ?_; rintro e w9 ⟨rfl, h9⟩))
            all_goals
              have HL9 := Lib.hid h9.2.2.2.2.2.out
              by_cases h7 : ts = sm
              · have m0 : ((ts : Int) != (sm : Int)) = false := by simp; omega
                clear CS hxx
                go_wp2_with fail
                go_ret
                exact ⟨ret_int (by rw [HEq.out]; simp [h7]), HL9.out⟩
              · have m0 : ((ts : Int) != (sm : Int)) = true := by simp; omega
                clear CS hxx
                go_wp2_with fail
                go_ret
                exact ⟨ret_int (by rw [HEq.out]; simp [h7]), HL9.out⟩
      · have HE : Hid (y = 5) := Lib.hid (by rw [HY.out]; simp [h4])
        have m1 : ((ad : Int) % 4 != 0) = true := by simp; omega
        clear HY HX
        go_quiet (first | (go_at_call 46; exact quiet' (HT.out _)))
        have HL2 := Lib.hid (HL.out.drewN nq)
        clear a1 a2 a3 a4 a5 a6 m1
        go_wp2_with fail
        go_ret
        exact ⟨ret_int HE.out.symm, HL2.out⟩
    · have b1 : decide ((0 : Int) < (i : Int)) = true := by simp; omega
      have b2 : decide (0 < i) = true := by simp; omega
      have b3 : (0 : Int) ≤ (i : Int) - 1 := by omega
      have b3' : (1 : Int) ≤ (i : Int) := by omega
      have b4 := HP1.out (by omega)
      have hle := HLE.out
      cases ls with
      | false =>
        simp only [Bool.not_false] at hle
        have HE : Hid (y = 5) := Lib.hid (by rw [HY.out, b2]; simp)
        clear HY HX
        go_quiet (first | (go_at_call 46; exact quiet' (HT.out _)))
        have HL2 := Lib.hid (HL.out.drewN nq)
        clear a1 a2 a3 a4 a5 a6 hle
        go_wp2_with fail
        go_ret
        exact ⟨ret_int HE.out.symm, HL2.out⟩
      | true =>
        simp only [Bool.not_true] at hle
        by_cases h4 : ad % 4 = 0
        · have m1 : (ad : Int) % 4 = 0 := by omega
          by_cases h5 : ad < 12 + 16 * n
          · have HE : Hid (y = 5) := Lib.hid (by rw [HY.out]; simp [h4, h5])
            have m2 : decide ((ad : Int) < 12 + 16 * (n : Int)) = true := by simp; omega
            clear HY HX
            go_quiet (first | (go_at_call 46; exact quiet' (HT.out _)))
            have HL2 := Lib.hid (HL.out.drewN nq)
            clear a1 a2 a3 a4 a5 a6 m1 m2
            go_wp2_with fail
            go_ret
            exact ⟨ret_int HE.out.symm, HL2.out⟩
          · have m2 : decide ((ad : Int) < 12 + 16 * (n : Int)) = false := by simp; omega
            have HTL : Hid (T < W1.heap.size) := Lib.hid (World.block_lt_of_cell? W1 _ r0)
            have HNL : Hid True := Lib.hid trivial
            go_quiet (first | (go_at_call 46; exact quiet' (HT.out _)))
            have HL2 := Lib.hid (HL.out.drewN nq)
            clear a1 a2 a3 a4 a5 a6 m1 m2
            by_cases h6 : s.length < ad + mn
            · have HE : Hid (y = 4) := Lib.hid (by rw [HY.out]; simp [h4, h6]; omega)
              have m6 : (s.length : Int) < (ad : Int) + (mn : Int) := by omega
              clear HY HX
              go_wp2_with fail
              go_ret
              exact ⟨ret_int HE.out.symm, HL2.out⟩
            · have hxx := HX.out (by omega)
              have m6 : (ad : Int) + (mn : Int) ≤ (s.length : Int) := by omega
              have m7 : IntKind.i64.wrap ((ad : Int) + (mn : Int)) = (ad : Int) + (mn : Int) := IntWalk.i64_in _ (by omega)
              have m8 : (0 : Int) ≤ (ad : Int) + (mn : Int) := by omega
              have m9 : (ad : Int) ≤ (ad : Int) + (mn : Int) := by omega
              have n1 : ((ad : Int) + (mn : Int)).toNat = ad + mn := by omega
              have n2 : (0 : Int) ≤ (ad : Int) := by omega
              have HEq : Hid (y = if ts ≠ sm then 5 else 0) := Lib.hid (by rw [HY.out]; simp [h4, h6]; intro h; omega)
              clear HY HX
              go_wp2_with fail
              have CS : Hid (∀ W, RecAt T t sm ad mn w W → Calls Tryz.prog 12 #[.agg #[.string ⟨t.toArray⟩, .string ⟨body.toArray⟩]] W fun e w' => e = .returned (.int .i64 ts) ∧ RecAt T t sm ad mn w w') := Lib.hid (fun W hW => (HSum.out W).mono fun _ _ ⟨h1, h2⟩ => ⟨h1, hW.lo h2⟩)
              go_region_held3 (fun W => RecAt T t sm ad mn w W) (first | assumption | exact ⟨r0, r1, r2, r3, HTL, Lib.hid HL2.out.drew⟩)
                (first | (go_at_call 12; refine (CS.out _ (by assumption)).mono ?_; rintro e w9 ⟨rfl, h9⟩))
              all_goals
                have HL9 := Lib.hid h9.2.2.2.2.2.out
                by_cases h7 : ts = sm
                · have m0 : ((ts : Int) != (sm : Int)) = false := by simp; omega
                  clear CS hxx
                  go_wp2_with fail
                  go_ret
                  exact ⟨ret_int (by rw [HEq.out]; simp [h7]), HL9.out⟩
                · have m0 : ((ts : Int) != (sm : Int)) = true := by simp; omega
                  clear CS hxx
                  go_wp2_with fail
                  go_ret
                  exact ⟨ret_int (by rw [HEq.out]; simp [h7]), HL9.out⟩
        · have HE : Hid (y = 5) := Lib.hid (by rw [HY.out]; simp [h4])
          have m1 : ((ad : Int) % 4 != 0) = true := by simp; omega
          clear HY HX
          go_quiet (first | (go_at_call 46; exact quiet' (HT.out _)))
          have HL2 := Lib.hid (HL.out.drewN nq)
          clear a1 a2 a3 a4 a5 a6 m1
          go_wp2_with fail
          go_ret
          exact ⟨ret_int HE.out.symm, HL2.out⟩
end Go.Proofs.YtchhjfocanjniaaGreat
