/-
  The contract of sfnt.overlap: whether two of a row of records have a byte in common. No conditions beyond those stated.
-/
import Derived.Test.YtchhjfocanjniaaGreatSfSort
import Derived.Test.YtchhjfocanjniaaGreatSfLap
import Derived.Test.YtchhjfocanjniaaGreatGkCells2
namespace Go.Proofs.YtchhjfocanjniaaGreat
open Go.RowKit

theorem rec1 (w : World) (B : Nat) (hB : B = w.heap.size) (r : Rec) : RowK encR 3 (w.alloc (.cells #[.string ⟨r.1.1.toArray⟩, .string ⟨r.1.2.toArray⟩, .int .i64 r.2] 45)) (.slice (some ⟨B, 0, none⟩) 1 1) [r] :=
  hB ▸ .inr ⟨w.heap.size, 0, 1, rfl, by simp, by simp, by simp, fun i x hx j hj => by
    have hi : i < 1 := (List.getElem?_eq_some_iff.1 hx).1
    obtain rfl : i = 0 := by omega
    simp at hx
    subst hx
    obtain rfl | rfl | rfl : j = 0 ∨ j = 1 ∨ j = 2 := by omega
    all_goals simp [go_sem, encR]⟩
theorem RowK.at3 {w : World} {p : Option Addr} {n c : Nat} {l : List Rec} (h : RowK encR 3 w (.slice p n c) l) {i : Nat} {x : Rec} (hx : l[i]? = some x) :
    ∃ b off, p = some ⟨b, off, .none⟩ ∧ w.cell? ⟨b, off + i * 3, .none⟩ = some (.string ⟨x.1.1.toArray⟩) ∧ w.cell? ⟨b, off + i * 3 + 1, .none⟩ = some (.string ⟨x.1.2.toArray⟩) ∧ w.cell? ⟨b, off + i * 3 + 2, .none⟩ = some (.int .i64 x.2) := by
  obtain ⟨b, off, h1, h2⟩ := RowK.at_ h hx
  exact ⟨b, off, h1, h2 0 (by omega), h2 1 (by omega), h2 2 (by omega)⟩

/-- What the second loop reads, in a world that is further. -/
abbrev LapAt (F b off j m cu : Nat) (xt xd : List UInt8) (xo yo : Nat) (w5 W : World) : Prop :=
  W.cell? ⟨F, 0, none⟩ = some (.slice (some ⟨b, off, none⟩) m cu) ∧ W.cell? ⟨b, off + (j + 1) * 3 + 2, none⟩ = some (.int .i64 yo) ∧ W.cell? ⟨b, off + j * 3, none⟩ = some (.string ⟨xt.toArray⟩) ∧ W.cell? ⟨b, off + j * 3 + 1, none⟩ = some (.string ⟨xd.toArray⟩) ∧ W.cell? ⟨b, off + j * 3 + 2, none⟩ = some (.int .i64 xo) ∧ Hid (Lo w5 W)

set_option maxRecDepth 100000 in
set_option maxHeartbeats 4000000 in
theorem overlap_any (l : List Rec) (v : Value) (w : World) (h : RowK encR 3 w v l) (hs : l.length ≤ 64) (hb : ∀ r ∈ l, r.1.2.length ≤ 16777216 ∧ r.2 ≤ 4294967296) :
    Calls Tryz.prog 17 #[v] w fun e w' => e = .returned (.bool (Sf.laps l)) ∧ Lo w w' := by
  obtain ⟨p, c, rfl, hlen⟩ := h.form
  have HR := Lib.hid h
  have HB := Lib.hid hb
  generalize hy : Sf.laps l = y
  have HY := Lib.hid hy
  generalize hn : l.length = n at *
  have HN := Lib.hid hn
  clear h hb hy hn hlen
  go_enter Tryz.func17, Tryz.ntmps17
  go_wp2_with (at_make; refine wpList_mkK (enc := encR) _ rfl _ _ _ rfl 45 3 40 (.agg #[.string ⟨#[]⟩, .string ⟨#[]⟩, .int .i64 0]) (by kernel_rfl) (by kernel_rfl) (by omega) w.heap.size _ n rfl rfl (by simp) (by omega) (Nat.le_refl _) ?_; intro pv cv w1 hown hlo; have HL := Lib.hid hlo; have HO := Lib.hid hown; clear hown hlo)
  have HF0 := Lib.hid (new_block w1 (.cells #[.slice pv 0 cv] 43))
  have HO0 := Lib.hid (HO.out.lo ((Lo.refl w1).alloc (.cells #[.slice pv 0 cv] 43)))
  have HL0 := Lib.hid (HL.out.alloc (.cells #[.slice pv 0 cv] 43))
  have HwF : Hid (w.heap.size ≤ w1.heap.size) := Lib.hid HL.out.size
  generalize w1.heap.size = F at *
  clear HL HO
  go_loopw [5, 12] (fun _ i W => ∃ (k m cu : Nat) (pu : Option Addr), k ≤ n ∧ i = .int .i64 k ∧ Hid (W.heap[F]? = some (.cells #[.slice pu m cu] 43 (0, 0))) ∧ Hid (OwnK encR 45 3 W w.heap.size (.slice pu m cu) ((l.take k).filter Sf.full)) ∧ Hid (Lo w W)) (fun _ i _ => n - (intOf i).toNat)
  case atStart => exact ⟨0, 0, cv, pv, Nat.zero_le _, rfl, HF0, HO0, HL0⟩
  case round =>
    clear HF0 HO0 HL0
    obtain ⟨k, m, cu, pu, hk, rfl, HF1, HO1, HL1⟩ := hrel
    have HM : Hid (m = ((l.take k).filter Sf.full).length) := Lib.hid (by obtain ⟨_, _, h1⟩ := HO1.out.form; injection h1 with _ h1 _)
    have hm : m ≤ 64 := by rw [HM.out]; have := List.length_filter_le Sf.full (l.take k); have := List.length_take_le k l; omega
    by_cases hlt : k < n
    · obtain ⟨⟨⟨tg, dt⟩, of⟩, hx⟩ := Sf.some_at (l := l) (k := k) (by rw [HN.out]; exact hlt)
      obtain ⟨b, off, rfl, hc1, hc2, hc3⟩ := RowK.at3 (HR.out.lo HL1.out) hx
      have HX := Lib.hid hx
      clear hx
      have hf0 := block_cell (i := 0) HF1.out rfl
      have hf1 := block_frozen (i := 0) HF1.out
      have hFlt : F < wr.heap.size := by
        rcases Nat.lt_or_ge F wr.heap.size with hlt | hge
        · exact hlt
        · have := HF1.out; rw [Array.getElem?_eq_none hge] at this; cases this
      simp only at hc1 hc2 hc3
      cases dt with
      | nil =>
        have HE : Hid ((l.take (k + 1)).filter Sf.full = (l.take k).filter Sf.full) := Lib.hid (by rw [Sf.take_snocT HX.out, List.filter_append]; simp [Sf.full])
        go_wp2_with fail
        go_roundw
        case rel => exact ⟨k + 1, m, cu, pu, by omega, by go_num, Lib.hid (lo_block ((Lo.refl _).alloc _) HF1.out), Lib.hid (by rw [HE.out]; exact HO1.out.lo ((Lo.refl _).alloc _)), Lib.hid (HL1.out.alloc _)⟩
        case measure => simp [intOf]; omega
      | cons a r =>
        have HE : Hid ((l.take (k + 1)).filter Sf.full = (l.take k).filter Sf.full ++ [((tg, a :: r), of)]) := Lib.hid (by rw [Sf.take_snocT HX.out, List.filter_append]; simp [Sf.full])
        have hne : ((a :: r) == ([] : List UInt8)) = false := rfl
        generalize hd : a :: r = dt at *
        clear hd
        go_wp2_with (at_builtin; refine wpList_appK2 (enc := encR) _ rfl (.tmp 20) (.tmp 22) _ rfl 45 3 40 (.agg #[.string ⟨#[]⟩, .string ⟨#[]⟩, .int .i64 0]) (by kernel_rfl) (by kernel_rfl) rfl (by omega) (by omega) encR_len encR_one w.heap.size (.slice pu m cu) _ rfl (HO1.out.lo (((Lo.refl _).alloc _).alloc _)) _ [((tg, dt), of)] rfl (rec1 _ _ (by simp) ((tg, dt), of)) (by rw [← HM.out]; simp; omega) (by have := HL1.out.size; simp; omega) ?_; intro q1 c1 w3 hown hlo hkp; rw [← HM.out, List.length_singleton] at hown; rw [← HM.out, List.length_singleton]; have HO3 := Lib.hid hown; have HL3 := Lib.hid (hlo w ((HL1.out.alloc _).alloc _) (Nat.le_refl _)); have HF3 := Lib.hid (hkp F _ (lo_block (((Lo.refl _).alloc _).alloc _) HF1.out) (own_ne HO1.out HF1.out (by decide))); clear hown hlo hkp; have hg0 := block_cell (i := 0) HF3.out rfl; have hg1 := block_frozen (i := 0) HF3.out)
        go_roundw
        case rel => exact ⟨k + 1, m + 1, c1, q1, by omega, by go_num, Lib.hid (set_block HF3.out), Lib.hid (by rw [HE.out]; exact own_set HO3.out HF3.out (by decide) 0 _), Lib.hid (HL3.out.set HwF.out _)⟩
        case measure => simp [intOf]; omega
    · have HO2 : Hid (OwnK encR 45 3 wr w.heap.size (.slice pu m cu) (l.filter Sf.full)) := Lib.hid (by have := HO1.out; rwa [List.take_of_length_le (by rw [HN.out]; omega)] at this)
      have HM2 : Hid ((l.filter Sf.full).length = m) := Lib.hid (by rw [HM.out, List.take_of_length_le (by rw [HN.out]; omega)])
      have hf0 := block_cell (i := 0) HF1.out rfl
      have hmf : ∀ (fn : Fn) (first cap : Array Value) (w : World), (Instr.makeFunc fn first cap).run Tryz.prog w = .ok (.func fn first cap) w := fun _ _ _ _ => rfl
      have HSort := Lib.hid (sort_any F w.heap.size wr pu m cu (l.filter Sf.full) HF1.out HO2.out (by rw [HM2.out]; omega) HL1.out.size)
      clear HO1 HM HO2
      go_wp2_with fail
      refine HSort.out.mono ?_
      rintro e w5 ⟨rfl, l', hperm, hasc, hrow, hcF, hbel⟩
      have HL5 : Hid (Lo w w5) := Lib.hid (Below.trans HL1.out hbel)
      have HP := Lib.hid hperm
      have HA := Lib.hid hasc
      have HR5 := Lib.hid hrow
      have HcF := Lib.hid hcF
      have HM5 : Hid (l'.length = m) := Lib.hid (by rw [hperm.length_eq, HM2.out])
      clear hperm hasc hrow hbel HSort hf0
      go_wp2_with fail
      clear hcF
      go_loopw [6, 31] (fun _ i W => ∃ k : Nat, k ≤ m ∧ i = .int .i64 k ∧ Hid (∀ j, j + 1 < k → ¬ Sf.Near l' j) ∧ Hid (Lo w5 W) ∧ Hid (W.cell? ⟨F, 0, none⟩ = some (.slice pu m cu))) (fun _ i _ => m - (intOf i).toNat)
      case atStart => exact ⟨0, Nat.zero_le _, rfl, Lib.hid (by omega), Lib.hid (Lo.refl _), HcF⟩
      case round =>
        obtain ⟨k2, hk2, rfl, HI, HL6, HcF6⟩ := hrel
        have hcF6 := HcF6.out
        by_cases hlt2 : k2 < m
        · by_cases h0 : k2 = 0
          · subst h0
            go_wp2_with fail
            go_quiet (fail)
            have HL7 := Lib.hid (HL6.out.drewN nq)
            have HcF7 : Hid ((wr.drewN nq).cell? ⟨F, 0, none⟩ = some (.slice pu m cu)) := HcF6
            go_wp2_with fail
            go_roundw
            case rel => exact ⟨0 + 1, by omega, by go_num, Lib.hid (by omega), HL7, HcF7⟩
            case measure => simp [intOf]; omega
          · obtain ⟨j, rfl⟩ : ∃ j, k2 = j + 1 := ⟨k2 - 1, by omega⟩
            obtain ⟨x, hx⟩ := Sf.some_at (l := l') (k := j) (by rw [HM5.out]; omega)
            obtain ⟨y2, hy2⟩ := Sf.some_at (l := l') (k := j + 1) (by rw [HM5.out]; omega)
            obtain ⟨b, off, rfl, c1, c2, c3⟩ := RowK.at3 HR5.out hx
            obtain ⟨b', off', he, _, _, c4⟩ := RowK.at3 HR5.out hy2
            simp only [Option.some.injEq, Addr.mk.injEq, and_true] at he
            obtain ⟨rfl, rfl⟩ := he
            have hbx := HB.out x (List.mem_filter.1 (HP.out.mem_iff.1 (List.mem_of_getElem? hx))).1
            have hby := HB.out y2 (List.mem_filter.1 (HP.out.mem_iff.1 (List.mem_of_getElem? hy2))).1
            have HNr : Hid (Sf.Near l' j ↔ y2.2 < x.2 + x.1.2.length) := Lib.hid ⟨fun ⟨a, d, ha, hd, hlt⟩ => by rw [hx] at ha; rw [hy2] at hd; cases ha; cases hd; exact hlt, fun h => ⟨x, y2, hx, hy2, h⟩⟩
            have hblt : b < w5.heap.size := by
              rcases Nat.lt_or_ge b w5.heap.size with hlt | hge
              · exact hlt
              · simp [World.cell?, Array.getElem?_eq_none hge] at c1
            have hFlt : F < w5.heap.size := by
              rcases Nat.lt_or_ge F w5.heap.size with hlt | hge
              · exact hlt
              · have := HcF.out; simp [World.cell?, Array.getElem?_eq_none hge] at this
            obtain ⟨⟨xt, xd⟩, xo⟩ := x
            obtain ⟨⟨yt, yd⟩, yo⟩ := y2
            simp only at hbx hby HNr c1 c2 c3 c4
            have HSt : Hid (∀ W, Lo w5 W → LapAt F b off j m cu xt xd xo yo w5 W) :=
              Lib.hid (fun W hlo => ⟨by rw [hlo.cell hFlt]; exact HcF.out, by rw [hlo.cell hblt]; exact c4, by rw [hlo.cell hblt]; exact c1, by rw [hlo.cell hblt]; exact c2, by rw [hlo.cell hblt]; exact c3, Lib.hid hlo⟩)
            clear c1 c2 c3 c4 hx hy2 hblt hFlt hcF6
            have HEnd : Hid (∀ W, LapAt F b off j m cu xt xd xo yo w5 W → Calls Tryz.prog 44 #[.agg #[.string ⟨xt.toArray⟩, .string ⟨xd.toArray⟩, .int .i64 xo]] W fun e w' => e = .returned (.int .i64 ((xo + xd.length : Nat) : Int)) ∧ LapAt F b off j m cu xt xd xo yo w5 w') :=
              Lib.hid (fun W hW => (end_any ((xt, xd), xo) W (by simp only; omega) (by simp only; omega)).mono fun e w' h => ⟨h.1, HSt.out w' (hW.2.2.2.2.2.out.trans h.2)⟩)
            have hw1 : IntKind.i64.wrap ((j : Int) + 1 - 1) = (j : Int) := by rw [Int.add_sub_cancel]; exact IntWalk.i64_in _ (by omega)
            have hw2 : IntKind.i64.wrap (j : Int) = (j : Int) := IntWalk.i64_in _ (by omega)
            have hw3 : ((j : Int) + 1).toNat = j + 1 := by omega
            have hw4 : (j : Int).toNat = j := by omega
            have hw5 : (0 : Int) ≤ (j : Int) + 1 := by omega
            have hjm : j < m := by omega
            by_cases hnr : yo < xo + xd.length
            · go_wp2_with fail
              go_region_held3 (fun W => LapAt F b off j m cu xt xd xo yo w5 W) (first | assumption | exact HSt.out _ HL6.out.drew)
                (first | (go_at_call 44; refine (HEnd.out _ (by assumption)).mono ?_; rintro e wE ⟨rfl, hSE⟩))
              all_goals
                have HE : Hid (y = true) := Lib.hid (by rw [← HY.out]; exact Sf.laps_near HP.out HA.out (HNr.out.2 hnr))
                have HL8 := Lib.hid (HL5.out.trans hSE.2.2.2.2.2.out)
                clear hw1 hw2 hw3 hw4 hw5
                go_wp2_with fail
                go_ret
                exact ⟨ret_bool HE.out.symm, HL8.out⟩
            · go_wp2_with fail
              go_region_held3 (fun W => LapAt F b off j m cu xt xd xo yo w5 W) (first | assumption | exact HSt.out _ HL6.out.drew)
                (first | (go_at_call 44; refine (HEnd.out _ (by assumption)).mono ?_; rintro e wE ⟨rfl, hSE⟩))
              all_goals
                have HI2 : Hid (∀ i, i + 1 < j + 1 + 1 → ¬ Sf.Near l' i) := Lib.hid (by
                  intro i hi
                  rcases Nat.lt_or_ge (i + 1) (j + 1) with h | h
                  · exact HI.out i h
                  · obtain rfl : i = j := by omega
                    rw [HNr.out]; exact Nat.not_lt.2 (by omega))
                have HL8 := hSE.2.2.2.2.2
                have HcF8 := Lib.hid hSE.1
                clear hw1 hw2 hw3 hw4 hw5
                go_wp2_with fail
                go_roundw
                case rel => exact ⟨j + 1 + 1, by omega, by go_num, HI2, HL8, HcF8⟩
                case measure => simp [intOf]; omega
        · have HE : Hid (y = false) := Lib.hid (by
            rw [← HY.out]
            refine Sf.laps_apart HP.out HA.out fun i hi => ?_
            obtain ⟨x, y2, hx, hy2, _⟩ := id hi
            have := (List.getElem?_eq_some_iff.1 hy2).1
            exact HI.out i (by rw [HM5.out] at this; omega) hi)
          go_wp2_with fail
          go_ret
          exact ⟨ret_bool HE.out.symm, HL5.out.trans HL6.out⟩
end Go.Proofs.YtchhjfocanjniaaGreat
