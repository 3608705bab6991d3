/-
  The contract of sfnt.Get: it answers what the plain function on bytes says. No conditions beyond those stated.
-/
import Derived.Test.YtchhjfocanjniaaGreatSfOverlap
namespace Sf
theorem get_front {s : List UInt8} (h : front s ≠ 0) : get s = (0, [], front s) := by
  unfold front at *
  unfold get
  by_cases h1 : 16777216 < s.length
  · simp only [if_pos h1]
  · simp only [if_neg h1] at *
    by_cases h2 : s.length < 12
    · simp only [if_pos h2]
    · simp only [if_neg h2] at *
      by_cases h3 : isVer (num s 0 4 : Nat) = false
      · simp only [if_pos h3]
      · simp only [if_neg h3] at *
        by_cases h4 : 64 < num s 4 2
        · simp only [if_pos h4]
        · simp only [if_neg h4] at *
          by_cases h5 : s.length < 12 + 16 * num s 4 2
          · simp only [if_pos h5]
          · simp only [if_neg h5] at h; exact absurd rfl h
theorem front_ok {s : List UInt8} (h : front s = 0) : s.length ≤ 16777216 ∧ num s 4 2 ≤ 64 ∧ 12 + 16 * num s 4 2 ≤ s.length ∧
    get s = if scan (wrong s (num s 4 2)) 0 (num s 4 2) ≠ 0 then (0, [], scan (wrong s (num s 4 2)) 0 (num s 4 2)) else if anyClash s (num s 4 2) = true then (0, [], 5) else (((num s 0 4 : Nat) : Int), (List.range (num s 4 2)).map (tab s), 0) := by
  unfold front at h
  unfold get
  by_cases h1 : 16777216 < s.length
  · rw [if_pos h1] at h; cases h
  · rw [if_neg h1] at *
    by_cases h2 : s.length < 12
    · rw [if_pos h2] at h; cases h
    · rw [if_neg h2] at *
      by_cases h3 : isVer (num s 0 4 : Nat) = false
      · rw [if_pos h3] at h; cases h
      · rw [if_neg h3] at *
        by_cases h4 : 64 < num s 4 2
        · rw [if_pos h4] at h; cases h
        · rw [if_neg h4] at *
          by_cases h5 : s.length < 12 + 16 * num s 4 2
          · rw [if_pos h5] at h; cases h
          · rw [if_neg h5]
            exact ⟨by omega, by omega, by omega, rfl⟩
def recsTo (s : List UInt8) (k : Nat) : List (Tab × Nat) := (List.range k).map fun i => (tab s i, recAt s i)
def tabsTo (s : List UInt8) (k : Nat) : List Tab := (List.range k).map (tab s)
theorem recsTo_succ (s : List UInt8) (k : Nat) : recsTo s (k + 1) = recsTo s k ++ [(tab s k, recAt s k)] := by unfold recsTo; rw [List.range_succ, List.map_append]; rfl
theorem tabsTo_succ (s : List UInt8) (k : Nat) : tabsTo s (k + 1) = tabsTo s k ++ [tab s k] := by unfold tabsTo; rw [List.range_succ, List.map_append]; rfl
theorem recsTo_len (s : List UInt8) (k : Nat) : (recsTo s k).length = k := by simp [recsTo]
theorem tabsTo_len (s : List UInt8) (k : Nat) : (tabsTo s k).length = k := by simp [tabsTo]
theorem bef_succ (s : List UInt8) (k : Nat) : bef s (k + 1) = (tab s k).1 := by unfold bef; rw [if_neg (by omega)]; rfl
theorem recsTo_small {s : List UInt8} (h : s.length ≤ 16777216) (k : Nat) : ∀ r ∈ recsTo s k, r.1.2.length ≤ 16777216 ∧ r.2 ≤ 4294967296 := by
  intro r hr
  obtain ⟨i, _, rfl⟩ := List.mem_map.1 hr
  refine ⟨(dir_le h).2, ?_⟩
  have : recAt s i < 4294967296 := num_lt4 s _
  simp only; omega
end Sf
namespace Go.Proofs.YtchhjfocanjniaaGreat
open Go.RowKit

theorem block_lt {T : Nat} {o : Obj} {w : World} (hT : w.heap[T]? = some o) : T < w.heap.size := by
  rcases Nat.lt_or_ge T w.heap.size with hlt | hge
  · exact hlt
  · rw [Array.getElem?_eq_none hge] at hT; cases hT
/-- A version, tables and an error, as they are told. -/
def GotTabs (a : Int × List Sf.Tab × Int) (w : World) (e : Ending) (w' : World) : Prop :=
  ∃ p c, e = .returned (.tuple #[.int .i64 a.1, .slice p a.2.1.length c, .int .i64 a.2.2]) ∧ TRow w' (.slice p a.2.1.length c) a.2.1 ∧ Lo w w'
theorem GotTabs.nil {w w' : World} {v k : Int} {e : Ending} (he : e = .returned (.tuple #[.int .i64 v, .slice none 0 0, .int .i64 k])) (h : Lo w w') : GotTabs (v, [], k) w e w' :=
  ⟨none, 0, he, RowK.nil _ _ _, h⟩
theorem encT_one (x : Sf.Tab) : ∀ u ∈ encT x, u.oneCell' = true := by
  intro u hu; simp [encT] at hu; rcases hu with rfl | rfl <;> rfl
theorem tab1 (w : World) (B : Nat) (hB : B = w.heap.size) (x : Sf.Tab) : TRow (w.alloc (.cells #[.string ⟨x.1.toArray⟩, .string ⟨x.2.toArray⟩] 33)) (.slice (some ⟨B, 0, none⟩) 1 1) [x] :=
  hB ▸ .inr ⟨w.heap.size, 0, 1, rfl, by simp, by simp, by simp, fun i y hx j hj => by
    have hi : i < 1 := (List.getElem?_eq_some_iff.1 hx).1
    obtain rfl : i = 0 := by omega
    simp at hx
    subst hx
    obtain rfl | rfl : j = 0 ∨ j = 1 := by omega
    all_goals simp [go_sem, encT]⟩

set_option maxRecDepth 100000 in
set_option maxHeartbeats 2000000 in
theorem sget_front (s : List UInt8) (w : World) (hl : s.length ≤ 9223372036854775807) (h : Sf.front s ≠ 0) :
    Calls Tryz.prog 5 #[.string ⟨s.toArray⟩] w fun e w' => GotTabs (0, [], Sf.front s) w e w' := by
  have HO := Lib.hid (fun W => open_any s W hl)
  simp only [if_pos h] at HO
  generalize Sf.front s = y at *
  unfold noDir at HO
  have hb : (y == 0) = false := by simpa using h
  clear h
  go_enter Tryz.func5, Tryz.ntmps5
  go_wp2_with fail
  refine (HO.out _).mono ?_
  rintro e w1 ⟨rfl, lo⟩
  have HL := Lib.hid lo
  clear lo HO
  go_wp2_with fail
  refine bodyPost_ret (v := .tuple #[.int .i64 0, .slice none 0 0, .int .i64 y]) ?_ rfl (GotTabs.nil rfl (HL.out.alloc _))
  simp [results, Tryz.results5, go_sem]

set_option maxRecDepth 100000 in
set_option maxHeartbeats 8000000 in
theorem sget_ok (s : List UInt8) (w : World) (h : Sf.front s = 0) :
    Calls Tryz.prog 5 #[.string ⟨s.toArray⟩] w fun e w' => GotTabs (Sf.get s) w e w' := by
  obtain ⟨h0, h64, hl, hget⟩ := Sf.front_ok h
  have HO := Lib.hid (fun W => open_any s W (by omega))
  simp only [if_neg (show ¬ Sf.front s ≠ 0 by omega)] at HO
  have HRd := Lib.hid (fun (i : Nat) (bf : List UInt8) (W : World) (hi : i < Sf.num s 4 2) (hb : bf = Sf.bef s i) => read_any s i bf W h0 hi hl hb)
  have HOv := Lib.hid (fun (v : Value) (W : World) (hr : RowK encR 3 W v (Sf.recsTo s (Sf.num s 4 2))) => overlap_any _ v W hr (by rw [Sf.recsTo_len]; omega) (Sf.recsTo_small h0 _))
  have HG := Lib.hid hget
  have HCl := Lib.hid (fun h => @Sf.laps_clash s (Sf.num s 4 2) h)
  have HWr := Lib.hid (fun i => @Sf.wrong_ok s (Sf.num s 4 2) i)
  have hv4 := Sf.num_lt4 s 0
  unfold aDir at HO HRd
  generalize Sf.num s 0 4 = vr at *
  generalize Sf.num s 4 2 = n at *
  rw [show ((12 + 16 * n : Nat) : Int) = 12 + 16 * (n : Int) by omega] at HO HRd
  clear h hget
  go_enter Tryz.func5, Tryz.ntmps5
  go_wp2_with fail
  refine (HO.out _).mono ?_
  rintro e w1 ⟨rfl, lo⟩
  have HL1 := Lib.hid lo
  clear lo HO
  have HD0 := Lib.hid (new_block w1 (.cells #[.int .i64 (12 + 16 * (n : Int)), .string ⟨s.toArray⟩, .int .i64 vr, .int .i64 n] 40))
  have HLD := Lib.hid (HL1.out.alloc (.cells #[.int .i64 (12 + 16 * (n : Int)), .string ⟨s.toArray⟩, .int .i64 vr, .int .i64 n] 40))
  have HwD : Hid (w.heap.size ≤ w1.heap.size) := Lib.hid HL1.out.size
  clear HL1
  go_wp2_with (first
    | (at_make; refine wpList_mkK (enc := encR) _ rfl _ _ 43 rfl 45 3 40 (.agg #[.string ⟨#[]⟩, .string ⟨#[]⟩, .int .i64 0]) (by kernel_rfl) (by kernel_rfl) (by omega) w1.heap.size _ n rfl rfl (by simp) (by omega) (by simp) ?_; intro p1 c1 w2 hown hlo; have HL2 := Lib.hid (HLD.out.trans hlo); have HO2 := Lib.hid hown; have HD2 := Lib.hid (lo_block hlo HD0.out); have HS2 : Hid (w1.heap.size ≤ w2.heap.size) := Lib.hid (by have := hlo.size; simp at this; omega); clear hown hlo HLD HD0; have ⟨⟨d0, d1, d2, d3⟩, _⟩ := four_at HD2.out)
    | (at_make; refine wpList_mkK (enc := encT) _ rfl _ _ 22 rfl 33 2 32 (.agg #[.string ⟨#[]⟩, .string ⟨#[]⟩]) (by kernel_rfl) (by kernel_rfl) (by omega) w1.heap.size _ n rfl rfl (by simp) (by omega) HS2.out ?_; intro p2 c2 w3 hown hlo; have HL3 := Lib.hid (HL2.out.trans hlo); have HT3 := Lib.hid hown; have HO3 := Lib.hid (HO2.out.lo hlo); have HD3 := Lib.hid (lo_block hlo HD2.out); have HS3 : Hid (w1.heap.size ≤ w3.heap.size) := Lib.hid (Nat.le_trans HS2.out hlo.size); clear hown hlo HL2 HO2 HD2 HS2 d0 d1 d2 d3; have ⟨⟨d0, d1, d2, d3⟩, _⟩ := four_at HD3.out))
  generalize w1.heap.size = D at *
  clear d0 d1 d2 d3
  go_loopw [7, 8, 9, 29] (fun r tt bf i W => ∃ (k c1 c2 : Nat) (p1 p2 : Option Addr) (b : List UInt8), k ≤ n ∧ i = .int .i64 k ∧ r = .slice p1 k c1 ∧ tt = .slice p2 k c2 ∧ bf = .string ⟨b.toArray⟩ ∧ Hid (b = Sf.bef s k) ∧ Hid (OwnK encR 45 3 W D (.slice p1 k c1) (Sf.recsTo s k)) ∧ Hid (OwnK encT 33 2 W D (.slice p2 k c2) (Sf.tabsTo s k)) ∧ Hid (∀ j, j < k → Sf.wrong s n j = 0) ∧ Hid (W.heap[D]? = some (.cells #[.int .i64 (12 + 16 * (n : Int)), .string ⟨s.toArray⟩, .int .i64 vr, .int .i64 n] 40 (0, 0))) ∧ Hid (Lo w W) ∧ Hid (D ≤ W.heap.size)) (fun _ _ _ i _ => n - (intOf i).toNat)
  case atStart => exact ⟨0, c1, c2, p1, p2, [], Nat.zero_le _, rfl, rfl, rfl, rfl, Lib.hid rfl, HO3, HT3, Lib.hid (by omega), HD3, HL3, HS3⟩
  case round =>
    clear HO3 HT3 HD3 HL3 HS3
    obtain ⟨k, c1, c2, p1, p2, bf, hk, rfl, rfl, rfl, rfl, HBf, HO, HT, HW0, HD, HL, HS⟩ := hrel
    obtain ⟨⟨d0, d1, d2, d3⟩, _⟩ := four_at HD.out
    by_cases hlt : k < n
    · have HR1 := Lib.hid (fun W => HRd.out k bf W hlt HBf.out)
      by_cases hw : Sf.wrong s n k = 0
      · rw [hw] at HR1
        have HW1 : Hid (∀ j, j < k + 1 → Sf.wrong s n j = 0) := Lib.hid (by
          intro j hj
          rcases Nat.lt_or_ge j k with h | h
          · exact HW0.out j h
          · obtain rfl : j = k := by omega
            exact hw)
        rw [show recEnd 0 (Sf.tab s k, Sf.recAt s k) = .returned (.tuple #[.agg #[.string ⟨(Sf.tab s k).1.toArray⟩, .string ⟨(Sf.tab s k).2.toArray⟩, .int .i64 (Sf.recAt s k : Nat)], .int .i64 0]) from rfl] at HR1
        have HRs := Lib.hid (Sf.recsTo_succ s k)
        have HTs := Lib.hid (Sf.tabsTo_succ s k)
        have HBs := Lib.hid (Sf.bef_succ s k)
        have HRl := Lib.hid (Sf.recsTo_len s k)
        have HTl := Lib.hid (Sf.tabsTo_len s k)
        generalize Sf.tab s k = tb at *
        generalize Sf.recAt s k = ra at *
        obtain ⟨tg, dt⟩ := tb
        simp only at HR1 HBs
        clear hw HW0
        go_wp2_with fail
        refine (HR1.out _).mono ?_
        rintro e w4 ⟨rfl, lo⟩
        have HO4 := Lib.hid (HO.out.lo lo)
        have HT4 := Lib.hid (HT.out.lo lo)
        have HD4 := Lib.hid (lo_block lo HD.out)
        have HL4 := Lib.hid (HL.out.trans lo)
        have HS4 := Lib.hid (Nat.le_trans HS.out lo.size)
        clear lo HO HT HD HL HS HR1 d0 d1 d2 d3
        obtain ⟨⟨d0, d1, d2, d3⟩, _⟩ := four_at HD4.out
        have HR4 := Lib.hid (new_block w4 (.cells #[.string ⟨tg.toArray⟩, .string ⟨dt.toArray⟩, .int .i64 ra] 45))
        generalize hR : w4.heap.size = R at HR4
        have HNe : Hid ((Value.slice p1 k c1).ownBlock ≠ some R) := Lib.hid (own_fresh HO4.out (by omega))
        go_wp2_with (first
          | (at_builtin; refine wpList_appK2 (enc := encR) _ rfl (.tmp 42) (.tmp 44) 43 rfl 45 3 40 (.agg #[.string ⟨#[]⟩, .string ⟨#[]⟩, .int .i64 0]) (by kernel_rfl) (by kernel_rfl) rfl (by omega) (by omega) encR_len encR_one D (.slice p1 k c1) _ rfl (HO4.out.lo (((Lo.refl _).alloc _).alloc _)) _ [((tg, dt), ra)] rfl (rec1 _ _ (by simp [hR]) ((tg, dt), ra)) (by rw [HRl.out]; simp; omega) (by have := HS4.out; simp; omega) ?_; intro q1 e1 w5 hown hlo hkp; rw [HRl.out, List.length_singleton] at hown; rw [HRl.out, List.length_singleton]; have HO5 := Lib.hid hown; have HL5 := Lib.hid (hlo w ((HL4.out.alloc _).alloc _) HwD.out); have HD5 := Lib.hid (hkp D _ (lo_block (((Lo.refl _).alloc _).alloc _) HD4.out) (own_ne HO4.out HD4.out (by decide))); have HT5 := Lib.hid (own_other (HO4.out.lo (((Lo.refl _).alloc _).alloc _)) (HT4.out.lo (((Lo.refl _).alloc _).alloc _)) (by decide) hkp); have HR5 := Lib.hid (hkp R _ (lo_block ((Lo.refl _).alloc _) HR4.out) HNe.out); have HS5 : Hid (D ≤ w5.heap.size) := Lib.hid (Nat.le_of_lt (block_lt HD5.out)); clear hown hlo hkp; have ⟨⟨r0, r1, r2⟩, _⟩ := three_at HR5.out)
          | (at_builtin; refine wpList_appK2 (enc := encT) _ rfl (.tmp 46) (.tmp 49) 22 rfl 33 2 32 (.agg #[.string ⟨#[]⟩, .string ⟨#[]⟩]) (by kernel_rfl) (by kernel_rfl) rfl (by omega) (by omega) encT_len encT_one D (.slice p2 k c2) _ rfl (HT5.out.lo ((Lo.refl _).alloc _)) _ [(tg, dt)] rfl (tab1 _ _ (by simp) (tg, dt)) (by rw [HTl.out]; simp; omega) (by have := HS5.out; simp; omega) ?_; intro q2 e2 w6 hown hlo hkp; rw [HTl.out, List.length_singleton] at hown; rw [HTl.out, List.length_singleton]; have HT6 := Lib.hid hown; have HL6 := Lib.hid (hlo w (HL5.out.alloc _) HwD.out); have HD6 := Lib.hid (hkp D _ (lo_block ((Lo.refl _).alloc _) HD5.out) (own_ne HT5.out HD5.out (by decide))); have HO6 := Lib.hid (own_other (HT5.out.lo ((Lo.refl _).alloc _)) (HO5.out.lo ((Lo.refl _).alloc _)) (by decide) hkp); have HR6 := Lib.hid (hkp R _ (lo_block ((Lo.refl _).alloc _) HR5.out) (own_ne HT5.out HR5.out (by decide))); have HS6 : Hid (D ≤ w6.heap.size) := Lib.hid (Nat.le_of_lt (block_lt HD6.out)); clear hown hlo hkp r0 r1 r2; have ⟨⟨r0, r1, r2⟩, _⟩ := three_at HR6.out))
        go_roundw
        case rel => exact ⟨k + 1, e1, e2, q1, q2, tg, by omega, by go_num, rfl, rfl, rfl, Lib.hid HBs.out.symm, Lib.hid (by rw [HRs.out]; exact HO6.out), Lib.hid (by rw [HTs.out]; exact HT6.out), HW1, HD6, HL6, HS6⟩
        case measure => simp [intOf]; omega
      · have HSc : Hid (Sf.get s = (0, [], Sf.wrong s n k)) := Lib.hid (by
          have e := Sf.scan_first (Sf.wrong s n) n 0 k (Nat.zero_le _) (by omega) (fun i _ hi => HW0.out i hi) hw
          rw [HG.out, e, if_pos hw])
        rw [show recEnd (Sf.wrong s n k) (Sf.tab s k, Sf.recAt s k) = .returned (.tuple #[.agg #[.string ⟨#[]⟩, .string ⟨#[]⟩, .int .i64 0], .int .i64 (Sf.wrong s n k)]) by unfold recEnd; rw [if_pos hw]; rfl] at HR1
        generalize Sf.wrong s n k = er at *
        have hb : (er == 0) = false := by simpa using hw
        clear hw HW0
        go_wp2_with fail
        refine (HR1.out _).mono ?_
        rintro e w4 ⟨rfl, lo⟩
        have HL4 := Lib.hid (HL.out.trans lo)
        clear lo HR1 d0 d1 d2 d3
        go_wp2_with fail
        refine bodyPost_ret (v := .tuple #[.int .i64 0, .slice none 0 0, .int .i64 er]) ?_ rfl (by rw [HSc.out]; exact GotTabs.nil rfl (HL4.out.alloc _))
        simp [results, Tryz.results5, go_sem]
    · obtain rfl : k = n := by omega
      have HSz : Hid (Sf.scan (Sf.wrong s k) 0 k = 0) := Lib.hid (Sf.scan_zero _ _ _ fun j _ hj => HW0.out j (by omega))
      have HC2 := Lib.hid (HCl.out fun i hi => (HWr.out i (HW0.out i hi)).2.1)
      have HOv2 := Lib.hid (HOv.out _ _ (OwnK.row encR_len HO.out))
      rw [show Sf.recsTo s k = (List.range k).map fun i => (Sf.tab s i, Sf.recAt s i) from rfl, HC2.out] at HOv2
      cases hc : Sf.anyClash s k with
      | true =>
        have HSc : Hid (Sf.get s = (0, [], 5)) := Lib.hid (by rw [HG.out, if_neg (by rw [HSz.out]; simp), if_pos hc])
        rw [hc] at HOv2
        clear hc
        go_wp2_with fail
        refine HOv2.out.mono ?_
        rintro e w4 ⟨rfl, lo⟩
        have HL4 := Lib.hid (HL.out.trans lo)
        clear lo HOv2 d0 d1 d2 d3
        go_wp2_with fail
        refine bodyPost_ret (v := .tuple #[.int .i64 0, .slice none 0 0, .int .i64 5]) ?_ rfl (by rw [HSc.out]; exact GotTabs.nil rfl HL4.out)
        simp [results, Tryz.results5, go_sem]
      | false =>
        have HSc : Hid (Sf.get s = ((vr : Int), Sf.tabsTo s k, 0)) := Lib.hid (by rw [HG.out, if_neg (by rw [HSz.out]; simp), if_neg (by rw [hc]; simp)]; rfl)
        rw [hc] at HOv2
        have HTr := Lib.hid (OwnK.row encT_len HT.out)
        clear hc
        go_wp2_with fail
        refine HOv2.out.mono ?_
        rintro e w4 ⟨rfl, lo⟩
        have HL4 := Lib.hid (HL.out.trans lo)
        have HT4 := Lib.hid (HTr.out.lo lo)
        have HD4 := Lib.hid (lo_block lo HD.out)
        clear lo HOv2 d0 d1 d2 d3
        obtain ⟨⟨d0, d1, d2, d3⟩, _⟩ := four_at HD4.out
        go_wp2_with fail
        refine bodyPost_ret (v := .tuple #[.int .i64 vr, .slice p2 k c2, .int .i64 0]) ?_ rfl (by rw [HSc.out]; exact ⟨p2, c2, by rw [Sf.tabsTo_len], by rw [Sf.tabsTo_len]; exact HT4.out, HL4.out⟩)
        simp [results, Tryz.results5, go_sem]

/-- sfnt.Get. -/
theorem sget_any (s : List UInt8) (w : World) (hl : s.length ≤ 9223372036854775807) : Calls Tryz.prog 5 #[.string ⟨s.toArray⟩] w fun e w' => GotTabs (Sf.get s) w e w' := by
  by_cases h : Sf.front s = 0
  · exact sget_ok s w h
  · rw [Sf.get_front h]; exact sget_front s w hl h
end Go.Proofs.YtchhjfocanjniaaGreat
