/-
  The contract of the document's Get for layer 4. No conditions beyond those stated.
-/
import Derived.Test.YtchhjfocanjniaaGreatSfRefWrong
namespace Sf
theorem get_c1 {s : List UInt8} (h : 16777216 < s.length) : get s = (0, [], 7) := by unfold get; rw [if_pos h]
theorem get_c2 {s : List UInt8} (h1 : ¬ 16777216 < s.length) (h : s.length < 12) : get s = (0, [], 4) := by unfold get; rw [if_neg h1, if_pos h]
theorem get_c3 {s : List UInt8} (h1 : ¬ 16777216 < s.length) (h2 : ¬ s.length < 12) (h : isVer (num s 0 4) = false) : get s = (0, [], 5) := by unfold get; rw [if_neg h1, if_neg h2, if_pos h]
theorem get_c4 {s : List UInt8} (h1 : ¬ 16777216 < s.length) (h2 : ¬ s.length < 12) (h3 : isVer (num s 0 4) = true) (h : 64 < num s 4 2) : get s = (0, [], 7) := by unfold get; rw [if_neg h1, if_neg h2, if_neg (by rw [h3]; simp), if_pos h]
theorem get_c5 {s : List UInt8} (h1 : ¬ 16777216 < s.length) (h2 : ¬ s.length < 12) (h3 : isVer (num s 0 4) = true) (h4 : ¬ 64 < num s 4 2) (h : s.length < 12 + 16 * num s 4 2) : get s = (0, [], 4) := by unfold get; rw [if_neg h1, if_neg h2, if_neg (by rw [h3]; simp), if_neg h4, if_pos h]
theorem get_c6 {s : List UInt8} (h1 : ¬ 16777216 < s.length) (h2 : ¬ s.length < 12) (h3 : isVer (num s 0 4) = true) (h4 : ¬ 64 < num s 4 2) (h5 : ¬ s.length < 12 + 16 * num s 4 2) {j : Nat} (hj : j < num s 4 2) (h0 : ∀ i, i < j → wrong s (num s 4 2) i = 0) (h : wrong s (num s 4 2) j ≠ 0) : get s = (0, [], wrong s (num s 4 2) j) := by
  have e := scan_first (wrong s (num s 4 2)) (num s 4 2) 0 j (Nat.zero_le _) (by omega) (fun i _ hi => h0 i hi) h
  unfold get; rw [if_neg h1, if_neg h2, if_neg (by rw [h3]; simp), if_neg h4, if_neg h5, e, if_pos h]
theorem get_c7 {s : List UInt8} (h1 : ¬ 16777216 < s.length) (h2 : ¬ s.length < 12) (h3 : isVer (num s 0 4) = true) (h4 : ¬ 64 < num s 4 2) (h5 : ¬ s.length < 12 + 16 * num s 4 2) (h0 : ∀ i, i < num s 4 2 → wrong s (num s 4 2) i = 0) {i k : Nat} (hk : k < i) (hi : i < num s 4 2) (h : clash s i k = true) : get s = (0, [], 5) := by
  have e := scan_zero (wrong s (num s 4 2)) (num s 4 2) 0 (fun i _ hi => h0 i (by omega))
  have ha : anyClash s (num s 4 2) = true := by
    unfold anyClash
    rw [List.any_eq_true]
    exact ⟨i, List.mem_range.2 hi, by rw [List.any_eq_true]; exact ⟨k, List.mem_range.2 hk, h⟩⟩
  unfold get; rw [if_neg h1, if_neg h2, if_neg (by rw [h3]; simp), if_neg h4, if_neg h5, e, if_neg (by simp), if_pos ha]
theorem get_c8 {s : List UInt8} (h1 : ¬ 16777216 < s.length) (h2 : ¬ s.length < 12) (h3 : isVer (num s 0 4) = true) (h4 : ¬ 64 < num s 4 2) (h5 : ¬ s.length < 12 + 16 * num s 4 2) (h0 : ∀ i, i < num s 4 2 → wrong s (num s 4 2) i = 0) (h : ∀ i k, k < i → i < num s 4 2 → clash s i k = false) : get s = (((num s 0 4 : Nat) : Int), (List.range (num s 4 2)).map (tab s), 0) := by
  have e := scan_zero (wrong s (num s 4 2)) (num s 4 2) 0 (fun i _ hi => h0 i (by omega))
  unfold get; rw [if_neg h1, if_neg h2, if_neg (by rw [h3]; simp), if_neg h4, if_neg h5, e, if_neg (by simp), if_neg (by rw [anyClash_false h]; simp)]
end Sf
namespace Go.Proofs.YtchhjfocanjniaaGreat
open Go.RowKit
def tabs (s : List UInt8) (n : Nat) : List Sf.Tab := (List.range n).map (Sf.tab s)
theorem tabs_len (s : List UInt8) (n : Nat) : (tabs s n).length = n := by simp [tabs]
theorem tabs_snoc (s : List UInt8) (n : Nat) : tabs s (n + 1) = tabs s n ++ [Sf.tab s n] := by simp [tabs, List.range_succ]
theorem rnum0 (s : List UInt8) (W : World) (h : 12 ≤ s.length) (hl : s.length ≤ 16777216) : Calls Tryz.prog 19 #[.string ⟨s.toArray⟩, .int .i64 0, .int .i64 4] W fun e w' => e = .returned (.int .i64 (Sf.num s 0 4 : Nat)) ∧ W = w' := rnumber_any s 0 4 W (by omega) (by omega) hl
theorem rnum4 (s : List UInt8) (W : World) (h : 12 ≤ s.length) (hl : s.length ≤ 16777216) : Calls Tryz.prog 19 #[.string ⟨s.toArray⟩, .int .i64 4, .int .i64 2] W fun e w' => e = .returned (.int .i64 (Sf.num s 4 2 : Nat)) ∧ W = w' := rnumber_any s 4 2 W (by omega) (by omega) hl

set_option maxRecDepth 100000 in
set_option maxHeartbeats 1600000 in
theorem rget_long (s : List UInt8) (w : World) (h : 16777216 < s.length) : Calls Tryz.prog 6 #[.string ⟨s.toArray⟩] w fun e w' => GotTabs (0, [], 7) w e w' := by
  go_enter Tryz.func6, Tryz.ntmps6
  go_wp2_with fail
  refine bodyPost_ret (v := .tuple #[.int .i64 0, .slice none 0 0, .int .i64 7]) ?_ rfl (GotTabs.nil rfl (Lo.refl _))
  simp [results, Tryz.results6, go_sem]
set_option maxRecDepth 100000 in
set_option maxHeartbeats 1600000 in
theorem rget_short (s : List UInt8) (w : World) (h : s.length < 12) : Calls Tryz.prog 6 #[.string ⟨s.toArray⟩] w fun e w' => GotTabs (0, [], 4) w e w' := by
  go_enter Tryz.func6, Tryz.ntmps6
  go_wp2_with fail
  refine bodyPost_ret (v := .tuple #[.int .i64 0, .slice none 0 0, .int .i64 4]) ?_ rfl (GotTabs.nil rfl (Lo.refl _))
  simp [results, Tryz.results6, go_sem]
set_option maxRecDepth 100000 in
set_option maxHeartbeats 1600000 in
theorem rget_ver (s : List UInt8) (w : World) (h : 12 ≤ s.length) (hl : s.length ≤ 16777216) (hv : Sf.isVer (Sf.num s 0 4 : Nat) = false) : Calls Tryz.prog 6 #[.string ⟨s.toArray⟩] w fun e w' => GotTabs (0, [], 5) w e w' := by
  have C0 := Lib.hid (fun W => rnum0 s W h hl)
  have CV := Lib.hid (fun W => rversion_any (Sf.num s 0 4 : Nat) W)
  rw [hv] at CV
  generalize Sf.num s 0 4 = ver at *
  go_enter Tryz.func6, Tryz.ntmps6
  go_wp2_with fail
  refine (C0.out _).mono ?_
  rintro e w1 ⟨rfl, rfl⟩
  go_wp2_with fail
  refine (CV.out _).mono ?_
  rintro e w1 ⟨rfl, rfl⟩
  go_wp2_with fail
  refine bodyPost_ret (v := .tuple #[.int .i64 0, .slice none 0 0, .int .i64 5]) ?_ rfl (GotTabs.nil rfl (Lo.refl _))
  simp [results, Tryz.results6, go_sem]
set_option maxRecDepth 100000 in
set_option maxHeartbeats 1600000 in
theorem rget_many (s : List UInt8) (w : World) (h : 12 ≤ s.length) (hl : s.length ≤ 16777216) (hv : Sf.isVer (Sf.num s 0 4 : Nat) = true) (k : Int) (hk : 64 < Sf.num s 4 2 ∧ k = 7 ∨ Sf.num s 4 2 ≤ 64 ∧ s.length < 12 + 16 * Sf.num s 4 2 ∧ k = 4) : Calls Tryz.prog 6 #[.string ⟨s.toArray⟩] w fun e w' => GotTabs (0, [], k) w e w' := by
  have C0 := Lib.hid (fun W => rnum0 s W h hl)
  have C4 := Lib.hid (fun W => rnum4 s W h hl)
  have CV := Lib.hid (fun W => rversion_any (Sf.num s 0 4 : Nat) W)
  rw [hv] at CV
  generalize Sf.num s 0 4 = ver at *
  generalize Sf.num s 4 2 = n at *
  clear hv
  rcases hk with ⟨hn, rfl⟩ | ⟨hn, hs, rfl⟩
  · have m0 : (64 : Int) < (n : Int) := by omega
    go_enter Tryz.func6, Tryz.ntmps6
    go_wp2_with fail
    refine (C0.out _).mono ?_
    rintro e w1 ⟨rfl, rfl⟩
    go_wp2_with fail
    refine (CV.out _).mono ?_
    rintro e w1 ⟨rfl, rfl⟩
    go_wp2_with fail
    refine (C4.out _).mono ?_
    rintro e w1 ⟨rfl, rfl⟩
    go_wp2_with fail
    refine bodyPost_ret (v := .tuple #[.int .i64 0, .slice none 0 0, .int .i64 7]) ?_ rfl (GotTabs.nil rfl (Lo.refl _))
    simp [results, Tryz.results6, go_sem]
  · have m0 : (n : Int) ≤ 64 := by omega
    have m1 : (s.length : Int) < 12 + 16 * (n : Int) := by omega
    go_enter Tryz.func6, Tryz.ntmps6
    go_wp2_with fail
    refine (C0.out _).mono ?_
    rintro e w1 ⟨rfl, rfl⟩
    go_wp2_with fail
    refine (CV.out _).mono ?_
    rintro e w1 ⟨rfl, rfl⟩
    go_wp2_with fail
    refine (C4.out _).mono ?_
    rintro e w1 ⟨rfl, rfl⟩
    go_wp2_with fail
    refine bodyPost_ret (v := .tuple #[.int .i64 0, .slice none 0 0, .int .i64 4]) ?_ rfl (GotTabs.nil rfl (Lo.refl _))
    simp [results, Tryz.results6, go_sem]

/-- Three of a record's cells, somewhere. -/
abbrev RecIn (b o : Nat) (t : List UInt8) (ad mn : Nat) (w0 W : World) : Prop := W.cell? ⟨b, o, none⟩ = some (.string ⟨t.toArray⟩) ∧ W.cell? ⟨b, o + 2, none⟩ = some (.int .i64 ad) ∧ W.cell? ⟨b, o + 3, none⟩ = some (.int .i64 mn) ∧ Hid (b < W.heap.size) ∧ Hid (Lo w0 W)
theorem RecIn.lo {b o : Nat} {t : List UInt8} {ad mn : Nat} {w0 W W' : World} (h : RecIn b o t ad mn w0 W) (l : Lo W W') : RecIn b o t ad mn w0 W' :=
  ⟨(l.cell h.2.2.2.1.out).trans h.1, (l.cell h.2.2.2.1.out).trans h.2.1, (l.cell h.2.2.2.1.out).trans h.2.2.1, Lib.hid (Nat.lt_of_lt_of_le h.2.2.2.1.out l.size), Lib.hid (h.2.2.2.2.out.trans l)⟩
theorem RecIn.alloc {b o : Nat} {t : List UInt8} {ad mn : Nat} {w0 W : World} (h : RecIn b o t ad mn w0 W) (x : Obj) : RecIn b o t ad mn w0 (W.alloc x) := h.lo ((Lo.refl W).alloc x)

set_option maxRecDepth 100000 in
set_option maxHeartbeats 8000000 in
theorem rget_late (s : List UInt8) (n : Nat) (w : World) (h : 12 ≤ s.length) (hl : s.length ≤ 100000) (hv : Sf.isVer (Sf.num s 0 4 : Nat) = true) (hn : Sf.num s 4 2 = n) (hn64 : n ≤ 64) (hs : 12 + 16 * n ≤ s.length) : Calls Tryz.prog 6 #[.string ⟨s.toArray⟩] w fun e w' => GotTabs (Sf.get s) w e w' := by
  have C0 := Lib.hid (fun W => rnum0 s W h (by omega))
  have C4 := Lib.hid (fun W => rnum4 s W h (by omega))
  have CV := Lib.hid (fun W => rversion_any (Sf.num s 0 4 : Nat) W)
  have CR := Lib.hid (fun W => records_any s n W (Lib.hid hn) hn64 hs (by omega))
  have CW := Lib.hid (fun i v W (hr : QRow W v (rqs s n)) (hi : i < n) => rwrong_any s n i v W hr hi hn64 hl)
  have HBad : Hid (∀ j, j < n → (∀ i, i < j → Sf.wrong s n i = 0) → Sf.wrong s n j ≠ 0 → Sf.get s = (0, [], Sf.wrong s n j)) := Lib.hid (fun j hj h0 hw => by subst hn; exact Sf.get_c6 (by omega) (by omega) hv (by omega) (by omega) hj h0 hw)
  have HClash0 : Hid ((∀ i, i < n → Sf.wrong s n i = 0) → ∀ i k, k < i → i < n → Sf.clash s i k = true → Sf.get s = (0, [], 5)) := Lib.hid (fun h0 i k hk hi hc => by subst hn; exact Sf.get_c7 (by omega) (by omega) hv (by omega) (by omega) h0 hk hi hc)
  have HGood0 : Hid ((∀ i, i < n → Sf.wrong s n i = 0) → (∀ i k, k < i → i < n → Sf.clash s i k = false) → Sf.get s = (((Sf.num s 0 4 : Nat) : Int), tabs s n, 0)) := Lib.hid (fun h0 hc => by subst hn; exact Sf.get_c8 (by omega) (by omega) hv (by omega) (by omega) h0 hc)
  have HEnd : Hid (∀ i, Sf.wrong s n i = 0 → Sf.recAt s i + Sf.recLen s i ≤ s.length) := Lib.hid (fun i hw => (Sf.wrong_ok hw).2.1)
  rw [hv] at CV
  rw [hn] at C4
  have HLt : Hid (∀ i, Sf.recAt s i < 4294967296 ∧ Sf.recLen s i < 4294967296) := Lib.hid (fun i => ⟨Sf.num_lt s _, Sf.num_lt s _⟩)
  generalize Sf.num s 0 4 = ver at *
  clear hv hn
  have m0 : (n : Int) ≤ 64 := by omega
  have m1 : 12 + 16 * (n : Int) ≤ (s.length : Int) := by omega
  go_enter Tryz.func6, Tryz.ntmps6
  go_wp2_with fail
  refine (C0.out _).mono ?_
  rintro e w1 ⟨rfl, rfl⟩
  go_wp2_with fail
  refine (CV.out _).mono ?_
  rintro e w1 ⟨rfl, rfl⟩
  go_wp2_with fail
  refine (C4.out _).mono ?_
  rintro e w1 ⟨rfl, rfl⟩
  go_wp2_with fail
  refine (CR.out _).mono ?_
  rintro e w3 ⟨pr, cr, rfl, hrow, lo⟩
  have HRec := Lib.hid hrow
  have HLr := Lib.hid lo
  clear lo hrow CV C4 CR
  go_wp2_with fail
  go_loopw [7, 8] (fun i _ W => ∃ k : Nat, k ≤ n ∧ i = .int .i64 k ∧ Hid (∀ j, j < k → Sf.wrong s n j = 0) ∧ Hid (Lo w3 W)) (fun i _ _ => n - (intOf i).toNat)
  case atStart => exact ⟨0, Nat.zero_le _, rfl, Lib.hid (by omega), Lib.hid (Lo.refl _)⟩
  case round =>
    obtain ⟨k, hk, rfl, HI, HL⟩ := hrel
    by_cases hlt : k < n
    · have CWk := Lib.hid (fun W hr => CW.out k (.slice pr n cr) W hr hlt)
      have HBk := Lib.hid (fun hw => HBad.out k hlt HI.out hw)
      have HI2 : Hid (Sf.wrong s n k = 0 → ∀ j, j < k + 1 → Sf.wrong s n j = 0) := Lib.hid (by
        intro h j hj
        rcases Nat.lt_or_ge j k with h3 | h3
        · exact HI.out j h3
        · obtain rfl : j = k := by omega
          exact h)
      generalize Sf.wrong s n k = er at *
      by_cases h0 : er = 0
      · have HI3 := Lib.hid (HI2.out h0)
        subst h0
        go_wp2_with fail
        refine (CWk.out _ (RowK.lo HRec.out HL.out)).mono ?_
        rintro e w4 ⟨rfl, lo⟩
        have HL2 := Lib.hid (HL.out.trans lo)
        clear lo CWk HBk HI2
        go_wp2_with fail
        go_roundw
        case rel => exact ⟨k + 1, by omega, by go_num, HI3, HL2⟩
        case measure => simp [intOf]; omega
      · have HE := Lib.hid (HBk.out h0)
        have hb : (er != 0) = true := by simpa using h0
        clear h0
        go_wp2_with fail
        refine (CWk.out _ (RowK.lo HRec.out HL.out)).mono ?_
        rintro e w4 ⟨rfl, lo⟩
        have HL2 := Lib.hid (HL.out.trans lo)
        clear lo CWk HBk HI2
        go_wp2_with fail
        refine bodyPost_ret (v := .tuple #[.int .i64 0, .slice none 0 0, .int .i64 er]) ?_ rfl (by rw [HE.out]; exact GotTabs.nil rfl (HLr.out.trans HL2.out))
        simp [results, Tryz.results6, go_sem]
    · obtain rfl : n = k := by omega
      have HClash := Lib.hid (HClash0.out HI.out)
      have HGood := Lib.hid (HGood0.out HI.out)
      clear HClash0 HGood0 HBad CW hlt hk
      go_wp2_with fail
      go_loopw [9, 10, 11] (fun u i _ W => ∃ (I : Nat) (p : Option Addr) (c : Nat), I ≤ n ∧ i = .int .i64 I ∧ u = .slice p I c ∧ Hid (OwnK encT 33 2 W w3.heap.size (.slice p I c) (tabs s I)) ∧ Hid (∀ i' k', k' < i' → i' < I → Sf.clash s i' k' = false) ∧ Hid (Lo w3 W)) (fun _ i _ _ => n - (intOf i).toNat)
      case atStart => exact ⟨0, none, 0, Nat.zero_le _, rfl, rfl, Lib.hid (OwnK.none _ _ _ _ _), Lib.hid (by omega), HL⟩
      case round =>
        clear HL
        obtain ⟨I, p, c, hI, rfl, rfl, HO4, HC4, HL4⟩ := hrel
        by_cases hlt4 : I < n
        · rename World => W4
          go_wp2_with fail
          go_loopw [11] (fun j W => ∃ k : Nat, k ≤ I ∧ j = .int .i64 k ∧ Hid (∀ k', k' < k → Sf.clash s I k' = false) ∧ Hid (Lo W4 W)) (fun j _ => I - (intOf j).toNat)
          case atStart => exact ⟨0, Nat.zero_le _, rfl, Lib.hid (by omega), Lib.hid (Lo.refl _)⟩
          case round =>
            obtain ⟨k, hk5, rfl, HC5, HL50⟩ := hrel
            by_cases hlt5 : k < I
            · have HL5 := Lib.hid (HL4.out.trans HL50.out)
              obtain ⟨b, off, rfl, _, _, g1, g2⟩ := QRow.at4 (RowK.lo HRec.out HL5.out) (rqs_at s hlt4)
              obtain ⟨b', off', he, _, _, g3, g4⟩ := QRow.at4 (RowK.lo HRec.out HL5.out) (rqs_at s (n := n) (i := k) (by omega))
              simp only [Option.some.injEq, Addr.mk.injEq, and_true] at he
              obtain ⟨rfl, rfl⟩ := he
              unfold Sf.rq at g1 g2 g3 g4
              dsimp only at g1 g2 g3 g4
              have HCl : Hid (Sf.clash s I k = (decide (0 < Sf.recLen s I) && decide (0 < Sf.recLen s k) && decide (Sf.recAt s I < Sf.recAt s k + Sf.recLen s k) && decide (Sf.recAt s k < Sf.recAt s I + Sf.recLen s I))) := Lib.hid rfl
              obtain ⟨l1, l2⟩ := HLt.out I
              obtain ⟨l3, l4⟩ := HLt.out k
              generalize Sf.recLen s I = mi at *
              generalize Sf.recLen s k = mk at *
              generalize Sf.recAt s I = ai at *
              generalize Sf.recAt s k = ak at *
              have s1 : IntKind.i64.wrap ((ak : Int) + (mk : Int)) = (ak : Int) + (mk : Int) := IntWalk.i64_in _ (by omega)
              have s2 : IntKind.i64.wrap ((ai : Int) + (mi : Int)) = (ai : Int) + (mi : Int) := IntWalk.i64_in _ (by omega)
              have s3 : (0 : Int) ≤ (I : Int) := by omega
              have s4 : (I : Int) < (n : Int) := by omega
              have s5 : (0 : Int) ≤ (k : Int) := by omega
              have s6 : (k : Int) < (n : Int) := by omega
              by_cases p1 : 0 < mi
              · have q1 : decide ((0 : Int) < (mi : Int)) = true := by simp; omega
                have q1' : decide (0 < mi) = true := by simp; omega
                by_cases p2 : 0 < mk
                · have q2 : decide ((0 : Int) < (mk : Int)) = true := by simp; omega
                  have q2' : decide (0 < mk) = true := by simp; omega
                  by_cases p3 : ai < ak + mk
                  · have q3 : decide ((ai : Int) < (ak : Int) + (mk : Int)) = true := by simp; omega
                    by_cases p4 : ak < ai + mi
                    · have q4 : decide ((ak : Int) < (ai : Int) + (mi : Int)) = true := by simp; omega
                      have HE : Hid (Sf.get s = (0, [], 5)) := Lib.hid (HClash.out I k hlt5 hlt4 (by rw [HCl.out]; simp [p1, p2, p3, p4]))
                      go_wp2_with fail
                      go_quiet (fail)
                      have HL6 := Lib.hid (HL5.out.drewN nq)
                      clear g1 g2 g3 g4 q1 q1' q2 q2' q3 q4
                      go_wp2_with fail
                      refine bodyPost_ret (v := .tuple #[.int .i64 0, .slice none 0 0, .int .i64 5]) ?_ rfl (by rw [HE.out]; exact GotTabs.nil rfl (HLr.out.trans HL6.out))
                      simp [results, Tryz.results6, go_sem]
                    · have q4 : decide ((ak : Int) < (ai : Int) + (mi : Int)) = false := by simp; omega
                      go_wp2_with fail
                      go_quiet (fail)
                      have HL6 := Lib.hid (HL5.out.drewN nq)
                      clear g1 g2 g3 g4 q1 q1' q2 q2' q3 q4
                      go_wp2_with fail
                      go_roundw
                      case rel => exact ⟨k + 1, by omega, by go_num, Lib.hid (by
                        intro k' hk'
                        rcases Nat.lt_or_ge k' k with h | h
                        · exact HC5.out k' h
                        · obtain rfl : k' = k := by omega
                          rw [HCl.out]; simp [p1, p2, p3, p4]), Lib.hid (HL50.out.drewN nq)⟩
                      case measure => simp [intOf]; omega
                  · have q3 : decide ((ai : Int) < (ak : Int) + (mk : Int)) = false := by simp; omega
                    go_wp2_with fail
                    go_quiet (fail)
                    have HL6 := Lib.hid (HL5.out.drewN nq)
                    clear g1 g2 g3 g4 q1 q1' q2 q2' q3
                    go_wp2_with fail
                    go_roundw
                    case rel => exact ⟨k + 1, by omega, by go_num, Lib.hid (by
                      intro k' hk'
                      rcases Nat.lt_or_ge k' k with h | h
                      · exact HC5.out k' h
                      · obtain rfl : k' = k := by omega
                        rw [HCl.out]; simp [p1, p2, p3]), Lib.hid (HL50.out.drewN nq)⟩
                    case measure => simp [intOf]; omega
                · have q2 : decide ((0 : Int) < (mk : Int)) = false := by simp; omega
                  have q2' : decide (0 < mk) = false := by simp; omega
                  go_wp2_with fail
                  go_quiet (fail)
                  have HL6 := Lib.hid (HL5.out.drewN nq)
                  clear g1 g2 g3 g4 q1 q1' q2 q2'
                  go_wp2_with fail
                  go_roundw
                  case rel => exact ⟨k + 1, by omega, by go_num, Lib.hid (by
                    intro k' hk'
                    rcases Nat.lt_or_ge k' k with h | h
                    · exact HC5.out k' h
                    · obtain rfl : k' = k := by omega
                      rw [HCl.out]; simp [p1, p2]), Lib.hid (HL50.out.drewN nq)⟩
                  case measure => simp [intOf]; omega
              · have q1 : decide ((0 : Int) < (mi : Int)) = false := by simp; omega
                have q1' : decide (0 < mi) = false := by simp; omega
                go_wp2_with fail
                go_quiet (fail)
                have HL6 := Lib.hid (HL5.out.drewN nq)
                clear g1 g2 g3 g4 q1 q1'
                go_wp2_with fail
                go_roundw
                case rel => exact ⟨k + 1, by omega, by go_num, Lib.hid (by
                  intro k' hk'
                  rcases Nat.lt_or_ge k' k with h | h
                  · exact HC5.out k' h
                  · obtain rfl : k' = k := by omega
                    rw [HCl.out]; simp [p1]), Lib.hid (HL50.out.drewN nq)⟩
                case measure => simp [intOf]; omega
            · obtain rfl : I = k := by omega
              have HL5 := Lib.hid (HL4.out.trans HL50.out)
              have HO5 := Lib.hid (OwnK.lo HO4.out HL50.out)
              obtain ⟨b, off, rfl, _⟩ := QRow.at4 HRec.out (rqs_at s hlt4)
              have HSx : Hid (∀ W, Lo w3 W → RecIn b (off + I * 4) (Sf.recTag s I) (Sf.recAt s I) (Sf.recLen s I) w3 W) := Lib.hid (fun W lo => by
                obtain ⟨b', off', he, g0, _, g1, g2⟩ := QRow.at4 (RowK.lo HRec.out lo) (rqs_at s hlt4)
                simp only [Option.some.injEq, Addr.mk.injEq, and_true] at he
                obtain ⟨rfl, rfl⟩ := he
                exact ⟨g0, g1, g2, Lib.hid (World.block_lt_of_cell? W _ g0), Lib.hid lo⟩)
              have HTb : Hid (Sf.tab s I = (Sf.recTag s I, (s.drop (Sf.recAt s I)).take (Sf.recLen s I))) := Lib.hid rfl
              have hen := HEnd.out I (HI.out I hlt4)
              have hex : (⟨s.toArray⟩ : ByteArray).extract (Sf.recAt s I) (Sf.recAt s I + Sf.recLen s I) = ⟨((s.drop (Sf.recAt s I)).take (Sf.recLen s I)).toArray⟩ := by rw [Gk.extract_list, Nat.add_sub_cancel_left]
              have HSn := Lib.hid (tabs_snoc s I)
              rw [HTb.out] at HSn
              have HTL := Lib.hid (tabs_len s I)
              clear HTb
              generalize (s.drop (Sf.recAt s I)).take (Sf.recLen s I) = body at *
              generalize Sf.recTag s I = t at *
              generalize Sf.recAt s I = ai at *
              generalize Sf.recLen s I = mi at *
              have HC6 : Hid (∀ i' k', k' < i' → i' < I + 1 → Sf.clash s i' k' = false) := Lib.hid (by
                intro i' k' h1 h2
                rcases Nat.lt_or_ge i' I with h3 | h3
                · exact HC4.out i' k' h1 h3
                · obtain rfl : i' = I := by omega
                  exact HC5.out k' h1)
              have s2 : IntKind.i64.wrap ((ai : Int) + (mi : Int)) = (ai : Int) + (mi : Int) := IntWalk.i64_in _ (by omega)
              have s3 : (0 : Int) ≤ (I : Int) := by omega
              have s4 : (I : Int) < (n : Int) := by omega
              have s5 : (0 : Int) ≤ (ai : Int) := by omega
              have s6 : (ai : Int) ≤ (ai : Int) + (mi : Int) := by omega
              have s7 : (0 : Int) ≤ (ai : Int) + (mi : Int) := by omega
              have s8 : (ai : Int) + (mi : Int) ≤ (s.length : Int) := by omega
              have s9 : ((ai : Int) + (mi : Int)).toNat = ai + mi := by omega
              go_wp2_with fail
              go_region_held3 (fun W => RecIn b (off + I * 4) t ai mi w3 W) (first | assumption | exact HSx.out _ HL5.out.drew | exact RecIn.alloc (by assumption) _ | exact HSx.out _ (Hid.out (by assumption)))
                (first
                  | (refine step_appK (enc := encT) rfl (.tmp 108) (.tmp 133) 22 rfl 33 2 32 (.agg #[.string ⟨#[]⟩, .string ⟨#[]⟩]) (by kernel_rfl) (by kernel_rfl) rfl (by omega) (by omega) encT_len encT_one w3.heap.size (.slice p I c) _ rfl (OwnK.lo HO5.out (((Lo.refl _).drew).alloc _)) _ (t, body) rfl (fun j u hj => block_cell (new_block _ _) (by simpa [encT] using hj)) (by rw [HTL.out]; omega) (by have := HL5.out.size; simp; omega) ?_; intro q1 c1 w7 hown hlo; have HO7 := Lib.hid hown; have HL7 := Lib.hid (hlo w3 (((HL5.out).drew).alloc _) (Nat.le_refl _)); clear hown hlo; rw [HTL.out] at HO7; rw [HTL.out]))
              all_goals
                clear s2 s9 hex
                go_wp2_with fail
                go_roundw
                case rel => exact ⟨I + 1, q1, c1, by omega, by go_num, rfl, Lib.hid (by rw [HSn.out]; exact HO7.out), HC6, HL7⟩
                case measure => simp [intOf]; omega
        · obtain rfl : I = n := by omega
          have HE := Lib.hid (HGood.out HC4.out)
          have HTL := Lib.hid (tabs_len s I)
          go_wp2_with fail
          refine (C0.out _).mono ?_
          rintro e w8 ⟨rfl, rfl⟩
          go_wp2_with fail
          refine bodyPost_ret (v := .tuple #[.int .i64 ver, .slice p I c, .int .i64 0]) ?_ rfl ?_
          · simp [results, Tryz.results6, go_sem]
          · rw [HE.out]
            refine ⟨p, c, ?_, ?_, HLr.out.trans HL4.out⟩
            · dsimp only; rw [HTL.out]
            · dsimp only; rw [HTL.out]; exact OwnK.row encT_len HO4.out

/-- The document's Get. -/
theorem rsget_any (s : List UInt8) (w : World) (hl : s.length ≤ 100000 ∨ 16777216 < s.length) : Calls Tryz.prog 6 #[.string ⟨s.toArray⟩] w fun e w' => GotTabs (Sf.get s) w e w' := by
  by_cases h1 : 16777216 < s.length
  · rw [Sf.get_c1 h1]; exact rget_long s w h1
  · have hl1 : s.length ≤ 100000 := by omega
    by_cases h2 : s.length < 12
    · rw [Sf.get_c2 h1 h2]; exact rget_short s w h2
    · cases hv : Sf.isVer (Sf.num s 0 4 : Nat) with
      | false => rw [Sf.get_c3 h1 h2 hv]; exact rget_ver s w (by omega) (by omega) hv
      | true =>
        by_cases h4 : 64 < Sf.num s 4 2
        · rw [Sf.get_c4 h1 h2 hv h4]; exact rget_many s w (by omega) (by omega) hv 7 (.inl ⟨h4, rfl⟩)
        · by_cases h5 : s.length < 12 + 16 * Sf.num s 4 2
          · rw [Sf.get_c5 h1 h2 hv h4 h5]; exact rget_many s w (by omega) (by omega) hv 4 (.inr ⟨by omega, h5, rfl⟩)
          · exact rget_late s _ w (by omega) hl1 hv rfl (by omega) (by omega)
end Go.Proofs.YtchhjfocanjniaaGreat
