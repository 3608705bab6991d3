/-
  The walk of the law DimenShort where the text has two digits or more behind the point. No conditions but that the package variable of powers of ten reads as it is laid.
-/
import Derived.Test.YtlfhnldeidgkjaaDoorDmLawShort
import Derived.Laws.IdiomStrings
namespace Go.Proofs.YtlfhnldeidgkjaaDoor
open Go.RowKit

theorem conv_bytes_own (l : List UInt8) (w : World) : ∃ C W1, (convert 9 37 (.string ⟨l.toArray⟩)).run Tryd.prog w = .ok (.slice (some ⟨w.heap.size, 0, none⟩) l.length C) W1 ∧ Lo w W1 ∧ w.heap.size < W1.heap.size ∧
    (∀ j, j < l.length → W1.cell? ⟨w.heap.size, j, none⟩ = some (.int .u8 (l.getD j 0).toNat)) ∧ ∀ j, j < l.length → W1.frozen? ⟨w.heap.size, j, none⟩ = false := by
  refine ⟨_, _, Lib.run_convert_string_bytes w 9 37 5 ⟨l.toArray⟩ Tryd.underlying9 Tryd.underlying37 Tryd.underlying5, ?_, by rw [Lib.bytesWorld_size]; omega, fun j hj => Lib.bytesWorld_cell w 5 ⟨l.toArray⟩ j hj, fun j hj => ?_⟩
  · exact ⟨rfl, rfl, rfl, by rw [Lib.bytesWorld_size]; omega, fun k hk => Lib.bytesWorld_at_old w _ _ k hk⟩
  · have hs : l.length ≤ (Lib.bytesCells w 5 ⟨l.toArray⟩).size := by simp [Lib.bytesCells]
    simp only [World.frozen?, Lib.bytesWorld_at_new]
    simp
    omega

set_option maxHeartbeats 1600000 in
theorem dimenShort_nine (a b : Int) (l S : List UInt8) (n : Nat) (w : World) (ht : Tab w) (h : Fx.len a = true) (hl : Dm.text a = l) (hlen : n + 5 ≤ l.length) (hlm : l.length ≤ 100) (hn : n ≤ 50) (hd : l.getD n 0 = 46) (hb : ∀ j, j < n → l.getD j 0 ≠ 46)
    (hS : l.take (l.length - 3) = S) (hSl : S.length = l.length - 3) (hp : Dm.parse (S ++ [112, 116]) = (b, 0)) (hba : (b != a) = true) (h9 : 57 ≤ (S.getD (S.length - 1) 0).toNat) :
    Calls Tryd.prog 5 #[.int .i64 a] w fun e w' => e = .returned (.bool true) ∧ Lo w w' := by
  have HT := Lib.hid ht
  have HX := Lib.hid (fun W hW => text_yes a W h hW)
  rw [hl] at HX
  have HB := Lib.hid hb
  have HD := Lib.hid hd
  have HP := Lib.hid (fun W => parse_any (S ++ [112, 116]) W (by simp; omega))
  rw [hp] at HP
  have HE : Hid ((ByteArray.mk l.toArray).extract 0 (l.length - 3) = ByteArray.mk S.toArray) := Lib.hid (by rw [Dm.extract_list]; simp [hS])
  have H9 := Lib.hid h9
  have HSl := Lib.hid hSl
  clear ht h hb hd hl hp hS h9 hSl
  go_enter Tryd.func5, Tryd.ntmps5
  go_wp2_with fail
  refine (HX.out _ HT.out).mono ?_
  rintro e w1 ⟨rfl, L1⟩
  go_wp2_with fail
  go_loop [5] (fun i => ∃ k : Nat, k ≤ n ∧ i = .int .i64 k) (fun i => n - (intOf i).toNat)
  case atStart => exact ⟨0, Nat.zero_le _, rfl⟩
  case round =>
    obtain ⟨k, hk, rfl⟩ := hrel
    have hlt : k < l.length := by omega
    by_cases hkn : k < n
    · have hne := ne46 l k hlt (HB.out k hkn)
      go_wp2_with fail
      go_round
      case rel => exact ⟨k + 1, by omega, by go_num⟩
      case measure => simp [intOf]; omega
    · obtain rfl : k = n := by omega
      have heq := eq46 l k hlt HD.out
      have hc1 : decide ((l.length : Int) < k + 4) = false := by simp; omega
      have hc2 : ((l.length : Int) == k + 4) = false := by rw [beq_eq_false_iff_ne]; omega
      have hc3 : ((l.length : Int) - 3).toNat = l.length - 3 := by omega
      go_wp2_with fail
      rw [HE.out, show (ByteArray.mk S.toArray) ++ (ByteArray.mk #[112, 116]) = ByteArray.mk (S ++ [112, 116]).toArray from Dm.cat_list S [112, 116]]
      refine (HP.out _).mono ?_
      rintro e w2 ⟨rfl, L2⟩
      have M2 := L1.trans L2
      clear L1 L2
      obtain ⟨C, W1, hconv, l3, hsz, hcells, hfro⟩ := conv_bytes_own S w2
      have M3 := M2.trans l3
      have hsl := HSl.out
      have hc := hcells (S.length - 1) (by omega)
      have h9 := H9.out
      have hsl1 : 1 ≤ S.length := by omega
      have hsl2 : S.length ≤ 100 := by omega
      have e1 : ((S.length : Int) - 1).toNat = S.length - 1 := by omega
      clear hcells hfro hsl l3
      generalize S.getD (S.length - 1) 0 = last at *
      go_wp2_with fail
      refine (told_any _ (HT.out.lo M3)).mono ?_
      rintro e w3 ⟨rfl, L3⟩
      go_wp2_with fail
      go_ret
      exact ⟨rfl, M3.trans L3⟩
set_option maxHeartbeats 1600000 in
theorem dimenShort_next (a b c g : Int) (l S S' : List UInt8) (n : Nat) (w : World) (ht : Tab w) (h : Fx.len a = true) (hl : Dm.text a = l) (hlen : n + 5 ≤ l.length) (hlm : l.length ≤ 100) (hn : n ≤ 50) (hd : l.getD n 0 = 46) (hb : ∀ j, j < n → l.getD j 0 ≠ 46)
    (hS : l.take (l.length - 3) = S) (hSl : S.length = l.length - 3) (hp : Dm.parse (S ++ [112, 116]) = (b, 0)) (hba : (b != a) = true) (h9 : (S.getD (S.length - 1) 0).toNat < 57) (hS' : S'.length = S.length) (hS'j : ∀ j, j < S.length → (S'.getD j 0).toNat = if j = S.length - 1 then (S.getD (S.length - 1) 0).toNat + 1 else (S.getD j 0).toNat)
    (hp2 : Dm.parse (S' ++ [112, 116]) = (c, g)) (hca : (g != 0) = true ∨ (g != 0) = false ∧ (c != a) = true) :
    Calls Tryd.prog 5 #[.int .i64 a] w fun e w' => e = .returned (.bool true) ∧ Lo w w' := by
  have HT := Lib.hid ht
  have HX := Lib.hid (fun W hW => text_yes a W h hW)
  rw [hl] at HX
  have HB := Lib.hid hb
  have HD := Lib.hid hd
  have HP := Lib.hid (fun W => parse_any (S ++ [112, 116]) W (by simp; omega))
  rw [hp] at HP
  have HP2 := Lib.hid (fun W => parse_any (S' ++ [112, 116]) W (by simp; omega))
  rw [hp2] at HP2
  have HS := Lib.hid hS'
  have HSj := Lib.hid hS'j
  have HE : Hid ((ByteArray.mk l.toArray).extract 0 (l.length - 3) = ByteArray.mk S.toArray) := Lib.hid (by rw [Dm.extract_list]; simp [hS])
  have H9 := Lib.hid h9
  have HSl := Lib.hid hSl
  clear ht h hb hd hl hp hS h9 hSl hp2 hS' hS'j
  go_enter Tryd.func5, Tryd.ntmps5
  go_wp2_with fail
  refine (HX.out _ HT.out).mono ?_
  rintro e w1 ⟨rfl, L1⟩
  go_wp2_with fail
  go_loop [5] (fun i => ∃ k : Nat, k ≤ n ∧ i = .int .i64 k) (fun i => n - (intOf i).toNat)
  case atStart => exact ⟨0, Nat.zero_le _, rfl⟩
  case round =>
    obtain ⟨k, hk, rfl⟩ := hrel
    have hlt : k < l.length := by omega
    by_cases hkn : k < n
    · have hne := ne46 l k hlt (HB.out k hkn)
      go_wp2_with fail
      go_round
      case rel => exact ⟨k + 1, by omega, by go_num⟩
      case measure => simp [intOf]; omega
    · obtain rfl : k = n := by omega
      have heq := eq46 l k hlt HD.out
      have hc1 : decide ((l.length : Int) < k + 4) = false := by simp; omega
      have hc2 : ((l.length : Int) == k + 4) = false := by rw [beq_eq_false_iff_ne]; omega
      have hc3 : ((l.length : Int) - 3).toNat = l.length - 3 := by omega
      go_wp2_with fail
      rw [HE.out, show (ByteArray.mk S.toArray) ++ (ByteArray.mk #[112, 116]) = ByteArray.mk (S ++ [112, 116]).toArray from Dm.cat_list S [112, 116]]
      refine (HP.out _).mono ?_
      rintro e w2 ⟨rfl, L2⟩
      have M2 := L1.trans L2
      clear L1 L2
      obtain ⟨C, W1, hconv, l3, hsz, hcells, hfro⟩ := conv_bytes_own S w2
      have M3 := M2.trans l3
      have hsl := HSl.out
      have hc := hcells (S.length - 1) (by omega)
      have h9 := H9.out
      have hsl1 : 1 ≤ S.length := by omega
      have hsl2 : S.length ≤ 100 := by omega
      have e1 : ((S.length : Int) - 1).toNat = S.length - 1 := by omega
      have hf := hfro (S.length - 1) (by omega)
      clear hfro hsl l3
      have HC := Lib.hid hcells
      clear hcells
      generalize hlast : S.getD (S.length - 1) 0 = last at *
      have HLast := Lib.hid hlast
      clear hlast
      have hcv2 : (convert 37 9 (.slice (some ⟨w2.heap.size, 0, none⟩) S.length C)).run Tryd.prog (W1.setCell ⟨w2.heap.size, S.length - 1, none⟩ (.int .u8 (last.toNat + 1))) =
          .ok (.string ⟨S'.toArray⟩) (W1.setCell ⟨w2.heap.size, S.length - 1, none⟩ (.int .u8 (last.toNat + 1))) := by
        rw [← HS.out]
        refine run_convert_bytes_back _ 37 9 5 ⟨w2.heap.size, 0, none⟩ C S' Tryd.underlying37 Tryd.underlying5 Tryd.underlying9 fun j hj => ?_
        have hj' : j < S.length := by rw [← HS.out]; exact hj
        have e2 := HSj.out j hj'
        have e3 : S'.getD j 0 = S'[j] := by simp [List.getD, List.getElem?_eq_getElem hj]
        rw [e3] at e2
        have ha : (⟨w2.heap.size, 0, none⟩ : Addr).add j = ⟨w2.heap.size, j, none⟩ := by rw [Addr.add_lit, Nat.zero_add]
        rw [ha, HS.out]
        by_cases hjl : j = S.length - 1
        · rw [if_pos hjl] at e2
          have e4 : some (Value.int .u8 (S'[j].toNat : Int)) = some (Value.int .u8 ((last.toNat : Int) + 1)) := by rw [e2]; simp
          rw [e4, hjl, World.cell?_setCell_same _ _ _ hc]
        · rw [if_neg hjl] at e2
          rw [World.cell?_setCell_other _ _ _ _ (by intro hh; injection hh with _ h2 _; exact hjl h2.symm), HC.out j hj', e2]
      have HM := Lib.hid (M3.set (p := ⟨w2.heap.size, S.length - 1, none⟩) M2.size (.int .u8 (last.toNat + 1)))
      have hsl3 : S'.length ≤ 100 := by have := HS.out; omega
      clear M3 M2
      go_wp2_with fail
      rw [show (ByteArray.mk S'.toArray) ++ (ByteArray.mk #[112, 116]) = ByteArray.mk (S' ++ [112, 116]).toArray from Dm.cat_list S' [112, 116]]
      refine (HP2.out _).mono ?_
      rintro e w4 ⟨rfl, L4⟩
      have M4 := HM.out.trans L4
      clear HM L4
      go_wp2_with fail
      refine (told_any _ (HT.out.lo M4)).mono ?_
      rintro e w5 ⟨rfl, L5⟩
      rcases hca with hg | ⟨hg, hca⟩
      all_goals
        go_wp2_with fail
        go_ret
        exact ⟨rfl, M4.trans L5⟩
end Go.Proofs.YtlfhnldeidgkjaaDoor
namespace Dm
open Go
theorem sign_app (m : Bool) (a b : List UInt8) : sign m (a ++ b) = sign m a ++ b := by cases m <;> rfl
theorem sign_len (m : Bool) (a : List UInt8) : (sign m a).length ≤ a.length + 1 := by cases m <;> simp [sign]
theorem sign_no46 (m : Bool) (W : List UInt8) (h : W.all isDig = true) (j : Nat) (hj : j < (sign m W).length) : (sign m W).getD j 0 ≠ 46 := by
  have hmem : (sign m W).getD j 0 ∈ sign m W := getD_mem _ _ hj
  generalize (sign m W).getD j 0 = c at *
  have hW : c ∈ W → c ≠ 46 := fun hc => (dig_ne (List.all_eq_true.1 h c hc)).1
  cases m
  · exact hW hmem
  · rcases List.mem_cons.1 hmem with rfl | hc
    · decide
    · exact hW hc
theorem getD_left (a b : List UInt8) (j : Nat) (h : j < a.length) : (a ++ b).getD j 0 = a.getD j 0 := by
  simp [List.getD, List.getElem?_append_left h]
theorem getD_mid (a b : List UInt8) (c : UInt8) : (a ++ c :: b).getD a.length 0 = c := by
  simp [List.getD]
theorem getD_last (a : List UInt8) (c : UInt8) : (a ++ [c]).getD ((a ++ [c]).length - 1) 0 = c := by
  simp [List.getD]

theorem within_or (n a : Int) (h : (n != a) = true) : ((within n).2 != 0) = true ∨ ((within n).2 != 0) = false ∧ ((within n).1 != a) = true := by
  unfold within
  by_cases hb : -1073741823 ≤ n ∧ n ≤ 1073741823
  · rw [if_pos hb]; exact .inr ⟨rfl, h⟩
  · rw [if_neg hb]; exact .inl rfl

/-- What a text with one digit less tells. -/
theorem parse_form (m : Bool) (q k d : Nat) (hq : q ≤ 16383) (h1 : 1 ≤ k) (hk : k ≤ 10) (hd : d < 10 ^ k) :
    parse (sign m (Lib.decDigits q) ++ 46 :: pad k d ++ [112, 116]) = within (if m then -((q * 65536 + scaled d k : Nat) : Int) else ((q * 65536 + scaled d k : Nat) : Int)) := by
  obtain ⟨d1, d2⟩ := dec_facts q
  have dl := whole_len q hq
  have dn := decDigits_ne q
  have e : sign m (Lib.decDigits q) ++ 46 :: pad k d ++ [112, 116] = sign m (Lib.decDigits q ++ 46 :: pad k d ++ [112, 116]) := by
    rw [sign_app, sign_app]
  rw [e, parse_both _ _ _ d1 (by intro h0; rw [h0] at dn; simp at dn), parts_both _ _ _ (good_mk dn dl d1) (good_mk (by rw [pad_len]; omega) (by rw [pad_len]; omega) (pad_all _ _)), d2, numv_pad _ _ hd, pad_len]
end Dm
namespace Go.Proofs.YtlfhnldeidgkjaaDoor
open Go.RowKit

theorem dimenShort_walk (a : Int) (_w0 : (Lit.int .i64 a).wf = true) (w : World) (ht : Tab w) :
    Calls Tryd.prog 5 #[.int .i64 a] w fun e w' => e = .returned (.bool true) ∧ Below w.heap.size w w' := by
  by_cases h : Fx.len a = true
  · obtain ⟨b1, b2⟩ := (Fx.len_iff a).1 h
    have hn : a.natAbs ≤ 1073741823 := by omega
    have hr : a.natAbs % 65536 < 65536 := Nat.mod_lt _ (by omega)
    have hq : a.natAbs / 65536 ≤ 16383 := by omega
    have hsum : a.natAbs / 65536 * 65536 + a.natAbs % 65536 = a.natAbs := by omega
    have hx : Dm.text a = Dm.sign (decide (a < 0)) (Lib.decDigits (a.natAbs / 65536)) ++ 46 :: Dm.pad (Dm.count (a.natAbs % 65536)) (Dm.fraction (a.natAbs % 65536) (Dm.count (a.natAbs % 65536))) ++ [112, 116] := by
      rw [Dm.text_eq, Dm.sign_app, Dm.sign_app]
    have hfl := Dm.fraction_lt (a.natAbs % 65536) hr
    obtain ⟨c1, c2⟩ := Dm.count_bd (a.natAbs % 65536)
    have hsne := Dm.short_ne (a.natAbs % 65536)
    have hsle := Dm.short_le (a.natAbs % 65536)
    have hwl := Dm.whole_len (a.natAbs / 65536) hq
    have hdig := (Dm.dec_facts (a.natAbs / 65536)).1
    have hform := fun k d => Dm.parse_form (decide (a < 0)) (a.natAbs / 65536) k d hq
    have hsl := Dm.sign_len (decide (a < 0)) (Lib.decDigits (a.natAbs / 65536))
    have hno := Dm.sign_no46 (decide (a < 0)) (Lib.decDigits (a.natAbs / 65536)) hdig
    generalize hPd : Dm.sign (decide (a < 0)) (Lib.decDigits (a.natAbs / 65536)) = P at *
    generalize Dm.fraction (a.natAbs % 65536) (Dm.count (a.natAbs % 65536)) = d at *
    generalize Dm.count (a.natAbs % 65536) = k at *
    have hdot : (P ++ 46 :: Dm.pad k d ++ [112, 116]).getD P.length 0 = 46 := by rw [List.append_assoc, List.cons_append, Dm.getD_mid]
    have hbef : ∀ j, j < P.length → (P ++ 46 :: Dm.pad k d ++ [112, 116]).getD j 0 ≠ 46 := by
      intro j hj
      rw [List.append_assoc, Dm.getD_left _ _ _ hj]
      exact hno j hj
    have hlen : (P ++ 46 :: Dm.pad k d ++ [112, 116]).length = P.length + k + 3 := by simp [Dm.pad_len]; omega
    by_cases hk1 : k = 1
    · subst hk1
      exact dimenShort_one a _ P.length w ht h hx (by rw [hlen]) (by omega) hdot hbef
    · obtain ⟨k', rfl⟩ : ∃ k', k = k' + 2 := ⟨k - 2, by omega⟩
      have hd1 : d / 10 < 10 ^ (k' + 1) := by rw [Nat.pow_succ] at hfl; omega
      have hS : (P ++ 46 :: Dm.pad (k' + 2) d ++ [112, 116]).take ((P ++ 46 :: Dm.pad (k' + 2) d ++ [112, 116]).length - 3) = P ++ 46 :: Dm.pad (k' + 1) (d / 10) := by
        rw [hlen, Dm.pad_snoc]
        have e : P ++ 46 :: (Dm.pad (k' + 1) (d / 10) ++ [Lib.dg d 0]) ++ [112, 116] = (P ++ 46 :: Dm.pad (k' + 1) (d / 10)) ++ [Lib.dg d 0, 112, 116] := by simp
        rw [e, List.take_append_of_le_length (by simp [Dm.pad_len]), List.take_of_length_le (by simp [Dm.pad_len])]
      have hSl : (P ++ 46 :: Dm.pad (k' + 1) (d / 10)).length = (P ++ 46 :: Dm.pad (k' + 2) d ++ [112, 116]).length - 3 := by
        rw [hlen]; simp [Dm.pad_len]
      have hlast : (P ++ 46 :: Dm.pad (k' + 1) (d / 10)).getD ((P ++ 46 :: Dm.pad (k' + 1) (d / 10)).length - 1) 0 = Lib.dg (d / 10) 0 := by
        rw [Dm.pad_snoc, ← List.cons_append, ← List.append_assoc]
        exact Dm.getD_last _ _
      have hlt := Dm.dg_toNat (d / 10) 0
      simp only [Nat.pow_zero, Nat.div_one] at hlt
      have hle := hsle (by omega)
      have hne0 := hsne (d / 10) (by omega)
      rw [show k' + 2 - 1 = k' + 1 by omega] at hle hne0
      have hp0 := hform (k' + 1) (d / 10) (by omega) (by omega) hd1
      have hin : ∀ g : Nat, g ≤ a.natAbs % 65536 → Dm.within (if decide (a < 0) = true then -((a.natAbs / 65536 * 65536 + g : Nat) : Int) else ((a.natAbs / 65536 * 65536 + g : Nat) : Int)) = ((if decide (a < 0) = true then -((a.natAbs / 65536 * 65536 + g : Nat) : Int) else ((a.natAbs / 65536 * 65536 + g : Nat) : Int)), 0) := by
        intro g hg
        unfold Dm.within
        by_cases h0 : a < 0
        · simp only [h0, decide_true, if_true]; rw [if_pos (by omega)]
        · simp only [h0, decide_false, Bool.false_eq_true, if_false]; rw [if_pos (by omega)]
      have hval : ∀ g : Nat, g ≠ a.natAbs % 65536 → ((if decide (a < 0) = true then -((a.natAbs / 65536 * 65536 + g : Nat) : Int) else ((a.natAbs / 65536 * 65536 + g : Nat) : Int)) != a) = true := by
        intro g hg
        rw [bne_iff_ne]
        by_cases h0 : a < 0
        · simp only [h0, decide_true, if_true]; omega
        · simp only [h0, decide_false, Bool.false_eq_true, if_false]; omega
      rw [hin _ hle] at hp0
      by_cases h9 : d / 10 % 10 = 9
      · exact dimenShort_nine a _ _ _ P.length w ht h hx (by rw [hlen]; omega) (by rw [hlen]; omega) (by omega) hdot hbef hS hSl hp0 (hval _ hne0) (by rw [hlast, hlt]; omega)
      · have hd2 : d / 10 + 1 < 10 ^ (k' + 1) := by rw [Nat.pow_succ] at hd1 ⊢; omega
        have hp2 := hform (k' + 1) (d / 10 + 1) (by omega) (by omega) hd2
        have hne1 := hsne (d / 10 + 1) (by omega)
        rw [show k' + 2 - 1 = k' + 1 by omega] at hne1
        refine dimenShort_next a _ _ _ _ _ (P ++ 46 :: Dm.pad (k' + 1) (d / 10 + 1)) P.length w ht h hx (by rw [hlen]; omega) (by rw [hlen]; omega) (by omega) hdot hbef hS hSl hp0 (hval _ hne0) (by rw [hlast, hlt]; omega) (by simp [Dm.pad_len]) ?_ hp2 ?_
        · intro j hj
          rw [hlast]
          have e1 : P ++ 46 :: Dm.pad (k' + 1) (d / 10 + 1) = (P ++ 46 :: Dm.pad k' (d / 10 / 10)) ++ [Lib.dg (d / 10 + 1) 0] := by
            rw [Dm.pad_snoc, show (d / 10 + 1) / 10 = d / 10 / 10 by omega]; simp
          have e2 : P ++ 46 :: Dm.pad (k' + 1) (d / 10) = (P ++ 46 :: Dm.pad k' (d / 10 / 10)) ++ [Lib.dg (d / 10) 0] := by
            rw [Dm.pad_snoc]; simp
          have hl2 := Dm.dg_toNat (d / 10 + 1) 0
          simp only [Nat.pow_zero, Nat.div_one] at hl2
          rw [e1]
          rw [e2] at hj ⊢
          generalize P ++ 46 :: Dm.pad k' (d / 10 / 10) = R at *
          by_cases hjl : j = (R ++ [Lib.dg (d / 10) 0]).length - 1
          · rw [if_pos hjl]
            have hjR : j = (R ++ [Lib.dg (d / 10 + 1) 0]).length - 1 := by simp at hjl ⊢; exact hjl
            rw [hjR, Dm.getD_last, hl2, hlt]
            omega
          · rw [if_neg hjl]
            have hjR : j < R.length := by simp at hjl hj; omega
            rw [Dm.getD_left _ _ _ hjR, Dm.getD_left _ _ _ hjR]
        · exact Dm.within_or _ a (hval _ hne1)
  · exact dimenShort_no a w ht (by simpa using h)
end Go.Proofs.YtlfhnldeidgkjaaDoor
