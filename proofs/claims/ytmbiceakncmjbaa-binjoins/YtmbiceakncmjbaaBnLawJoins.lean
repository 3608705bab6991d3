/-
  The walk of the law BinJoins: it returns true for all texts, places and rows. No conditions.
-/
import Derived.Test.YtmbiceakncmjbaaBnRead
namespace Bn
theorem get_told {l : List UInt8} {pos : Int} {sizes : List Int} (h : (get l pos sizes).2 = 0) : 0 ≤ pos ∧ pos + many sizes ≤ l.length := by
  unfold get at h
  by_cases c1 : allSizes sizes = false ∨ pos < 0
  · rw [if_pos c1] at h; cases h
  · rw [if_neg c1] at h
    by_cases c2 : (l.length : Int) < pos ∨ (l.length : Int) - pos < many sizes
    · rw [if_pos c2] at h; cases h
    · omega
theorem get_len {l : List UInt8} {pos : Int} {sizes : List Int} : (get l pos sizes).1.length ≤ sizes.length := by
  unfold get
  by_cases c1 : allSizes sizes = false ∨ pos < 0
  · rw [if_pos c1]; simp
  · rw [if_neg c1]
    by_cases c2 : (l.length : Int) < pos ∨ (l.length : Int) - pos < many sizes
    · rw [if_pos c2]; simp
    · rw [if_neg c2, fields_len]; exact Nat.le_refl _
end Bn
namespace Go.Proofs.Ytmbiceakncmjbaa
open Go.RowKit

set_option maxRecDepth 100000 in
set_option maxHeartbeats 400000 in
theorem binJoins_many (p q : Option Addr) (n m c d : Nat) (a : ByteArray) (pos : Int) (w : World) (h : (decide (a.size ≤ 2000) && (decide (n ≤ 300) && decide (m ≤ 300))) = false) :
    Calls Try.prog 6 #[.string a, .int .i64 pos, .slice p n c, .slice q m d] w fun e w' => e = .returned (.bool true) ∧ Lo w w' := by
  have HF := Lib.hid (fun W => few_any a p q n m c d W)
  rw [h] at HF
  clear h
  go_enter Try.func6, Try.ntmps6
  go_wp2_with fail
  refine (HF.out _).mono ?_
  rintro e w1 ⟨rfl, rfl⟩
  go_wp2_with fail
  go_ret
  exact ⟨rfl, Lo.refl _⟩

set_option maxRecDepth 100000 in
set_option maxHeartbeats 4000000 in
theorem binJoins_few (p q : Option Addr) (c d : Nat) (l m : List Int) (s : List UInt8) (pos : Int) (w : World) (hr : Row w (.slice p l.length c) l) (hr2 : Row w (.slice q m.length d) m) (h1 : l.length ≤ 300) (h2 : m.length ≤ 300) (h3 : s.length ≤ 2000) (hp : pos ≤ 9223372036854775807) :
    Calls Try.prog 6 #[.string ⟨s.toArray⟩, .int .i64 pos, .slice p l.length c, .slice q m.length d] w fun e w' => e = .returned (.bool true) ∧ Lo w w' := by
  have HF := Lib.hid (fun W => few_any ⟨s.toArray⟩ p q l.length m.length c d W)
  rw [show (decide ((⟨s.toArray⟩ : ByteArray).size ≤ 2000) && (decide (l.length ≤ 300) && decide (m.length ≤ 300))) = true by have h' : (⟨s.toArray⟩ : ByteArray).size ≤ 2000 := h3; simp [h', h1, h2]] at HF
  have HR := Lib.hid hr
  have HR2 := Lib.hid hr2
  have HG := Lib.hid (fun (W : World) (v : Value) (h : Row W v (l ++ m)) => get_any s pos v (l ++ m) W h (by simp; omega) (by omega) hp)
  have HGa := Lib.hid (fun (W : World) (v : Value) (h : Row W v l) => get_any s pos v l W h (by omega) (by omega) hp)
  unfold GotRow at HG HGa
  have HPos := Lib.hid hp
  have HH1 := Lib.hid h1
  have HH2 := Lib.hid h2
  have HLm : Hid ((l ++ m).length = l.length + m.length) := Lib.hid (by simp)
  generalize hnn : l.length = n at *
  generalize hmm : m.length = k2 at *
  have HN := Lib.hid hnn
  have HN2 := Lib.hid hmm
  clear hr hr2 hnn hmm hp
  go_enter Try.func6, Try.ntmps6
  go_wp2_with fail
  refine (HF.out _).mono ?_
  rintro e w1 ⟨rfl, rfl⟩
  clear HF
  go_wp2_with fail
  go_loop [9, 10] (fun x i => ∃ k mm : Nat, k ≤ n ∧ mm ≤ 4 * k ∧ i = .int .i64 k ∧ x = .int .i64 mm ∧ Hid (mm = Bn.many (l.take k)) ∧ Hid (Bn.allSizes (l.take k) = true)) (fun _ i => n - (intOf i).toNat)
  case atStart => exact ⟨0, 0, Nat.zero_le _, Nat.le_refl _, rfl, rfl, Lib.hid rfl, Lib.hid rfl⟩
  case round =>
    obtain ⟨k, mm, hk, hm4, rfl, rfl, HM, HS⟩ := hrel
    by_cases hlt : k < n
    · obtain ⟨b, off, rfl, hcell⟩ := HR.out.at_ hlt
      have HK : Hid (k < l.length) := Lib.hid (by rw [HN.out]; exact hlt)
      have HT := Lib.hid (Bn.take_snoc HK.out)
      generalize l.getD k 0 = z at *
      have HSz := Lib.hid (fun W => rsize_any z W)
      by_cases hz : Bn.isSize z = true
      · rw [hz] at HSz
        have HZ := Lib.hid hz
        have HW := Lib.hid (fun W => rwide_any z W hz)
        have hz4 := (Bn.isSize_wide hz).2
        clear hz
        generalize hq : z.natAbs = qq at *
        have HQ := Lib.hid hq
        clear hq
        go_wp2_with fail
        refine (HW.out _).mono ?_
        rintro e w1 ⟨rfl, rfl⟩
        go_wp2_with fail
        refine (HSz.out _).mono ?_
        rintro e w1 ⟨rfl, rfl⟩
        go_wp2_with fail
        go_round
        case rel => exact ⟨k + 1, mm + qq, by omega, by omega, by go_num, by go_num, Lib.hid (by rw [HT.out, Bn.many_snoc, ← HM.out, HQ.out]), Lib.hid (by rw [HT.out, Bn.allSizes_snoc, HS.out, HZ.out]; rfl)⟩
        case measure => simp [intOf]; omega
      · rw [show Bn.isSize z = false by simpa using hz] at HSz
        have HW := Lib.hid (fun W => rwide_some z W)
        generalize (if z < 0 then wrap64 (0 - z) else z) = zz at *
        clear hz
        go_wp2_with fail
        refine (HW.out _).mono ?_
        rintro e w1 ⟨rfl, rfl⟩
        go_wp2_with fail
        refine (HSz.out _).mono ?_
        rintro e w1 ⟨rfl, rfl⟩
        go_wp2_with fail
        refine (read_any _).mono ?_
        rintro e w1 ⟨rfl, l1⟩
        have HL1 := Lib.hid l1
        clear l1
        go_wp2_with fail
        go_ret
        exact ⟨rfl, HL1.out⟩
    · have ht : l.take k = l := List.take_of_length_le (by rw [HN.out]; omega)
      rw [ht] at HM HS
      clear ht
      go_wp2_with (first
        | (at_builtin; refine wpList_app _ rfl (.tmp 48) (.tmp 49) rfl w.heap.size (.slice none 0 0) [] rfl (Own.none _ _) _ l rfl HR.out (by simp; have := HN.out; omega) (Nat.le_refl _) ?_; intro q1 c1 w1 hown1 hlo1; rw [List.nil_append, List.length_nil, Nat.zero_add] at hown1; have HO1 := Lib.hid hown1; have HL1 := Lib.hid (hlo1 w (Lo.refl _) rfl); clear hown1 hlo1; rw [List.length_nil, Nat.zero_add])
        | (at_builtin; refine wpList_app _ rfl (.tmp 51) (.tmp 52) rfl w.heap.size (.slice q1 l.length c1) l rfl HO1.out _ m rfl (HR2.out.lo HL1.out) (by have := HN.out; have := HN2.out; omega) HL1.out.size ?_; intro q2 c2 w2 hown2 hlo2; have HO2 := Lib.hid hown2.row; have HL2 := Lib.hid (hlo2 w HL1.out rfl); clear hown2 hlo2 HO1 HL1))
      refine (HG.out _ _ HO2.out).mono ?_
      rintro e w3 ⟨p3, c3, rfl, hr3, l3⟩
      have HL3 := Lib.hid (HL2.out.trans l3)
      have HO3 := Lib.hid (HO2.out.lo l3)
      have HA3 := Lib.hid hr3
      clear l3 hr3 HL2 HO2 HG
      go_wp2_with fail
      refine (HGa.out _ _ (HR.out.lo HL3.out)).mono ?_
      rintro e w4 ⟨p4, c4, rfl, hr4, l4⟩
      have HL4 := Lib.hid (HL3.out.trans l4)
      have HO4 := Lib.hid (HO3.out.lo l4)
      have HA4 := Lib.hid (HA3.out.lo l4)
      have HB4 := Lib.hid hr4
      clear l4 hr4 HL3 HO3 HA3 HGa
      by_cases hok : (Bn.get s pos (l ++ m)).2 = 0
      · obtain ⟨ja, jb, jall, jput, jpiece⟩ := Bn.get_joins s pos l m hok
        obtain ⟨hp0, hp1⟩ := Bn.get_told hok
        have HGb := Lib.hid (fun (W : World) (v : Value) (h : Row W v m) => get_any s (pos + Bn.many l) v m W h (by have := HN2.out; omega) (by omega) (by rw [Bn.many_append] at hp1; omega))
        have HPut := Lib.hid (fun (W : World) (v u : Value) (h : Row W v (l ++ m)) (k : Row W u (Bn.get s pos (l ++ m)).1) => put_any (l ++ m) (Bn.get s pos (l ++ m)).1 v u W h k (by rw [HLm.out]; omega))
        have HPiece := Lib.hid (fun (W : World) => bpiece_any s pos ((s.drop pos.toNat).take (Bn.many (l ++ m))).length W (by omega) HPos.out)
        have HGL := Lib.hid (Bn.get_len (l := s) (pos := pos) (sizes := l))
        have HGL2 := Lib.hid (Bn.get_len (l := s) (pos := pos + Bn.many l) (sizes := m))
        rw [jput] at HPut
        rw [jpiece] at HPiece
        unfold GotRow at HGb
        rw [jb] at HGb
        unfold strErr at HPut HPiece
        rw [hok, ja]
        have hpm : pos + (Bn.many l : Nat) ≤ 2000 := by rw [Bn.many_append] at hp1; omega
        have HALL := Lib.hid jall
        rw [← HM.out] at HGb hpm HALL HGL2
        generalize hT : (s.drop pos.toNat).take (Bn.many (l ++ m)) = T at *
        have hTl : T.length ≤ 2000 := by rw [← hT]; simp; omega
        generalize (Bn.get s pos (l ++ m)).1 = L at *
        generalize (Bn.get s pos l).1 = A at *
        generalize (Bn.get s (pos + (mm : Nat)) m).1 = B at *
        clear hok ja jb jall jput jpiece hp1 hT
        go_wp2_with fail
        refine (HGb.out _ _ (HR2.out.lo HL4.out)).mono ?_
        rintro e w5 ⟨p5, c5, rfl, hr5, l5⟩
        have HL5 := Lib.hid (HL4.out.trans l5)
        have HO5 := Lib.hid (HO4.out.lo l5)
        have HA5 := Lib.hid (HA4.out.lo l5)
        have HB5 := Lib.hid (HB4.out.lo l5)
        have HC5 := Lib.hid hr5
        clear l5 hr5 HL4 HO4 HA4 HB4 HGb
        go_wp2_with (first
          | (at_builtin; refine wpList_app _ rfl (.tmp 85) (.tmp 86) rfl w5.heap.size (.slice none 0 0) [] rfl (Own.none _ _) _ A rfl HB5.out (by have := HGL.out; have := HN.out; simp; omega) (Nat.le_refl _) ?_; intro q6 c6 w6 hown6 hlo6; rw [List.nil_append, List.length_nil, Nat.zero_add] at hown6; have HQ6 := Lib.hid hown6; have HK6 := Lib.hid (hlo6 w5 (Lo.refl _) rfl); clear hown6 hlo6; rw [List.length_nil, Nat.zero_add])
          | (at_builtin; refine wpList_app _ rfl (.tmp 88) (.tmp 89) rfl w5.heap.size (.slice q6 A.length c6) A rfl HQ6.out _ B rfl (HC5.out.lo HK6.out) (by have := HGL.out; have := HN.out; have := HGL2.out; have := HN2.out; omega) HK6.out.size ?_; intro q7 c7 w7 hown7 hlo7; have HQ7 := Lib.hid hown7.row; have HK7 := Lib.hid (hlo7 w5 HK6.out rfl); clear hown7 hlo7 HQ6 HK6))
        have HL7 := Lib.hid (HL5.out.trans HK7.out)
        have HO7 := Lib.hid (HO5.out.lo HK7.out)
        have HA7 := Lib.hid (HA5.out.lo HK7.out)
        clear HL5 HO5 HA5 HB5 HC5 HK7
        refine (HPut.out _ _ _ HO7.out HA7.out).mono ?_
        rintro e w8 ⟨rfl, l8⟩
        have HL8 := Lib.hid (HL7.out.trans l8)
        have HQ8 := Lib.hid (HQ7.out.lo l8)
        have HA8 := Lib.hid (HA7.out.lo l8)
        clear l8 HL7 HO7 HA7 HQ7 HPut
        go_wp2_with fail
        refine (HPiece.out _).mono ?_
        rintro e w9 ⟨rfl, l9⟩
        have HL9 := Lib.hid (HL8.out.trans l9)
        have HQ9 := Lib.hid (HQ8.out.lo l9)
        have HA9 := Lib.hid (HA8.out.lo l9)
        clear l9 HL8 HQ8 HA8 HPiece
        go_wp2_with fail
        refine (read_any _).mono ?_
        rintro e w10 ⟨rfl, l10⟩
        have HL10 := Lib.hid (HL9.out.trans l10)
        have HQ10 := Lib.hid (HQ9.out.lo l10)
        have HA10 := Lib.hid (HA9.out.lo l10)
        clear l10 HL9 HQ9 HA9
        go_wp2_with fail
        refine (rints_any _ _ (A ++ B) L _ HQ10.out HA10.out).mono ?_
        rw [show decide (A ++ B = L) = true from decide_eq_true HALL.out]
        rintro e w11 ⟨rfl, l11⟩
        have HL11 := Lib.hid (HL10.out.trans l11)
        clear l11 HL10 HQ10 HA10
        go_wp2_with fail
        go_ret
        exact ⟨rfl, HL11.out⟩
      · have hb : ((Bn.get s pos (l ++ m)).2 == 0) = false := by simpa using hok
        rw [Bn.get_refused s pos (l ++ m) hok]
        generalize (Bn.get s pos (l ++ m)).2 = kk at *
        generalize (Bn.get s pos l).2 = k4 at *
        clear hok HA4
        go_wp2_with fail
        refine (read_any _).mono ?_
        rintro e w5 ⟨rfl, l5⟩
        have HL5 := Lib.hid (HL4.out.trans l5)
        clear l5
        go_wp2_with fail
        go_ret
        exact ⟨rfl, HL5.out⟩

theorem binJoins_walk (a0 : ByteArray) (a1 : Int) (a2 : Option Addr) (len2 cap2 : Nat) (z2 : List Int) (a3 : Option Addr) (len3 cap3 : Nat) (z3 : List Int) (w : World) (_w0 : a0.size ≤ maxLen) (w1 : (Lit.int .i64 a1).wf = true) (w2 : IsRow .i64 w a2 len2 cap2 z2) (w3 : IsRow .i64 w a3 len3 cap3 z3) :
    Calls Try.prog 6 #[.string a0, .int .i64 a1, .slice a2 len2 cap2, .slice a3 len3 cap3] w fun e w' => e = .returned (.bool true) ∧ Below w.heap.size w w' := by
  obtain ⟨l, rfl, hr⟩ := w2.row
  obtain ⟨m, rfl, hr2⟩ := w3.row
  cases hf : (decide (a0.size ≤ 2000) && (decide (l.length ≤ 300) && decide (m.length ≤ 300))) with
  | false => exact binJoins_many a2 a3 _ _ cap2 cap3 a0 a1 w hf
  | true =>
    simp only [Bool.and_eq_true, decide_eq_true_eq] at hf
    exact binJoins_few a2 a3 cap2 cap3 l m a0.data.toList a1 w hr hr2 hf.2.1 hf.2.2 hf.1 (int_wf w1).2
end Go.Proofs.Ytmbiceakncmjbaa
