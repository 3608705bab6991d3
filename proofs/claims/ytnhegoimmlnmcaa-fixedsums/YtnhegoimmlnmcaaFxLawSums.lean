/-
  The walk of the law FixedSums: it returns true for all slices of ints and all ints. No conditions.
-/
import Derived.Test.YtnhegoimmlnmcaaFxLawDoes
import Derived.Test.YtnhegoimmlnmcaaFxSum
import Derived.Deep.DeepCutAuto
namespace Go.Proofs.Ytnhegoimmlnmcaa
open Go.RowKit

set_option maxRecDepth 100000 in
set_option maxHeartbeats 400000 in
theorem fixedSums_many (p q : Option Addr) (n1 c1 n2 c2 : Nat) (n : Int) (w : World) (h : ¬ n1 ≤ 300 ∨ n1 ≤ 300 ∧ ¬ n2 ≤ 300) :
    Calls Try.prog 7 #[.slice p n1 c1, .slice q n2 c2, .int .i64 n] w fun e w' => e = .returned (.bool true) ∧ Lo w w' := by
  rcases h with h | ⟨h, h2⟩
  · have hd : Hid (decide (n1 ≤ 300) = false) := by show _ = _; simpa using h
    go_enter Try.func7, Try.ntmps7
    go_wp2_with fail
    refine (few_any p n1 c1 _).mono ?_
    rintro e w1 ⟨rfl, rfl⟩
    rw [hd.out]
    go_wp2_with fail
    go_ret
    exact ⟨rfl, Lo.refl _⟩
  · have hd : Hid (decide (n1 ≤ 300) = true) := by show _ = _; simpa using h
    have hd2 : Hid (decide (n2 ≤ 300) = false) := by show _ = _; simpa using h2
    go_enter Try.func7, Try.ntmps7
    go_wp2_with fail
    refine (few_any p n1 c1 _).mono ?_
    rintro e w1 ⟨rfl, rfl⟩
    rw [hd.out]
    go_wp2_with fail
    refine (few_any q n2 c2 _).mono ?_
    rintro e w1 ⟨rfl, rfl⟩
    rw [hd2.out]
    go_wp2_with fail
    go_ret
    exact ⟨rfl, Lo.refl _⟩

/-- The loop that lays one number so many times. -/
def SameRel (w : World) (z : Int) (N : Nat) (v i : Value) (wr : World) : Prop :=
  ∃ k : Nat, k ≤ N ∧ i = .int .i64 (k : Int) ∧ (∃ p n c, v = .slice p n c) ∧ Own wr w.heap.size v (List.replicate k z) ∧ Lo w wr

/-- The loop that turns a row round: the last of them from j on have been taken. -/
def BackRel (w : World) (l : List Int) (v i : Value) (wr : World) : Prop :=
  ∃ j : Nat, j ≤ l.length ∧ i = .int .i64 ((j : Int) - 1) ∧ (∃ p n c, v = .slice p n c) ∧ Own wr w.heap.size v (l.drop j).reverse ∧ Lo w wr

theorem drop_back {l : List Int} {m : Nat} (h : m < l.length) : (l.drop m).reverse = (l.drop (m + 1)).reverse ++ [l.getD m 0] := by
  rw [List.drop_eq_getElem_cons h, List.reverse_cons]
  simp [List.getD, List.getElem?_eq_getElem h]

set_option maxRecDepth 100000 in
set_option maxHeartbeats 4000000 in
theorem fixedSums_few (p q : Option Addr) (cp cq : Nat) (l m : List Int) (n : Int) (w : World) (h1 : l.length ≤ 300) (h2 : m.length ≤ 300) (hr1 : Row w (.slice p l.length cp) l) (hr2 : Row w (.slice q m.length cq) m) :
    Calls Try.prog 7 #[.slice p l.length cp, .slice q m.length cq, .int .i64 n] w fun e w' => e = .returned (.bool true) ∧ Lo w w' := by
  have hd : Hid (decide (l.length ≤ 300) = true) := by show _ = _; simpa using h1
  have hd2 : Hid (decide (m.length ≤ 300) = true) := by show _ = _; simpa using h2
  have HR1 := Lib.hid hr1
  have HR2 := Lib.hid hr2
  clear hr1 hr2
  go_enter Try.func7, Try.ntmps7
  go_wp2_with fail
  refine (few_any p l.length cp _).mono ?_
  rintro e w1 ⟨rfl, rfl⟩
  rw [hd.out]
  go_wp2_with fail
  refine (few_any q m.length cq _).mono ?_
  rintro e w1 ⟨rfl, rfl⟩
  rw [hd2.out]
  go_wp2_with fail
  go_loopw [7, 8] (fun v i wr => BackRel w l v i wr) (fun _ i _ => (intOf i + 1).toNat)
  case atStart => exact ⟨l.length, Nat.le_refl _, rfl, ⟨_, _, _, rfl⟩, by rw [List.drop_length]; exact Own.none _ _, Lo.refl _⟩
  case round =>
    obtain ⟨j, hj, rfl, ⟨pv, nv, cv, rfl⟩, hown, hlo⟩ := hrel
    cases j with
    | succ k =>
      have hk : k < l.length := by omega
      rw [show (((k + 1 : Nat) : Int) - 1) = (k : Int) from by omega]
      obtain ⟨b1, o1, hp1, hc1⟩ := (HR1.out.lo hlo).at_ hk
      have HB := Lib.hid (drop_back hk)
      rw [hp1]
      have HP := Lib.hid hp1
      have HO := Lib.hid hown
      have HL := Lib.hid hlo
      have hk0 : ((0 : Int) ≤ k) := by omega
      clear hp1 hown hlo hj
      generalize l.getD k 0 = z at *
      go_wp2_with (at_builtin; refine wpList_app _ rfl (.tmp 41) (.tmp 46) rfl w.heap.size (.slice pv nv cv) _ rfl (HO.out.lo ((Lo.refl _).alloc _)) _ [z] rfl (row1 _ _ (by simp) z) (by simp; omega) (by have := HL.out.size; simp; omega) ?_; intro q1 c1 w1 hown hlo)
      have HO1 := Lib.hid hown
      have HL1 := Lib.hid (hlo w (HL.out.alloc _) rfl)
      clear hown hlo
      go_roundw
      case rel => exact ⟨k, by omega, rfl, ⟨_, _, _, rfl⟩, by have h := HO1.out; rw [List.length_reverse, List.length_drop, List.length_singleton] at h; rw [HB.out]; exact h, HL1.out⟩
      case measure => simp [intOf]
    | zero =>
      rw [List.drop_zero] at hown
      have HB := Lib.hid hown.row
      have HL := Lib.hid hlo
      clear hown hlo hj
      go_wp2_with (first
        | (at_builtin; refine wpList_app _ rfl (.tmp 48) (.tmp 49) rfl wr.heap.size (.slice none 0 0) [] rfl (Own.none _ _) _ l rfl (HR1.out.lo HL.out) (by simp; omega) (Nat.le_refl _) ?_; intro q1 c1 w1 hown1 hlo1; rw [List.nil_append, List.length_nil, Nat.zero_add] at hown1; have HO1 := Lib.hid hown1; have HL1 := Lib.hid (hlo1 wr (Lo.refl _) rfl); clear hown1 hlo1)
        | (at_builtin; refine wpList_app _ rfl (.tmp 51) (.tmp 52) rfl wr.heap.size (.slice q1 l.length c1) l rfl HO1.out _ m rfl (HR2.out.lo (HL.out.trans HL1.out)) (by omega) HL1.out.size ?_; intro q2 c2 w2 hown2 hlo2; have HO2 := Lib.hid hown2; have HL2 := Lib.hid (hlo2 wr HL1.out rfl); clear hown2 hlo2 HO1 HL1))
      have HW2 := Lib.hid (HL.out.trans HL2.out)
      have HB2 := Lib.hid (HB.out.lo HL2.out)
      have HA2 := Lib.hid HO2.out.row
      clear HL HL2 HB HO2
      refine (sum_any _ l _ (HR1.out.lo HW2.out)).mono ?_
      rintro e w3 ⟨rfl, l3⟩
      have HW3 := Lib.hid (HW2.out.trans l3)
      have HB3 := Lib.hid (HB2.out.lo l3)
      have HA3 := Lib.hid (HA2.out.lo l3)
      clear HW2 HB2 HA2 l3
      go_wp2_with fail
      refine (sum_any _ l.reverse _ HB3.out).mono ?_
      rintro e w4 ⟨rfl, l4⟩
      have HW4 := Lib.hid (HW3.out.trans l4)
      have HA4 := Lib.hid (HA3.out.lo l4)
      clear HW3 HB3 HA3 l4
      go_wp2_with fail
      refine (sum_any _ m _ (HR2.out.lo HW4.out)).mono ?_
      rintro e w5 ⟨rfl, l5⟩
      have HW5 := Lib.hid (HW4.out.trans l5)
      have HA5 := Lib.hid (HA4.out.lo l5)
      clear HW4 HA4 l5
      go_wp2_with fail
      refine (sum_any _ (l ++ m) _ HA5.out).mono ?_
      rintro e w6 ⟨rfl, l6⟩
      have HW6 := Lib.hid (HW5.out.trans l6)
      clear HW5 HA5 l6
      have F1 := Lib.hid (Fx.sum_back (l := l))
      have F2 := Lib.hid (Fx.sum_joined (l := l) (m := m))
      have F3 := Lib.hid (Fx.sum_untold l)
      generalize (Fx.sum l).1 = sa at *
      generalize (Fx.sum l).2 = se at *
      generalize (Fx.sum l.reverse).1 = sb at *
      generalize (Fx.sum l.reverse).2 = sf at *
      generalize (Fx.sum m).1 = sc at *
      generalize (Fx.sum m).2 = sg at *
      go_upto_region 15 with fail
      generalize (Fx.sum (l ++ m)).1 = sd at *
      generalize (Fx.sum (l ++ m)).2 = sh at *
      go_cut [84] (fun s wx => s = .bool false ∧ w6 = wx)
      case first =>
        by_cases he : se = 0
        · by_cases hf : sf = 0
          · have h1 : (se == 0) = true := by simp [he]
            have h2 : (sf == 0) = true := by simp [hf]
            have h3 : (sa != sb) = false := by rw [F1.out he hf]; simp
            clear he hf
            go_wp2_with fail
            go_meet
            exact ⟨rfl, rfl⟩
          · have h1 : (se == 0) = true := by simp [he]
            have h2 : (sf == 0) = false := by simp [hf]
            clear he hf
            go_wp2_with fail
            go_meet
            exact ⟨rfl, rfl⟩
        · have h1 : (se == 0) = false := by simp [he]
          clear he
          go_wp2_with fail
          go_meet
          exact ⟨rfl, rfl⟩
      case rest =>
        obtain ⟨rfl, rfl⟩ := hcut
        clear F1
        go_upto_region 17 with fail
        go_cut [94] (fun s wx => s = .bool (decide (se = 0 ∧ sg = 0 ∧ sh = 0)) ∧ w6 = wx)
        case first =>
          by_cases he : se = 0
          · have h1 : (se == 0) = true := by simp [he]
            by_cases hg : sg = 0
            · have h2 : (sg == 0) = true := by simp [hg]
              by_cases hh : sh = 0
              · have h3 : (sh == 0) = true := by simp [hh]
                have HD : Hid (decide (se = 0 ∧ sg = 0 ∧ sh = 0) = true) := decide_eq_true ⟨he, hg, hh⟩
                clear he hg hh
                go_wp2_with fail
                go_meet
                exact ⟨by rw [HD.out], rfl⟩
              · have h3 : (sh == 0) = false := by simp [hh]
                have HD : Hid (decide (se = 0 ∧ sg = 0 ∧ sh = 0) = false) := decide_eq_false (fun h => hh h.2.2)
                clear he hg hh
                go_wp2_with fail
                go_meet
                exact ⟨by rw [HD.out], rfl⟩
            · have h2 : (sg == 0) = false := by simp [hg]
              have HD : Hid (decide (se = 0 ∧ sg = 0 ∧ sh = 0) = false) := decide_eq_false (fun h => hg h.2.1)
              clear he hg
              go_wp2_with fail
              go_meet
              exact ⟨by rw [HD.out], rfl⟩
          · have h1 : (se == 0) = false := by simp [he]
            have HD : Hid (decide (se = 0 ∧ sg = 0 ∧ sh = 0) = false) := decide_eq_false (fun h => he h.1)
            clear he
            go_wp2_with fail
            go_meet
            exact ⟨by rw [HD.out], rfl⟩
        case rest =>
          obtain ⟨rfl, rfl⟩ := hcut
          go_upto_if 94 with fail
          go_cut [] (fun wx => Lo w wx)
          case first =>
            by_cases hall : se = 0 ∧ sg = 0 ∧ sh = 0
            · have HA := Lib.hid (fun W => add_any sa sc W)
              rw [F2.out hall.1 hall.2.1 hall.2.2] at HA
              have hb : decide (se = 0 ∧ sg = 0 ∧ sh = 0) = true := decide_eq_true hall
              rw [hb]
              clear hall hb
              go_wp2_with fail
              refine (HA.out _).mono ?_
              rintro e w7 ⟨rfl, l7⟩
              have HW7 := Lib.hid (HW6.out.trans l7)
              clear l7
              go_wp2_with fail
              go_meet
              exact HW7.out
            · have hb : decide (se = 0 ∧ sg = 0 ∧ sh = 0) = false := decide_eq_false hall
              rw [hb]
              clear hall hb
              go_wp2_with fail
              go_meet
              exact HW6.out
          case rest =>
            have HW := Lib.hid hcut
            clear hcut HW6 F2
            go_upto_region 21 with fail
            obtain ⟨w8, rfl⟩ : ∃ w8 : World, w8 = wc := ⟨_, rfl⟩
            go_cut [118] (fun s wx => s = .bool (decide (n < 0 ∨ 20 < n ∨ l.length = 0)) ∧ w8 = wx)
            case first =>
              by_cases ha : n < 0
              · have HD : Hid (decide (n < 0 ∨ 20 < n ∨ l.length = 0) = true) := decide_eq_true (.inl ha)
                go_wp2_with fail
                go_meet
                exact ⟨by rw [HD.out], rfl⟩
              · by_cases hb : 20 < n
                · have HD : Hid (decide (n < 0 ∨ 20 < n ∨ l.length = 0) = true) := decide_eq_true (.inr (.inl hb))
                  go_wp2_with fail
                  go_meet
                  exact ⟨by rw [HD.out], rfl⟩
                · by_cases hc : l.length = 0
                  · have HD : Hid (decide (n < 0 ∨ 20 < n ∨ l.length = 0) = true) := decide_eq_true (.inr (.inr hc))
                    have hc' : ((l.length : Int) == 0) = true := by rw [hc]; rfl
                    clear hc
                    go_wp2_with fail
                    go_meet
                    exact ⟨by rw [HD.out], rfl⟩
                  · have HD : Hid (decide (n < 0 ∨ 20 < n ∨ l.length = 0) = false) := decide_eq_false (by omega)
                    have hc' : ((l.length : Int) == 0) = false := by rw [beq_eq_false_iff_ne]; omega
                    clear hc
                    go_wp2_with fail
                    go_meet
                    exact ⟨by rw [HD.out], rfl⟩
            case rest =>
              obtain ⟨rfl, rfl⟩ := hcut
              by_cases hall : n < 0 ∨ 20 < n ∨ l.length = 0
              · have hb : decide (n < 0 ∨ 20 < n ∨ l.length = 0) = true := decide_eq_true hall
                rw [hb]
                clear hall hb
                go_wp2_with fail
                refine (checked_any _).mono ?_
                rintro e w9 ⟨rfl, l9⟩
                have HW9 := Lib.hid (HW.out.trans l9)
                clear l9
                rcases F3.out with he | he
                · have h1 : (se == 0) = true := by simp [he]
                  clear he
                  go_wp2_with fail
                  go_ret
                  exact ⟨rfl, HW9.out⟩
                · have h2 : (sa == 0) = true := by simp [he]
                  clear he
                  by_cases he2 : (se == 0) = true
                  · go_wp2_with fail
                    go_ret
                    exact ⟨rfl, HW9.out⟩
                  · have he3 : (se == 0) = false := by simpa using he2
                    clear he2
                    go_wp2_with fail
                    go_ret
                    exact ⟨rfl, HW9.out⟩
              · have hb : decide (n < 0 ∨ 20 < n ∨ l.length = 0) = false := decide_eq_false hall
                rw [hb]
                obtain ⟨N, hN⟩ : ∃ N : Nat, n = (N : Int) := ⟨n.toNat, by omega⟩
                have hN20 : N ≤ 20 := by omega
                have hl0 : 0 < l.length := by omega
                clear hall hb F3
                subst hN
                obtain ⟨b1, o1, hp1, -⟩ := HR1.out.at_ hl0
                have HZ := Lib.hid (fun W (h : Lo w W) => (show W.cell? ⟨b1, o1, none⟩ = some (.int .i64 (l.getD 0 0)) by
                  obtain ⟨b2, o2, hp2, hc2⟩ := (HR1.out.lo h).at_ hl0
                  rw [hp1] at hp2
                  injection hp2 with hp2
                  injection hp2 with hb ho
                  subst hb ho
                  exact hc2))
                rw [hp1]
                clear hp1 HR1
                generalize l.getD 0 0 = z at *
                go_wp2_with fail
                go_loopw [20, 21] (fun v i wr => SameRel w8 z N v i wr) (fun _ i _ => N - (intOf i).toNat)
                case atStart => exact ⟨0, Nat.zero_le _, rfl, ⟨_, _, _, rfl⟩, Own.none _ _, Lo.refl _⟩
                case round =>
                  obtain ⟨k, hk, rfl, ⟨pv, nv, cv, rfl⟩, hown, hlo⟩ := hrel
                  have hz := HZ.out _ (HW.out.trans hlo)
                  have HO := Lib.hid hown
                  have HL := Lib.hid hlo
                  clear hown hlo
                  by_cases hlt : k < N
                  · go_wp2_with (at_builtin; refine wpList_app _ rfl (.tmp 133) (.tmp 137) rfl w8.heap.size (.slice pv nv cv) _ rfl (HO.out.lo ((Lo.refl _).alloc _)) _ [z] rfl (row1 _ _ (by simp) z) (by simp; omega) (by have := HL.out.size; simp; omega) ?_; intro q3 c3 w9 hown hlo; have HO1 := Lib.hid hown; have HL1 := Lib.hid (hlo w8 (HL.out.alloc _) rfl); clear hown hlo)
                    go_roundw
                    case rel => exact ⟨k + 1, by omega, by go_num, ⟨_, _, _, rfl⟩, by have h := HO1.out; rw [List.length_replicate, List.length_singleton] at h; rw [List.replicate_succ']; exact h, HL1.out⟩
                    case measure => simp [intOf]; omega
                  · obtain rfl : k = N := by omega
                    have HS := Lib.hid HO.out.row
                    clear HO hlt hk
                    go_wp2_with fail
                    refine (sum_any _ (List.replicate k z) _ HS.out).mono ?_
                    rintro e w9 ⟨rfl, l9⟩
                    have hz9 := HZ.out _ ((HW.out.trans HL.out).trans l9)
                    have HW9 := Lib.hid ((HW.out.trans HL.out).trans l9)
                    clear l9 hz HL HW HS
                    go_wp2_with fail
                    refine (times_any z (k : Int) _).mono ?_
                    rintro e w10 ⟨rfl, l10⟩
                    have HW10 := Lib.hid (HW9.out.trans l10)
                    clear l10 hz9 HW9 HZ
                    go_wp2_with fail
                    refine (checked_any _).mono ?_
                    rintro e w11 ⟨rfl, l11⟩
                    have HW11 := Lib.hid (HW10.out.trans l11)
                    clear l11 HW10
                    obtain ⟨g1, g2⟩ := Fx.sum_same z k hN20
                    generalize (Fx.sum (List.replicate k z)).1 = x1 at *
                    generalize (Fx.sum (List.replicate k z)).2 = x2 at *
                    generalize (Fx.times z (k : Int)).1 = y1 at *
                    generalize (Fx.times z (k : Int)).2 = y2 at *
                    have hg1 : ((k : Int) == 0) = true ∨ ((k : Int) == 0) = false ∧ (x2 == y2) = true := by
                      by_cases hk0 : k = 0
                      · subst hk0; exact .inl rfl
                      · refine .inr ⟨by rw [beq_eq_false_iff_ne]; omega, ?_⟩
                        rcases g1 with g1 | g1
                        · exact absurd g1 hk0
                        · rw [g1]; simp
                    have hg2 : (x2 != 0) = true ∨ (x2 != 0) = false ∧ (y2 != 0) = true ∨ (x2 != 0) = false ∧ (y2 != 0) = false ∧ (x1 == y1) = true := by
                      by_cases a1 : x2 = 0
                      · by_cases a2 : y2 = 0
                        · refine .inr (.inr ⟨by rw [a1]; rfl, by rw [a2]; rfl, ?_⟩)
                          rcases g2 with g2 | g2 | g2
                          · exact absurd a1 g2
                          · exact absurd a2 g2
                          · rw [g2]; simp
                        · exact .inr (.inl ⟨by rw [a1]; rfl, by rw [bne_iff_ne]; exact a2⟩)
                      · exact .inl (by rw [bne_iff_ne]; exact a1)
                    clear g1 g2
                    rcases hg1 with h1 | ⟨h1, h1b⟩
                    all_goals
                      rcases hg2 with h3 | ⟨h3, h4⟩ | ⟨h3, h4, h5⟩
                      all_goals
                        go_wp2_with fail
                        go_ret
                        exact ⟨rfl, HW11.out⟩

theorem fixedSums_walk (a0 : Option Addr) (len0 cap0 : Nat) (z0 : List Int) (a1 : Option Addr) (len1 cap1 : Nat) (z1 : List Int) (a2 : Int) (w : World) (w0 : IsRow .i64 w a0 len0 cap0 z0) (w1 : IsRow .i64 w a1 len1 cap1 z1)
    (_w2 : (Lit.int .i64 a2).wf = true) :
    Calls Try.prog 7 #[.slice a0 len0 cap0, .slice a1 len1 cap1, .int .i64 a2] w fun e w' => e = .returned (.bool true) ∧ Below w.heap.size w w' := by
  obtain ⟨l, rfl, hr⟩ := w0.row
  obtain ⟨m, rfl, hr2⟩ := w1.row
  by_cases h : l.length ≤ 300
  · by_cases h2 : m.length ≤ 300
    · exact fixedSums_few a0 a1 cap0 cap1 l m a2 w h h2 hr hr2
    · exact fixedSums_many a0 a1 l.length cap0 m.length cap1 a2 w (.inr ⟨h, h2⟩)
  · exact fixedSums_many a0 a1 l.length cap0 m.length cap1 a2 w (.inl h)

end Go.Proofs.Ytnhegoimmlnmcaa
