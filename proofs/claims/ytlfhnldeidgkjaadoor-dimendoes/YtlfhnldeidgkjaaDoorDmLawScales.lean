/-
  The walk of the law DimenScales: it returns true for every int and float. No conditions but that the package variable of powers of ten reads as it is laid.
-/
import Derived.Test.YtlfhnldeidgkjaaDoorDmLawZero
import Derived.Test.YtlfhnldeidgkjaaDoorDmFloat4
namespace Go.Proofs.YtlfhnldeidgkjaaDoor
open Go.RowKit

theorem neg_run (f : Nat) (W : World) : (Op.unary .neg (.float .f64 f)).run Tryd.prog W = .ok (.float .f64 (Op.negFloat .f64 f)) W := rfl

set_option maxHeartbeats 800000 in
theorem dimenScales_no (a : Int) (f : Nat) (w : World) (ht : Tab w) (h : Fx.len a = false) :
    Calls Tryd.prog 7 #[.int .i64 a, .float .f64 f] w fun e w' => e = .returned (.bool true) ∧ Lo w w' := by
  have HT := Lib.hid ht
  have HI := Lib.hid ((one_len a).trans h)
  have HS := Lib.hid (fun W => scale_no a f W h)
  clear ht h
  go_enter Tryd.func7, Tryd.ntmps7
  go_wp2_with fail
  refine (is_any _ [a] _ (row1 _ _ (by simp) a)).mono ?_
  rw [HI.out]
  rintro e w0 ⟨rfl, rfl⟩
  have L0 : Lo w (w.alloc (.cells #[.int .i64 a] 3)) := (Lo.refl w).alloc _
  go_wp2_with fail
  refine (HS.out _).mono ?_
  rintro e w1 ⟨rfl, L1⟩
  have M1 := L0.trans L1
  clear L0 L1
  go_wp2_with fail
  refine (told_any _ (HT.out.lo M1)).mono ?_
  rintro e w2 ⟨rfl, L2⟩
  go_wp2_with fail
  go_ret
  exact ⟨rfl, M1.trans L2⟩

set_option maxHeartbeats 1600000 in
theorem dimenScales_yes (a d h g : Int) (f : Nat) (w : World) (ht : Tab w) (hl : Fx.len a = true) (hd1 : -1073741823 ≤ d) (hd2 : d ≤ 1073741823)
    (h1 : Fl.scale a 4607182418800017408 = (a, 0)) (h0 : Fl.scale a 0 = (0, 0)) (hf : Fl.scale a f = (d, h)) (hn : Fl.scale a (Op.negFloat .f64 f) = (-d, h)) (hi : Fl.scale a 9218868437227405312 = (0, g))
    (hg : (a == 0) = true ∧ g = 3 ∨ (a == 0) = false ∧ g = 2) :
    Calls Tryd.prog 7 #[.int .i64 a, .float .f64 f] w fun e w' => e = .returned (.bool true) ∧ Lo w w' := by
  have HT := Lib.hid ht
  have HI := Lib.hid ((one_len a).trans hl)
  have H1 := Lib.hid (fun W => scale_yes a 4607182418800017408 W hl)
  have H0 := Lib.hid (fun W => scale_yes a 0 W hl)
  have HF := Lib.hid (fun W => scale_yes a f W hl)
  have HN := Lib.hid (fun W => scale_yes a (Op.negFloat .f64 f) W hl)
  have HX := Lib.hid (fun W => scale_yes a 9221120237041090561 W hl)
  have HY := Lib.hid (fun W => scale_yes a 9218868437227405312 W hl)
  rw [h1] at H1
  rw [h0] at H0
  rw [hf] at HF
  rw [hn] at HN
  rw [Fl.scale_nan] at HX
  rw [hi] at HY
  obtain ⟨b1, b2⟩ := (Fx.len_iff a).1 hl
  have hng := neg_run f
  clear ht h1 h0 hf hn hi hl
  go_enter Tryd.func7, Tryd.ntmps7
  go_wp2_with fail
  refine (is_any _ [a] _ (row1 _ _ (by simp) a)).mono ?_
  rw [HI.out]
  rintro e w0 ⟨rfl, rfl⟩
  have L0 : Lo w (w.alloc (.cells #[.int .i64 a] 3)) := (Lo.refl w).alloc _
  go_wp2_with fail
  refine (H1.out _).mono ?_
  rintro e w1 ⟨rfl, L1⟩
  have M1 := L0.trans L1
  clear L0 L1 H1
  go_wp2_with fail
  refine (H0.out _).mono ?_
  rintro e w2 ⟨rfl, L2⟩
  have M2 := M1.trans L2
  clear M1 L2 H0
  go_wp2_with fail
  refine (HF.out _).mono ?_
  rintro e w3 ⟨rfl, L3⟩
  have M3 := M2.trans L3
  clear M2 L3 HF
  go_wp2_with fail
  refine (HN.out _).mono ?_
  rintro e w4 ⟨rfl, L4⟩
  have M4 := M3.trans L4
  clear M3 L4 HN
  go_wp2_with fail
  refine (nan_any _).mono ?_
  rintro e w5 ⟨rfl, rfl⟩
  go_wp2_with fail
  refine (HX.out _).mono ?_
  rintro e w6 ⟨rfl, L6⟩
  have M6 := M4.trans L6
  clear M4 L6 HX
  go_wp2_with fail
  refine (inf_any _).mono ?_
  rintro e w7 ⟨rfl, rfl⟩
  go_wp2_with fail
  refine (HY.out _).mono ?_
  rintro e w8 ⟨rfl, L8⟩
  have M8 := M6.trans L8
  clear M6 L8 HY
  have HD : (-d == -d) = true := by simp
  have HE : (h == h) = true := by simp
  have HA : (a == a) = true := by simp
  rcases hg with ⟨ha, rfl⟩ | ⟨ha, rfl⟩
  all_goals
    go_wp2_with fail
    refine (told_any _ (HT.out.lo M8)).mono ?_
    rintro e w9 ⟨rfl, L9⟩
    go_wp2_with fail
    go_ret
    exact ⟨by simp, M8.trans L9⟩

theorem dimenScales_walk (a : Int) (f : Nat) (_w0 : (Lit.int .i64 a).wf = true) (w1 : (Lit.float .f64 f).wf = true) (w : World) (ht : Tab w) :
    Calls Tryd.prog 7 #[.int .i64 a, .float .f64 f] w fun e w' => e = .returned (.bool true) ∧ Below w.heap.size w w' := by
  have hf := float_lt w1
  by_cases h : Fx.len a = true
  · obtain ⟨b1, b2⟩ := (Fx.len_iff a).1 h
    obtain ⟨d1, d2⟩ := Fl.scale_bd a f
    have hn : a.natAbs ≤ 1073741823 := by omega
    by_cases h0 : a = 0
    · subst h0
      exact dimenScales_yes 0 _ _ 3 f w ht h d1 d2 (Fl.scale_one _ hn) (Fl.scale_zero _ hn) rfl (Fl.scale_neg _ f hf) Fl.scale_inf_zero (.inl ⟨rfl, rfl⟩)
    · exact dimenScales_yes a _ _ 2 f w ht h d1 d2 (Fl.scale_one _ hn) (Fl.scale_zero _ hn) rfl (Fl.scale_neg _ f hf) (Fl.scale_inf a hn h0) (.inr ⟨by simpa using h0, rfl⟩)
  · exact dimenScales_no a f w ht (by simpa using h)
end Go.Proofs.YtlfhnldeidgkjaaDoor
