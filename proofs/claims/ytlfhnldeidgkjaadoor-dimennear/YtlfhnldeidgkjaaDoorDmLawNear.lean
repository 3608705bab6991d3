/-
  The walk of the law DimenNear: it returns true for every two floats. No conditions but that the package variable of powers of ten reads as it is laid.
-/
import Derived.Test.YtlfhnldeidgkjaaDoorDmFloat5
import Derived.Test.YtlfhnldeidgkjaaDoorDmLawScales
namespace Go.Proofs.YtlfhnldeidgkjaaDoor
open Go.RowKit

set_option maxHeartbeats 800000 in
theorem dimenNear_nan (f g : Nat) (w : World) (ht : Tab w) (h1 : Fl.of f = (0, 3)) (h2 : Fl.of (Op.negFloat .f64 f) = (0, 3)) (hne : (FloatKind.f64.format.order f f != some .eq) = true) :
    Calls Tryd.prog 6 #[.float .f64 f, .float .f64 g] w fun e w' => e = .returned (.bool true) ∧ Lo w w' := by
  have HT := Lib.hid ht
  have H1 := Lib.hid (fun W => of_any f W)
  have H2 := Lib.hid (fun W => of_any (Op.negFloat .f64 f) W)
  rw [h1] at H1
  rw [h2] at H2
  have hng := neg_run f
  clear ht h1 h2
  go_enter Tryd.func6, Tryd.ntmps6
  go_wp2_with fail
  refine (H1.out _).mono ?_
  rintro e w1 ⟨rfl, L1⟩
  go_wp2_with fail
  refine (H2.out _).mono ?_
  rintro e w2 ⟨rfl, L2⟩
  have M2 := L1.trans L2
  clear L1 L2
  go_wp2_with fail
  refine (told_any _ (HT.out.lo M2)).mono ?_
  rintro e w3 ⟨rfl, L3⟩
  go_wp2_with fail
  go_ret
  exact ⟨rfl, M2.trans L3⟩

set_option maxHeartbeats 1600000 in
theorem dimenNear_over (f g p : Nat) (c i : Int) (w : World) (ht : Tab w) (h1 : Fl.of f = (0, 2)) (h2 : Fl.of (Op.negFloat .f64 f) = (0, 2)) (h3 : Fl.of g = (c, i)) (hne : (FloatKind.f64.format.order f f != some .eq) = false)
    (hp : ∀ W, (binOp .mul 22 (.float .f64 f) (.float .f64 4679240012837945344)).run Tryd.prog W = .ok (.float .f64 p) W)
    (ho : FloatKind.f64.format.order p 4742290407612743680 = some .gt ∨ (FloatKind.f64.format.order p 4742290407612743680 = some .lt ∧ FloatKind.f64.format.order p 13965662444467519488 = some .lt)) :
    Calls Tryd.prog 6 #[.float .f64 f, .float .f64 g] w fun e w' => e = .returned (.bool true) ∧ Lo w w' := by
  have HT := Lib.hid ht
  have H1 := Lib.hid (fun W => of_any f W)
  have H2 := Lib.hid (fun W => of_any (Op.negFloat .f64 f) W)
  have H3 := Lib.hid (fun W => of_any g W)
  rw [h1] at H1
  rw [h2] at H2
  rw [h3] at H3
  have hng := neg_run f
  clear ht h1 h2 h3
  rcases ho with ho | ⟨ho, ho2⟩
  all_goals
    go_enter Tryd.func6, Tryd.ntmps6
    go_wp2_with fail
    refine (H1.out _).mono ?_
    rintro e w1 ⟨rfl, L1⟩
    go_wp2_with fail
    refine (H2.out _).mono ?_
    rintro e w2 ⟨rfl, L2⟩
    have M2 := L1.trans L2
    clear L1 L2
    go_wp2_with fail
    refine (H3.out _).mono ?_
    rintro e w3 ⟨rfl, L3⟩
    have M3 := M2.trans L3
    clear M2 L3
    go_wp2_with fail
    refine (told_any _ (HT.out.lo M3)).mono ?_
    rintro e w4 ⟨rfl, L4⟩
    go_wp2_with fail
    go_ret
    exact ⟨rfl, M3.trans L4⟩

set_option maxHeartbeats 3200000 in
theorem dimenNear_ok (f g p z : Nat) (a c i : Int) (w : World) (ht : Tab w) (hl : Fx.len a = true) (h1 : Fl.of f = (a, 0)) (h2 : Fl.of (Op.negFloat .f64 f) = (-a, 0)) (h3 : Fl.of g = (c, i)) (hne : (FloatKind.f64.format.order f f != some .eq) = false)
    (hgr : (i == 0) = false ∨ ((i == 0) = true ∧ FloatKind.f64.format.order f g = some .gt) ∨ ((i == 0) = true ∧ (FloatKind.f64.format.order f g = some .lt ∨ FloatKind.f64.format.order f g = some .eq) ∧ decide (c < a) = false))
    (hp : ∀ W, (binOp .mul 22 (.float .f64 f) (.float .f64 4679240012837945344)).run Tryd.prog W = .ok (.float .f64 p) W)
    (hz : ∀ W, (binOp .sub 22 (.float .f64 (floatOfInt .f64 a)) (.float .f64 p)).run Tryd.prog W = .ok (.float .f64 z) W)
    (ho : (FloatKind.f64.format.order z 4602678819172646912 = some .lt ∧ FloatKind.f64.format.order z 13826050856027422720 = some .gt) ∨
     (FloatKind.f64.format.order z 4602678819172646912 = some .eq ∧ FloatKind.f64.format.order z 13826050856027422720 = some .gt ∧ FloatKind.f64.format.order p 0 = some .gt) ∨
     (FloatKind.f64.format.order z 4602678819172646912 = some .lt ∧ FloatKind.f64.format.order z 13826050856027422720 = some .eq ∧ FloatKind.f64.format.order p 0 = some .lt)) :
    Calls Tryd.prog 6 #[.float .f64 f, .float .f64 g] w fun e w' => e = .returned (.bool true) ∧ Lo w w' := by
  have HT := Lib.hid ht
  have H1 := Lib.hid (fun W => of_any f W)
  have H2 := Lib.hid (fun W => of_any (Op.negFloat .f64 f) W)
  have H3 := Lib.hid (fun W => of_any g W)
  have HI := Lib.hid ((one_len a).trans hl)
  rw [h1] at H1
  rw [h2] at H2
  rw [h3] at H3
  have hng := neg_run f
  obtain ⟨b1, b2⟩ := (Fx.len_iff a).1 hl
  have haa : (-a != -a) = false := by simp
  clear ht h1 h2 h3 hl
  rcases hgr with hi | ⟨hi, hg⟩ | ⟨hi, hg | hg, hca⟩
  all_goals
    go_enter Tryd.func6, Tryd.ntmps6
    go_wp2_with fail
    refine (H1.out _).mono ?_
    rintro e w1 ⟨rfl, L1⟩
    go_wp2_with fail
    refine (H2.out _).mono ?_
    rintro e w2 ⟨rfl, L2⟩
    have M2 := L1.trans L2
    clear L1 L2
    go_wp2_with fail
    refine (H3.out _).mono ?_
    rintro e w3 ⟨rfl, L3⟩
    have M3 := M2.trans L3
    clear M2 L3
    go_wp2_with fail
    refine (told_any _ (HT.out.lo M3)).mono ?_
    rintro e w4 ⟨rfl, L4⟩
    have M4 := M3.trans L4
    clear M3 L4
    go_wp2_with fail
    refine (is_any _ [a] _ (row1 _ _ (by simp) a)).mono ?_
    rw [HI.out]
    rintro e w5 ⟨rfl, rfl⟩
    have M5 := M4.alloc (.cells #[.int .i64 a] 3)
    clear M4
    rcases ho with ⟨o1, o2⟩ | ⟨o1, o2, o3⟩ | ⟨o1, o2, o3⟩
    all_goals
      go_wp2_with fail
      go_ret
      exact ⟨rfl, M5⟩
end Go.Proofs.YtlfhnldeidgkjaaDoor
namespace Fl
open Ieee
theorem num_of_ok {f : Nat} (h : (of f).2 = 0) : ∃ s v, Num f s v := by
  rcases kinds f with ⟨s, t, hr⟩ | ⟨s, hr⟩ | h2
  · rw [of_nan_any hr] at h; cases h
  · unfold of at h
    rw [mul_inf hr] at h
    simp only at h
    rw [ans_inf (read_inf s)] at h
    cases h
  · exact h2
theorem order_cases {f g : Nat} (hf : (of f).2 = 0) (hg : (of g).2 = 0) :
    double.order f g = some .gt ∨ ((double.order f g = some .lt ∨ double.order f g = some .eq) ∧ decide ((of g).1 < (of f).1) = false) := by
  obtain ⟨s, v, h1⟩ := num_of_ok hf
  obtain ⟨t, u, h2⟩ := num_of_ok hg
  have hgr := of_grows h1 h2 hf hg
  rw [order_num h1 h2]
  have c3 : some (compare (sv s v) (sv t u)) = some (if sv s v < sv t u then Ordering.lt else if sv s v = sv t u then .eq else .gt) := rfl
  rw [c3]
  by_cases k1 : sv s v < sv t u
  · right
    rw [if_pos k1]
    exact ⟨.inl rfl, by have := hgr (by omega); simp; omega⟩
  · rw [if_neg k1]
    by_cases k2 : sv s v = sv t u
    · right
      rw [if_pos k2]
      exact ⟨.inr rfl, by have := hgr (by omega); simp; omega⟩
    · left
      rw [if_neg k2]
end Fl
namespace Go.Proofs.YtlfhnldeidgkjaaDoor
open Go.RowKit

theorem dimenNear_walk (f g : Nat) (w0 : (Lit.float .f64 f).wf = true) (_w1 : (Lit.float .f64 g).wf = true) (w : World) (ht : Tab w) :
    Calls Tryd.prog 6 #[.float .f64 f, .float .f64 g] w fun e w' => e = .returned (.bool true) ∧ Below w.heap.size w w' := by
  have hf := float_lt w0
  by_cases hnn : ∃ s t, Ieee.double.read f = .nan s t
  · obtain ⟨s, t, hr⟩ := hnn
    have hr2 : Ieee.double.read (Op.negFloat .f64 f) = .nan (!s) t := by
      have := Fl.read_neg hf
      rw [hr] at this
      exact this
    exact dimenNear_nan f g w ht (Fl.of_nan_any hr) (Fl.of_nan_any hr2) (Fl.order_self_nan hr)
  · have hne : (Ieee.double.order f f != some .eq) = false := by
      rcases Fl.kinds f with ⟨s, t, hr⟩ | ⟨s, hr⟩ | ⟨s, v, hr⟩
      · exact absurd ⟨s, t, hr⟩ hnn
      · exact Fl.order_self_inf hr
      · exact Fl.order_self_num hr
    have hneg : Fl.of (Op.negFloat .f64 f) = (-(Fl.of f).1, (Fl.of f).2) := Fl.of_neg f hf
    by_cases hok : (Fl.of f).2 = 0
    · obtain ⟨s, v, hv⟩ := Fl.num_of_ok hok
      obtain ⟨p, hp, hn, hb, he⟩ := Fl.of_ok hv hok
      obtain ⟨z, hz, ho⟩ := Fl.rest_order hn hb
      rw [← he] at hz
      obtain ⟨b1, b2⟩ := Fl.of_bd f
      have hof : Fl.of f = ((Fl.of f).1, 0) := by rw [← hok]
      refine dimenNear_ok f g p z (Fl.of f).1 (Fl.of g).1 (Fl.of g).2 w ht ((Fx.len_iff _).2 ⟨b1, b2⟩) hof (by rw [hneg, hok]) rfl hne ?_
        (fun W => run_float_arith W .mul 22 .f64 f _ p hp) (fun W => run_float_arith W .sub 22 .f64 _ p z hz) ho
      by_cases hi : (Fl.of g).2 = 0
      · right
        rcases Fl.order_cases hok hi with h1 | ⟨h1, h2⟩
        · left; exact ⟨by simpa using hi, h1⟩
        · right; exact ⟨by simpa using hi, h1, h2⟩
      · left; simpa using hi
    · obtain ⟨p, hp, h2, ho⟩ := Fl.of_over hnn hok
      exact dimenNear_over f g p (Fl.of g).1 (Fl.of g).2 w ht h2 (by rw [hneg, h2]; rfl) rfl hne (fun W => run_float_arith W .mul 22 .f64 f _ p hp) ho
end Go.Proofs.YtlfhnldeidgkjaaDoor
