/-
  The walk of the law DimenDoes: it returns true for every float, int and text. No conditions but that the package variable of powers of ten reads as it is laid.
-/
import Derived.Test.YtlfhnldeidgkjaaDoorDmRParseW
import Derived.Test.YtlfhnldeidgkjaaDoorDmLawBack
namespace Dm
open Go
theorem rend_cases (m : Bool) (v : Nat) : ∃ y : Int, (if m = true then -(v : Int) else (v : Int)) = y ∧ ((-1073741823 ≤ y ∧ y ≤ 1073741823 ∧ rend m v = (y, 0)) ∨ ((y < -1073741823 ∨ 1073741823 < y) ∧ rend m v = (0, 2))) := by
  refine ⟨_, rfl, ?_⟩
  unfold rend within
  generalize (if m = true then -(v : Int) else (v : Int)) = y
  by_cases h : -1073741823 ≤ y ∧ y ≤ 1073741823
  · rw [if_pos h]; exact .inl ⟨h.1, h.2, rfl⟩
  · rw [if_neg h]; exact .inr ⟨by omega, rfl⟩
end Dm
namespace Go.Proofs.YtlfhnldeidgkjaaDoor
open Go.RowKit

theorem ne_byte (c d : UInt8) (h : c ≠ d) : ((c.toNat : Int) == (d.toNat : Int)) = false := by
  rw [beq_eq_false_iff_ne]
  intro he
  exact h (UInt8.toNat_inj.1 (by omega))

theorem rbody_true (l r : List UInt8) (w : World) (hl : l.length ≤ 200) (hlr : l = 45 :: r) :
    Calls Tryd.prog 18 #[.string ⟨l.toArray⟩] w fun e w' => e = .returned (.tuple #[.int .i64 (Dm.rbody true r).1, .int .i64 (Dm.rbody true r).2]) ∧ w = w' := by
  have h0 : 0 < l.length := by rw [hlr]; simp
  have hg : l.getD 0 0 = 45 := by rw [hlr]; rfl
  have hx0 : (ByteArray.mk l.toArray).extract 1 l.length = ByteArray.mk r.toArray := by rw [Dm.extract_from, hlr]; rfl
  have hrl : r.length ≤ 200 := by rw [hlr] at hl; simp at hl; omega
  unfold Dm.rbody
  by_cases hs : Dm.digs r < 1 ∨ 5 < Dm.digs r
  · rw [if_pos hs]
    exact rp_short_true l r _ 45 w hl h0 hg rfl hx0 hrl rfl hs
  · rw [if_neg hs]
    obtain ⟨d1, d2⟩ := Dm.digs_take r
    have hle := Dm.digs_le r
    have hx1 : (ByteArray.mk r.toArray).extract 0 (Dm.digs r) = ByteArray.mk (r.take (Dm.digs r)).toArray := by rw [Dm.extract_list]; simp
    have hx2 : (ByteArray.mk r.toArray).extract (Dm.digs r) r.length = ByteArray.mk (r.drop (Dm.digs r)).toArray := Dm.extract_from _ _
    have hRl : (r.drop (Dm.digs r)).length ≤ 200 := by simp; omega
    generalize r.take (Dm.digs r) = D at *
    generalize r.drop (Dm.digs r) = R at *
    cases R with
    | nil => exact rp_nonebad_true l r D [] _ 45 w hl h0 hg rfl hx0 hrl rfl (by omega) (by omega) hle hx1 hx2 (by omega) d1 hRl rfl
    | cons c t =>
      simp only
      by_cases hc : c = 46
      · subst hc
        rw [if_pos rfl]
        by_cases hks : Dm.digs t < 1 ∨ 10 < Dm.digs t
        · rw [if_pos hks]
          exact rp_dotshort_true l r D _ t _ _ 45 w hl h0 hg rfl hx0 hrl rfl (by omega) (by omega) hle hx1 hx2 (by omega) d1 hRl rfl rfl hks
        · rw [if_neg hks]
          obtain ⟨f1, f2⟩ := Dm.digs_take t
          have hlt := Dm.digs_le t
          have hx3 : (ByteArray.mk (46 :: t).toArray).extract 1 (Dm.digs t + 1) = ByteArray.mk (t.take (Dm.digs t)).toArray := by rw [Dm.extract_list]; simp
          have hx4 : (ByteArray.mk (46 :: t).toArray).extract (Dm.digs t + 1) (46 :: t).length = ByteArray.mk (t.drop (Dm.digs t)).toArray := by rw [Dm.extract_from]; simp
          generalize t.take (Dm.digs t) = F at *
          generalize t.drop (Dm.digs t) = Q at *
          by_cases hq : Q = [112, 116]
          · rw [if_pos hq]
            obtain ⟨y, hy, ⟨y1, y2, he⟩ | ⟨y1, he⟩⟩ := Dm.rend_cases true (65536 * Dm.numv D + Dm.scaled (Dm.numv F) (Dm.digs t))
            · rw [he]
              exact rp_dotok_true l r D _ t F Q _ _ 45 w hl h0 hg rfl hx0 hrl rfl (by omega) (by omega) hle hx1 hx2 (by omega) d1 hRl rfl rfl (by omega) (by omega) (by simp; omega) hx3 hx4 f2 f1 (by rw [hq]; rfl) y hy (Fx.len_yes y1 y2)
            · rw [he]
              exact rp_dotover_true l r D _ t F Q _ _ 45 w hl h0 hg rfl hx0 hrl rfl (by omega) (by omega) hle hx1 hx2 (by omega) d1 hRl rfl rfl (by omega) (by omega) (by simp; omega) hx3 hx4 f2 f1 (by rw [hq]; rfl) y hy (Fx.len_not y1)
          · rw [if_neg hq]
            exact rp_dotbad_true l r D _ t F Q _ _ 45 w hl h0 hg rfl hx0 hrl rfl (by omega) (by omega) hle hx1 hx2 (by omega) d1 hRl rfl rfl (by omega) (by omega) (by simp; omega) hx3 hx4 f2 f1 (by simpa using hq)
      · rw [if_neg hc]
        by_cases hq : c :: t = [112, 116]
        · rw [if_pos hq]
          obtain ⟨y, hy, ⟨y1, y2, he⟩ | ⟨y1, he⟩⟩ := Dm.rend_cases true (65536 * Dm.numv D)
          · rw [he]
            exact rp_ok_true l r D _ _ 45 w hl h0 hg rfl hx0 hrl rfl (by omega) (by omega) hle hx1 hx2 (by omega) d1 hRl c t rfl (ne_byte c 46 hc) (by rw [hq]; rfl) y hy (Fx.len_yes y1 y2)
          · rw [he]
            exact rp_over_true l r D _ _ 45 w hl h0 hg rfl hx0 hrl rfl (by omega) (by omega) hle hx1 hx2 (by omega) d1 hRl c t rfl (ne_byte c 46 hc) (by rw [hq]; rfl) y hy (Fx.len_not y1)
        · rw [if_neg hq]
          exact rp_bad_true l r D _ _ 45 w hl h0 hg rfl hx0 hrl rfl (by omega) (by omega) hle hx1 hx2 (by omega) d1 hRl c t rfl (ne_byte c 46 hc) (beq_eq_false_iff_ne.2 hq)

theorem rbody_false (l : List UInt8) (c0 : UInt8) (t0 : List UInt8) (w : World) (hl : l.length ≤ 200) (hlr : l = c0 :: t0) (hc0 : c0 ≠ 45) :
    Calls Tryd.prog 18 #[.string ⟨l.toArray⟩] w fun e w' => e = .returned (.tuple #[.int .i64 (Dm.rbody false l).1, .int .i64 (Dm.rbody false l).2]) ∧ w = w' := by
  have h0 : 0 < l.length := by rw [hlr]; simp
  have hg : l.getD 0 0 = c0 := by rw [hlr]; rfl
  have hcb := ne_byte c0 45 hc0
  clear hlr hc0
  unfold Dm.rbody
  by_cases hs : Dm.digs l < 1 ∨ 5 < Dm.digs l
  · rw [if_pos hs]
    exact rp_short_false l _ c0 w hl h0 hg hcb rfl hs
  · rw [if_neg hs]
    obtain ⟨d1, d2⟩ := Dm.digs_take l
    have hle := Dm.digs_le l
    have hx1 : (ByteArray.mk l.toArray).extract 0 (Dm.digs l) = ByteArray.mk (l.take (Dm.digs l)).toArray := by rw [Dm.extract_list]; simp
    have hx2 : (ByteArray.mk l.toArray).extract (Dm.digs l) l.length = ByteArray.mk (l.drop (Dm.digs l)).toArray := Dm.extract_from _ _
    have hRl : (l.drop (Dm.digs l)).length ≤ 200 := by simp; omega
    generalize l.take (Dm.digs l) = D at *
    generalize l.drop (Dm.digs l) = R at *
    cases R with
    | nil => exact rp_nonebad_false l D [] _ c0 w hl h0 hg hcb rfl (by omega) (by omega) hle hx1 hx2 (by omega) d1 hRl rfl
    | cons c t =>
      simp only
      by_cases hc : c = 46
      · subst hc
        rw [if_pos rfl]
        by_cases hks : Dm.digs t < 1 ∨ 10 < Dm.digs t
        · rw [if_pos hks]
          exact rp_dotshort_false l D _ t _ _ c0 w hl h0 hg hcb rfl (by omega) (by omega) hle hx1 hx2 (by omega) d1 hRl rfl rfl hks
        · rw [if_neg hks]
          obtain ⟨f1, f2⟩ := Dm.digs_take t
          have hlt := Dm.digs_le t
          have hx3 : (ByteArray.mk (46 :: t).toArray).extract 1 (Dm.digs t + 1) = ByteArray.mk (t.take (Dm.digs t)).toArray := by rw [Dm.extract_list]; simp
          have hx4 : (ByteArray.mk (46 :: t).toArray).extract (Dm.digs t + 1) (46 :: t).length = ByteArray.mk (t.drop (Dm.digs t)).toArray := by rw [Dm.extract_from]; simp
          generalize t.take (Dm.digs t) = F at *
          generalize t.drop (Dm.digs t) = Q at *
          by_cases hq : Q = [112, 116]
          · rw [if_pos hq]
            obtain ⟨y, hy, ⟨y1, y2, he⟩ | ⟨y1, he⟩⟩ := Dm.rend_cases false (65536 * Dm.numv D + Dm.scaled (Dm.numv F) (Dm.digs t))
            · rw [he]
              exact rp_dotok_false l D _ t F Q _ _ c0 w hl h0 hg hcb rfl (by omega) (by omega) hle hx1 hx2 (by omega) d1 hRl rfl rfl (by omega) (by omega) (by simp; omega) hx3 hx4 f2 f1 (by rw [hq]; rfl) y hy (Fx.len_yes y1 y2)
            · rw [he]
              exact rp_dotover_false l D _ t F Q _ _ c0 w hl h0 hg hcb rfl (by omega) (by omega) hle hx1 hx2 (by omega) d1 hRl rfl rfl (by omega) (by omega) (by simp; omega) hx3 hx4 f2 f1 (by rw [hq]; rfl) y hy (Fx.len_not y1)
          · rw [if_neg hq]
            exact rp_dotbad_false l D _ t F Q _ _ c0 w hl h0 hg hcb rfl (by omega) (by omega) hle hx1 hx2 (by omega) d1 hRl rfl rfl (by omega) (by omega) (by simp; omega) hx3 hx4 f2 f1 (by simpa using hq)
      · rw [if_neg hc]
        by_cases hq : c :: t = [112, 116]
        · rw [if_pos hq]
          obtain ⟨y, hy, ⟨y1, y2, he⟩ | ⟨y1, he⟩⟩ := Dm.rend_cases false (65536 * Dm.numv D)
          · rw [he]
            exact rp_ok_false l D _ _ c0 w hl h0 hg hcb rfl (by omega) (by omega) hle hx1 hx2 (by omega) d1 hRl c t rfl (ne_byte c 46 hc) (by rw [hq]; rfl) y hy (Fx.len_yes y1 y2)
          · rw [he]
            exact rp_over_false l D _ _ c0 w hl h0 hg hcb rfl (by omega) (by omega) hle hx1 hx2 (by omega) d1 hRl c t rfl (ne_byte c 46 hc) (by rw [hq]; rfl) y hy (Fx.len_not y1)
        · rw [if_neg hq]
          exact rp_bad_false l D _ _ c0 w hl h0 hg hcb rfl (by omega) (by omega) hle hx1 hx2 (by omega) d1 hRl c t rfl (ne_byte c 46 hc) (beq_eq_false_iff_ne.2 hq)

theorem rparse_any (l : List UInt8) (w : World) (hl : l.length ≤ 200) :
    Calls Tryd.prog 18 #[.string ⟨l.toArray⟩] w fun e w' => e = .returned (.tuple #[.int .i64 (Dm.parse l).1, .int .i64 (Dm.parse l).2]) ∧ w = w' := by
  rw [← Dm.rparse_eq]
  cases l with
  | nil => exact rp_nil w
  | cons c t =>
    rw [Dm.rparse_cons]
    by_cases hc : c = 45
    · subst hc
      rw [if_pos rfl]
      exact rbody_true _ t w hl rfl
    · rw [if_neg hc]
      exact rbody_false (c :: t) c t w hl rfl hc

set_option maxHeartbeats 400000 in
theorem dimenDoes_long (f : Nat) (a : Int) (s : ByteArray) (w : World) (h : 200 < s.size) (hs : s.size ≤ 9223372036854775807) :
    Calls Tryd.prog 3 #[.float .f64 f, .int .i64 a, .string s] w fun e w' => e = .returned (.bool true) ∧ Lo w w' := by
  go_enter Tryd.func3, Tryd.ntmps3
  go_wp2_with fail
  go_ret
  exact ⟨rfl, Lo.refl _⟩

set_option maxHeartbeats 3200000 in
theorem dimenDoes_short (f : Nat) (a : Int) (l tx : List UInt8) (x : Nat) (b e c2 k2 d j p q : Int) (w : World) (ht : Tab w) (hl : l.length ≤ 200)
    (h1 : Fl.of f = (b, e)) (h5 : Dm.parse l = (p, q))
    (hF : ∀ W, Calls Tryd.prog 11 #[.int .i64 a] W fun e w' => e = .returned (.tuple #[.float .f64 x, .int .i64 c2]) ∧ Lo W w') (hFr : ∀ W, Calls Tryd.prog 12 #[.int .i64 a] W fun e w' => e = .returned (.tuple #[.float .f64 x, .int .i64 c2]) ∧ W = w')
    (hS : ∀ W, Calls Tryd.prog 13 #[.int .i64 a, .float .f64 f] W fun e w' => e = .returned (.tuple #[.int .i64 d, .int .i64 j]) ∧ Lo W w') (hSr : ∀ W, Calls Tryd.prog 14 #[.int .i64 a, .float .f64 f] W fun e w' => e = .returned (.tuple #[.int .i64 d, .int .i64 j]) ∧ Lo W w')
    (hT : ∀ W, Tab W → Calls Tryd.prog 15 #[.int .i64 a] W fun e w' => e = .returned (.tuple #[.string ⟨tx.toArray⟩, .int .i64 k2]) ∧ Lo W w') (hTr : ∀ W, Calls Tryd.prog 16 #[.int .i64 a] W fun e w' => e = .returned (.tuple #[.string ⟨tx.toArray⟩, .int .i64 k2]) ∧ Lo W w') :
    Calls Tryd.prog 3 #[.float .f64 f, .int .i64 a, .string ⟨l.toArray⟩] w fun e w' => e = .returned (.bool true) ∧ Lo w w' := by
  have HT := Lib.hid ht
  have HO := Lib.hid (fun W => of_any f W)
  have HOr := Lib.hid (fun W => rof_any f W)
  have HP := Lib.hid (fun W => parse_any l W (by omega))
  have HPr := Lib.hid (fun W => rparse_any l W hl)
  rw [h1] at HO HOr
  rw [h5] at HP HPr
  have HF := Lib.hid hF
  have HFr := Lib.hid hFr
  have HS := Lib.hid hS
  have HSr := Lib.hid hSr
  have HX := Lib.hid hT
  have HXr := Lib.hid hTr
  have e1 : (b == b) = true := by simp
  have e2 : (e == e) = true := by simp
  have e3 : (c2 == c2) = true := by simp
  have e4 : (d == d) = true := by simp
  have e5 : (j == j) = true := by simp
  have e6 : (k2 == k2) = true := by simp
  have e7 : (p == p) = true := by simp
  have e8 : (q == q) = true := by simp
  have e9 : (tx == tx) = true := by simp
  clear ht h1 h5 hF hFr hS hSr hT hTr
  go_enter Tryd.func3, Tryd.ntmps3
  go_wp2_with fail
  refine (HO.out _).mono ?_
  rintro e w1 ⟨rfl, L1⟩
  go_wp2_with fail
  refine (HOr.out _).mono ?_
  rintro e w2 ⟨rfl, L2⟩
  have M2 := L1.trans L2
  clear L1 L2
  go_wp2_with fail
  refine (HF.out _).mono ?_
  rintro e w3 ⟨rfl, L3⟩
  have M3 := M2.trans L3
  clear M2 L3
  go_wp2_with fail
  refine (HFr.out _).mono ?_
  rintro e w4 ⟨rfl, rfl⟩
  go_wp2_with fail
  refine (HS.out _).mono ?_
  rintro e w5 ⟨rfl, L5⟩
  have M5 := M3.trans L5
  clear M3 L5
  go_wp2_with fail
  refine (HSr.out _).mono ?_
  rintro e w6 ⟨rfl, L6⟩
  have M6 := M5.trans L6
  clear M5 L6
  go_wp2_with fail
  refine (HX.out _ (HT.out.lo M6)).mono ?_
  rintro e w7 ⟨rfl, L7⟩
  have M7 := M6.trans L7
  clear M6 L7
  go_wp2_with fail
  refine (HXr.out _).mono ?_
  rintro e w8 ⟨rfl, L8⟩
  have M8 := M7.trans L8
  clear M7 L8
  go_wp2_with fail
  refine (HP.out _).mono ?_
  rintro e w9 ⟨rfl, L9⟩
  have M9 := M8.trans L9
  clear M8 L9
  go_wp2_with fail
  refine (HPr.out _).mono ?_
  rintro e w10 ⟨rfl, rfl⟩
  go_wp2_with fail
  refine (told_any _ (HT.out.lo M9)).mono ?_
  rintro e w11 ⟨rfl, L11⟩
  have M11 := M9.trans L11
  clear M9 L11
  go_wp2_with fail
  refine (same_yes x _).mono ?_
  rintro e w12 ⟨rfl, rfl⟩
  go_wp2_with fail
  go_ret
  exact ⟨by simp, M11⟩

theorem dimenDoes_walk (f : Nat) (a : Int) (s : ByteArray) (_w0 : (Lit.float .f64 f).wf = true) (_w1 : (Lit.int .i64 a).wf = true) (w2 : s.size ≤ maxLen) (w : World) (ht : Tab w) :
    Calls Tryd.prog 3 #[.float .f64 f, .int .i64 a, .string s] w fun e w' => e = .returned (.bool true) ∧ Below w.heap.size w w' := by
  unfold maxLen at w2
  by_cases hs : 200 < s.size
  · exact dimenDoes_long f a s w hs (by omega)
  · have hl : s.data.toList.length ≤ 200 := by
      have : s.data.toList.length = s.size := Array.length_toList
      omega
    have hse : s = ⟨s.data.toList.toArray⟩ := by
      apply ByteArray.ext; simp
    rw [hse]
    generalize s.data.toList = l at *
    by_cases h : Fx.len a = true
    · obtain ⟨b1, b2⟩ := (Fx.len_iff a).1 h
      have hn : a.natAbs ≤ 1073741823 := by omega
      obtain ⟨x, hx, _⟩ := Fl.float_back a hn
      exact dimenDoes_short f a l (Dm.text a) x _ _ 0 0 _ _ _ _ w ht hl rfl rfl (fun W => float_yes a x W h hx) (fun W => rfloat_yes a x W h hx) (fun W => scale_yes a f W h) (fun W => rscale_yes a f W h) (fun W hW => text_yes a W h hW) (fun W => rtext_yes a W h)
    · have h' : Fx.len a = false := by simpa using h
      exact dimenDoes_short f a l [] 0 _ _ 1 1 0 1 _ _ w ht hl rfl rfl (fun W => float_no a W h') (fun W => rfloat_no a W h') (fun W => scale_no a f W h') (fun W => rscale_no a f W h') (fun W _ => text_no a W h') (fun W => rtext_no a W h')
end Go.Proofs.YtlfhnldeidgkjaaDoor
