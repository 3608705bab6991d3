/-
  The contract of the document's answer for layer 14, Get. No conditions beyond those stated.
-/
import Derived.Test.YtjeahgdefdlabaaInGet
import Derived.Test.YtjeahgdefdlabaaInRef
import Derived.Test.YtjeahgdefdlabaaCoRefGet2
import Derived.Test.YtjeahgdefdlabaaGkStep
import Derived.Deep.RegionLaw
namespace Ino
open Bn He
theorem fld_drop (s : List UInt8) (a p : Nat) (z : Int) : fld (s.drop a) p z = fld s (a + p) z := by unfold fld; rw [List.drop_drop]
theorem zip_all (t : List UInt8) (g : List Int) : (zip t g).take g.length = zip t g := List.take_of_length_le (by rw [zip_len]; omega)
theorem zip_take_len (t : List UInt8) (g : List Int) {k : Nat} (hk : k ≤ g.length) : ((zip t g).take k).length = k := by rw [List.length_take, zip_len]; omega
end Ino
namespace Go.Proofs.Ytjeahgdefdlabaa
open Go.RowKit

/-- One, of two bytes that stand at a place. -/
theorem rone14 (s : List UInt8) (x : Nat) (z v : Int) (W : World) (hz : z.natAbs = 2) (hv : He.fld s x z = v) :
    Calls Try.prog 19 #[.string ⟨((s.drop x).take 2).toArray⟩, .int .i64 z] W fun e w' => e = .returned (.int .i64 v) ∧ W = w' := by
  subst hv
  have h := rone_any ((s.drop x).take 2) z W (by rw [List.length_take]; omega)
  unfold He.fld
  rw [hz]
  exact h
theorem cut14 (s : List UInt8) (x : Nat) : (⟨s.toArray⟩ : ByteArray).extract x (x + 2) = ⟨((s.drop x).take 2).toArray⟩ := by rw [Gk.extract_list, Nat.add_sub_cancel_left]

set_option maxHeartbeats 400000 in
theorem riget_arg (s : ByteArray) (pos : Int) (w : World) (h : pos < 0) : Calls Try.prog 7 #[.string s, .int .i64 pos] w (GotPairs ([], 1) w) := by
  go_enter Try.func7, Try.ntmps7
  go_wp2_with fail
  go_ret2
  exact GotPairs.nil rfl (Lo.refl _)

set_option maxHeartbeats 400000 in
theorem riget_more (s : List UInt8) (pos : Nat) (w : World) (h : s.length < pos + 4) : Calls Try.prog 7 #[.string ⟨s.toArray⟩, .int .i64 (pos : Int)] w (GotPairs ([], 4) w) := by
  have h0 : ¬ (pos : Int) < 0 := by omega
  by_cases h1 : s.length < pos
  · have h2 : (s.length : Int) < (pos : Int) := by omega
    go_enter Try.func7, Try.ntmps7
    go_wp2_with fail
    go_ret2
    exact GotPairs.nil rfl (Lo.refl _)
  · have h2 : ¬ (s.length : Int) < (pos : Int) := by omega
    have h3 : (s.length : Int) - (pos : Int) < 4 := by omega
    go_enter Try.func7, Try.ntmps7
    go_wp2_with fail
    go_ret2
    exact GotPairs.nil rfl (Lo.refl _)

set_option maxHeartbeats 800000 in
theorem riget_few (s : List UInt8) (pos o n : Nat) (w : World) (hl : s.length ≤ 9223372036854000000) (h : pos + 4 ≤ s.length) (hn2 : n ≤ 65535) (_ho2 : o ≤ 65535) (ho : He.fld s pos 2 = (o : Int)) (hn : He.fld s (pos + 2) 2 = (n : Int)) (hm : s.length < pos + 4 + 4 * n) :
    Calls Try.prog 7 #[.string ⟨s.toArray⟩, .int .i64 (pos : Int)] w (GotPairs ([], 4) w) := by
  have h0 : ¬ (pos : Int) < 0 := by omega
  have h2 : ¬ (s.length : Int) < (pos : Int) := by omega
  have h3 : ¬ (s.length : Int) - (pos : Int) < 4 := by omega
  have hx0 := cut14 s pos
  have hx2 : (⟨s.toArray⟩ : ByteArray).extract (pos + 2) (pos + 4) = ⟨((s.drop (pos + 2)).take 2).toArray⟩ := cut14 s (pos + 2)
  have HO1 := Lib.hid (fun W => rone14 s pos 2 _ W rfl ho)
  have HO2 := Lib.hid (fun W => rone14 s (pos + 2) 2 _ W rfl hn)
  have b1 : (pos : Int) + 2 ≤ (s.length : Int) := by omega
  have b2 : (pos : Int) + 4 ≤ (s.length : Int) := by omega
  have h5 : (s.length : Int) - (pos : Int) < 4 + 4 * (n : Int) := by omega
  clear ho hn
  go_enter Try.func7, Try.ntmps7
  go_wp2_with fail
  refine (HO1.out _).mono ?_
  rintro e w1 ⟨rfl, rfl⟩
  go_wp2_with fail
  refine (HO2.out _).mono ?_
  rintro e w1 ⟨rfl, rfl⟩
  go_wp2_with fail
  go_ret2
  exact GotPairs.nil rfl (Lo.refl _)

set_option maxHeartbeats 800000 in
theorem riget_cover (s : List UInt8) (pos o n : Nat) (k : Int) (w : World) (hl : s.length ≤ 9223372036854000000) (h : pos + 4 ≤ s.length) (hn2 : n ≤ 65535) (ho2 : o ≤ 65535) (ho : He.fld s pos 2 = (o : Int)) (hn : He.fld s (pos + 2) 2 = (n : Int)) (hm : pos + 4 + 4 * n ≤ s.length) (hk : (Co.get s ((pos : Int) + (o : Int))).2 = k) (hk0 : k ≠ 0) :
    Calls Try.prog 7 #[.string ⟨s.toArray⟩, .int .i64 (pos : Int)] w (GotPairs ([], k) w) := by
  have h0 : ¬ (pos : Int) < 0 := by omega
  have h2 : ¬ (s.length : Int) < (pos : Int) := by omega
  have h3 : ¬ (s.length : Int) - (pos : Int) < 4 := by omega
  have hx0 := cut14 s pos
  have hx2 : (⟨s.toArray⟩ : ByteArray).extract (pos + 2) (pos + 4) = ⟨((s.drop (pos + 2)).take 2).toArray⟩ := cut14 s (pos + 2)
  have HO1 := Lib.hid (fun W => rone14 s pos 2 _ W rfl ho)
  have HO2 := Lib.hid (fun W => rone14 s (pos + 2) 2 _ W rfl hn)
  have b1 : (pos : Int) + 2 ≤ (s.length : Int) := by omega
  have b2 : (pos : Int) + 4 ≤ (s.length : Int) := by omega
  have h5 : ¬ (s.length : Int) - (pos : Int) < 4 + 4 * (n : Int) := by omega
  have HC := Lib.hid (fun W => rcget_any s ((pos : Int) + (o : Int)) W (by omega))
  unfold GotRow at HC
  rw [hk] at HC
  have hkb : (k == 0) = false := by simpa using hk0
  generalize (Co.get s ((pos : Int) + (o : Int))).1 = g at *
  generalize g.length = gn at *
  clear ho hn hk hk0
  go_enter Try.func7, Try.ntmps7
  go_wp2_with fail
  refine (HO1.out _).mono ?_
  rintro e w1 ⟨rfl, rfl⟩
  go_wp2_with fail
  refine (HO2.out _).mono ?_
  rintro e w1 ⟨rfl, rfl⟩
  go_wp2_with fail
  refine (HC.out _).mono ?_
  rintro e w3 ⟨p3, c3, rfl, hrow, lo⟩
  have HL4 := Lib.hid lo
  clear lo HC hrow
  go_wp2_with fail
  go_ret2
  exact GotPairs.nil rfl HL4.out

set_option maxHeartbeats 800000 in
theorem riget_form (s : List UInt8) (pos o n : Nat) (g : List Int) (w : World) (hl : s.length ≤ 9223372036854000000) (h : pos + 4 ≤ s.length) (hn2 : n ≤ 65535) (ho2 : o ≤ 65535) (ho : He.fld s pos 2 = (o : Int)) (hn : He.fld s (pos + 2) 2 = (n : Int)) (hm : pos + 4 + 4 * n ≤ s.length) (hk : Co.get s ((pos : Int) + (o : Int)) = (g, 0)) (hg : g.length ≠ n) :
    Calls Try.prog 7 #[.string ⟨s.toArray⟩, .int .i64 (pos : Int)] w (GotPairs ([], 5) w) := by
  have h0 : ¬ (pos : Int) < 0 := by omega
  have h2 : ¬ (s.length : Int) < (pos : Int) := by omega
  have h3 : ¬ (s.length : Int) - (pos : Int) < 4 := by omega
  have hx0 := cut14 s pos
  have hx2 : (⟨s.toArray⟩ : ByteArray).extract (pos + 2) (pos + 4) = ⟨((s.drop (pos + 2)).take 2).toArray⟩ := cut14 s (pos + 2)
  have HO1 := Lib.hid (fun W => rone14 s pos 2 _ W rfl ho)
  have HO2 := Lib.hid (fun W => rone14 s (pos + 2) 2 _ W rfl hn)
  have b1 : (pos : Int) + 2 ≤ (s.length : Int) := by omega
  have b2 : (pos : Int) + 4 ≤ (s.length : Int) := by omega
  have h5 : ¬ (s.length : Int) - (pos : Int) < 4 + 4 * (n : Int) := by omega
  have HC := Lib.hid (fun W => rcget_any s ((pos : Int) + (o : Int)) W (by omega))
  unfold GotRow at HC
  rw [hk] at HC
  dsimp only at HC
  generalize g.length = gn at *
  have hkb : ((gn : Int) == (n : Int)) = false := by rw [beq_eq_false_iff_ne]; omega
  clear ho hn hk hg
  go_enter Try.func7, Try.ntmps7
  go_wp2_with fail
  refine (HO1.out _).mono ?_
  rintro e w1 ⟨rfl, rfl⟩
  go_wp2_with fail
  refine (HO2.out _).mono ?_
  rintro e w1 ⟨rfl, rfl⟩
  go_wp2_with fail
  refine (HC.out _).mono ?_
  rintro e w3 ⟨p3, c3, rfl, hrow, lo⟩
  have HL4 := Lib.hid lo
  clear lo HC hrow
  go_wp2_with fail
  go_ret2
  exact GotPairs.nil rfl HL4.out

set_option maxRecDepth 100000 in
set_option maxHeartbeats 3200000 in
theorem riget_ok (s : List UInt8) (pos o n : Nat) (g : List Int) (w : World) (hl : s.length ≤ 9223372036854000000) (h : pos + 4 ≤ s.length) (hn2 : n ≤ 65535) (ho2 : o ≤ 65535) (ho : He.fld s pos 2 = (o : Int)) (hn : He.fld s (pos + 2) 2 = (n : Int)) (hm : pos + 4 + 4 * n ≤ s.length) (hk : Co.get s ((pos : Int) + (o : Int)) = (g, 0)) (hg : g.length = n) :
    Calls Try.prog 7 #[.string ⟨s.toArray⟩, .int .i64 (pos : Int)] w (GotPairs (Ino.zip (s.drop pos) g, 0) w) := by
  have h0 : ¬ (pos : Int) < 0 := by omega
  have h2 : ¬ (s.length : Int) < (pos : Int) := by omega
  have h3 : ¬ (s.length : Int) - (pos : Int) < 4 := by omega
  have hx0 := cut14 s pos
  have hx2 : (⟨s.toArray⟩ : ByteArray).extract (pos + 2) (pos + 4) = ⟨((s.drop (pos + 2)).take 2).toArray⟩ := cut14 s (pos + 2)
  have HO1 := Lib.hid (fun W => rone14 s pos 2 _ W rfl ho)
  have HO2 := Lib.hid (fun W => rone14 s (pos + 2) 2 _ W rfl hn)
  have b1 : (pos : Int) + 2 ≤ (s.length : Int) := by omega
  have b2 : (pos : Int) + 4 ≤ (s.length : Int) := by omega
  have h5 : ¬ (s.length : Int) - (pos : Int) < 4 + 4 * (n : Int) := by omega
  have HC := Lib.hid (fun W => rcget_any s ((pos : Int) + (o : Int)) W (by omega))
  unfold GotRow at HC
  rw [hk] at HC
  dsimp only at HC
  have HSt := Lib.hid (fun k (hk : k < g.length) => (by rw [Ino.zip_step (s.drop pos) hk, Ino.fld_drop, show pos + (4 + 4 * k) = pos + 4 + 4 * k by omega] : (Ino.zip (s.drop pos) g).take (k + 1) = (Ino.zip (s.drop pos) g).take k ++ [(g.getD k 0, He.fld s (pos + 4 + 4 * k) (-2))]))
  have HLn := Lib.hid (fun k (hk : k ≤ g.length) => Ino.zip_take_len (s.drop pos) g hk)
  have hzl := Ino.zip_len (s.drop pos) g
  have hal := Ino.zip_all (s.drop pos) g
  unfold GotPairs
  dsimp only
  rw [hg] at HC HSt HLn hzl hal
  rw [hzl]
  generalize Ino.zip (s.drop pos) g = R at *
  have HGl := Lib.hid hg
  have HAl := Lib.hid hal
  clear ho hn hk hg hzl hal
  go_enter Try.func7, Try.ntmps7
  go_wp2_with fail
  refine (HO1.out _).mono ?_
  rintro e w1 ⟨rfl, rfl⟩
  go_wp2_with fail
  refine (HO2.out _).mono ?_
  rintro e w1 ⟨rfl, rfl⟩
  go_wp2_with fail
  refine (HC.out _).mono ?_
  rintro e w3 ⟨p3, c3, rfl, hrow, lo⟩
  have HL3 := Lib.hid lo
  have HR3 := Lib.hid hrow
  clear lo HC hrow hx0 hx2 b1 b2 h3 h5
  go_wp2_with fail
  go_loopw [10, 11, 12] (fun u i _ W => ∃ (k : Nat) (p : Option Addr) (c : Nat), k ≤ n ∧ i = .int .i64 k ∧ u = .slice p k c ∧ Hid (OwnP W w3.heap.size (.slice p k c) (R.take k)) ∧ Hid (Lo w3 W)) (fun _ i _ _ => n - (intOf i).toNat)
  case atStart => exact ⟨0, none, 0, by omega, rfl, rfl, Lib.hid (OwnK.none _ _ _ _ _), Lib.hid (Lo.refl _)⟩
  case round =>
    obtain ⟨k, p, c, hk, rfl, rfl, HO, HLk⟩ := hrel
    by_cases hlt : k < n
    · obtain ⟨x, hx⟩ : ∃ x, pos + 4 + 4 * k = x := ⟨_, rfl⟩
      have hx1 : (pos : Int) + 4 + 4 * (k : Int) = (x : Int) := by omega
      have HSk := Lib.hid (HSt.out k hlt)
      rw [hx] at HSk
      have hxl : x + 2 ≤ s.length := by omega
      have hex := cut14 s x
      have HOne := Lib.hid (fun W => rone14 s x (-2) _ W rfl rfl)
      obtain ⟨b, off, rfl, c1⟩ := (HR3.out.lo HLk.out).at_ (k := k) (by omega)
      have HTL := Lib.hid (HLn.out k (by omega))
      generalize He.fld s x (-2) = xv at *
      generalize g.getD k 0 = yv at *
      generalize (s.drop x).take 2 = body at *
      have hx0 : (0 : Int) ≤ (x : Int) := by omega
      have hxa : (x : Int) ≤ (x : Int) + 2 := by omega
      have hxb : (x : Int) + 2 ≤ (s.length : Int) := by omega
      have hx3 : IntKind.i64.wrap (↑x + 2) = ↑x + 2 := IntWalk.i64_in _ (by omega)
      have hx4 : (0 : Int) ≤ ↑x + 2 := by omega
      have hx5 : ((x : Int) + 2).toNat = x + 2 := by omega
      have i0 : (0 : Int) ≤ (k : Int) := by omega
      have i1 : (k : Int) < (n : Int) := by omega
      clear hx
      go_wp2_with fail
      go_region_law (first
        | (show (if Region.wanted (Oper.mk _ (Op.call { callee := .builtin .append, args := _, argTypes := _ }) _ _ _ _) _ = true then _ else _)
           refine step_appK (enc := encP) rfl (.tmp 72) (.tmp 84) 22 rfl 35 2 16 (.agg #[.int .i64 0, .int .i64 0]) Try.underlying22 pair_info rfl (by omega) (by omega) encP_len encP_one w3.heap.size (.slice p k c) _ rfl (OwnK.lo HO.out (((Lo.refl _).drew).alloc _)) _ (yv, xv) rfl (fun j u hj => block_cell (new_block _ _) (by simpa [encP] using hj)) (by rw [HTL.out]; omega) (by have := HLk.out.size; simp; omega) ?_; intro q1 cq w5 hown hlo; have HO3 := Lib.hid hown; have HL5 := Lib.hid (hlo w3 (((HLk.out).drew).alloc _) (Nat.le_refl _)); clear hown hlo; rw [HTL.out] at HO3; rw [HTL.out])
        | (go_simp; go_at_call 19; refine (HOne.out _).mono ?_; rintro e w4 ⟨rfl, rfl⟩))
      all_goals
        clear hex hx3 hx4 hx5 hx1 hxa hxb c1 HOne
        go_wp2_with fail
        go_roundw
        case rel => exact ⟨k + 1, q1, cq, by omega, by go_num, rfl, Lib.hid (by rw [HSk.out]; exact HO3.out), HL5⟩
        case measure => simp [intOf]; omega
    · obtain rfl : k = n := by omega
      rw [HAl.out] at HO
      go_wp2_with fail
      go_ret2
      exact ⟨p, c, rfl, OwnK.row encP_len HO.out, HL3.out.trans HLk.out⟩

/-- Get. -/
theorem riget_any (s : List UInt8) (pos : Int) (w : World) (hs : s.length ≤ 9223372036854000000) :
    Calls Try.prog 7 #[.string ⟨s.toArray⟩, .int .i64 pos] w (GotPairs (Ino.get s pos) w) := by
  unfold Ino.get
  by_cases c1 : pos < 0
  · rw [if_pos c1]; exact riget_arg _ pos w c1
  · rw [if_neg c1]
    obtain ⟨q, rfl⟩ := Int.eq_ofNat_of_zero_le (show 0 ≤ pos by omega)
    rw [Int.toNat_natCast]
    by_cases c2 : s.length < q + 4
    · rw [if_pos (by omega)]; exact riget_more s q w c2
    · rw [if_neg (by omega)]
      obtain ⟨o, ho, ho2⟩ := Ino.word_nat (s.drop q) 0
      obtain ⟨n, hn, hn2⟩ := Ino.word_nat (s.drop q) 2
      rw [ho, hn]
      rw [Ino.fld_drop] at ho hn
      by_cases c3 : s.length < q + 4 + 4 * n
      · rw [if_pos (by omega)]; exact riget_few s q o n w hs (by omega) hn2 ho2 ho hn c3
      · rw [if_neg (by omega)]
        by_cases c4 : (Co.get s ((q : Int) + (o : Int))).2 = 0
        · rw [if_neg (by omega)]
          by_cases c5 : (Co.get s ((q : Int) + (o : Int))).1.length = n
          · rw [if_neg (by omega)]
            exact riget_ok s q o n _ w hs (by omega) hn2 ho2 ho hn (by omega) (Prod.ext rfl c4) c5
          · rw [if_pos (by omega)]
            exact riget_form s q o n _ w hs (by omega) hn2 ho2 ho hn (by omega) (Prod.ext rfl c4) c5
        · rw [if_pos c4]
          exact riget_cover s q o n _ w hs (by omega) hn2 ho2 ho hn (by omega) rfl c4
end Go.Proofs.Ytjeahgdefdlabaa
