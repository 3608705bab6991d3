/-
  The contract of info.Get: it answers what the plain function on bytes says. No conditions beyond those stated.
-/
import Derived.Test.YtjeahgdefdlabaaInRow
import Derived.Test.YtjeahgdefdlabaaBnPieceW
import Derived.Test.YtjeahgdefdlabaaCoGet
import Derived.StillTailTactics
namespace Ino
open Bn He
theorem word_nat (s : List UInt8) (p : Nat) : ∃ n : Nat, fld s p 2 = (n : Int) ∧ n ≤ 65535 := by
  have h := Co.word_bd s p
  unfold Co.word at h
  obtain ⟨n, hn⟩ := Int.eq_ofNat_of_zero_le h.1
  exact ⟨n, hn, by omega⟩
end Ino
namespace Go.Proofs.Ytjeahgdefdlabaa
open Go.RowKit

/-- Pairs and an error, told. -/
def GotPairs (a : List Ino.Pair × Int) (w : World) (e : Ending) (w' : World) : Prop := ∃ p c, e = .returned (.tuple #[.slice p a.1.length c, .int .i64 a.2]) ∧ PRow w' (.slice p a.1.length c) a.1 ∧ Lo w w'
theorem GotPairs.nil {w w' : World} {k : Int} {e : Ending} (he : e = .returned (.tuple #[.slice none 0 0, .int .i64 k])) (h : Lo w w') : GotPairs ([], k) w e w' := by
  subst he
  exact ⟨none, 0, rfl, .inl ⟨_, _, rfl, fun _ => rfl, rfl⟩, h⟩

set_option maxHeartbeats 800000 in
theorem iget_head (s : List UInt8) (pos k : Int) (w : World) (hl : s.length ≤ 9223372036854775807) (h1 : pos ≤ 9223372036854775807) (hb : Bn.get s pos [2, 2] = ([], k)) (h0 : k ≠ 0) :
    Calls Try.prog 6 #[.string ⟨s.toArray⟩, .int .i64 pos] w (GotPairs ([], k) w) := by
  have HG := Lib.hid (fun v W (h : Row W v [2, 2]) => get_any s pos v [2, 2] W h (by decide) hl h1)
  rw [hb] at HG
  unfold GotRow at HG
  have hkb : (k == 0) = false := by simpa using h0
  clear hb h0 hl h1
  go_enter Try.func6, Try.ntmps6
  go_wp2_with fail
  refine (HG.out _ _ (row2 w _ (by simp) 2 2)).mono ?_
  rintro e w1 ⟨p, c, rfl, hrow, lo⟩
  have HL := Lib.hid (((Lo.refl w).alloc _).trans lo)
  clear hrow lo HG
  dsimp only
  go_wp2_with fail
  go_ret2
  exact GotPairs.nil rfl HL.out

set_option maxHeartbeats 1600000 in
theorem iget_piece (s : List UInt8) (pos o n : Nat) (w : World) (hl : s.length ≤ 9223372036854775807) (h4 : pos + 4 ≤ s.length) (hn : n ≤ 65535) (hb : Bn.get s pos [2, 2] = ([(o : Int), (n : Int)], 0)) (hf : s.length < pos + 4 + 4 * n) :
    Calls Try.prog 6 #[.string ⟨s.toArray⟩, .int .i64 (pos : Int)] w (GotPairs ([], 4) w) := by
  have HG := Lib.hid (fun v W (h : Row W v [2, 2]) => get_any s pos v [2, 2] W h (by decide) hl (by omega))
  rw [hb] at HG
  unfold GotRow at HG
  have HP := Lib.hid (fun W => bpiece_any s ((pos : Int) + 4) (4 * (n : Int)) W hl (by omega))
  rw [show Bn.piece s ((pos : Int) + 4) (4 * (n : Int)) = ([], 4) by unfold Bn.piece; rw [if_neg (by omega), if_pos (by omega)]] at HP
  unfold strErr at HP
  clear hb hf
  go_enter Try.func6, Try.ntmps6
  go_wp2_with fail
  refine (HG.out _ _ (row2 w _ (by simp) 2 2)).mono ?_
  rintro e w1 ⟨p, c, rfl, hrow, lo⟩
  have HL := Lib.hid (((Lo.refl w).alloc _).trans lo)
  obtain ⟨b, off, rfl, c0⟩ := hrow.at_ (k := 0) (by simp)
  obtain ⟨b', off', he, c1⟩ := hrow.at_ (k := 1) (by simp)
  simp only [Option.some.injEq, Addr.mk.injEq, and_true] at he
  obtain ⟨rfl, rfl⟩ := he
  rw [Nat.add_zero] at c0
  rw [show ([(o : Int), (n : Int)] : List Int).getD 0 0 = (o : Int) from rfl] at c0
  rw [show ([(o : Int), (n : Int)] : List Int).getD 1 0 = (n : Int) from rfl] at c1
  clear hrow lo HG
  dsimp only [List.length_cons, List.length_nil, Nat.reduceAdd]
  go_wp2_with fail
  go_quiet (fail)
  have HL2 := Lib.hid (HL.out.drewN nq)
  clear c0 c1
  go_wp2_with fail
  refine (HP.out _).mono ?_
  rintro e w2 ⟨rfl, lo⟩
  have HL3 := Lib.hid (HL2.out.trans lo)
  clear lo
  go_wp2_with fail
  go_ret2
  exact GotPairs.nil rfl HL3.out

set_option maxHeartbeats 1600000 in
theorem iget_cover (s : List UInt8) (pos o n : Nat) (k : Int) (w : World) (hl : s.length ≤ 9223372036854775807) (h4 : pos + 4 + 4 * n ≤ s.length) (hn : n ≤ 65535) (ho : o ≤ 65535) (hs : s.length ≤ 9223372036854000000) (hb : Bn.get s pos [2, 2] = ([(o : Int), (n : Int)], 0)) (hk : (Co.get s ((pos : Int) + (o : Int))).2 = k) (h0 : k ≠ 0) :
    Calls Try.prog 6 #[.string ⟨s.toArray⟩, .int .i64 (pos : Int)] w (GotPairs ([], k) w) := by
  have HG := Lib.hid (fun v W (h : Row W v [2, 2]) => get_any s pos v [2, 2] W h (by decide) hl (by omega))
  rw [hb] at HG
  unfold GotRow at HG
  have HP := Lib.hid (fun W => bpiece_any s ((pos : Int) + 4) (4 * (n : Int)) W hl (by omega))
  rw [show Bn.piece s ((pos : Int) + 4) (4 * (n : Int)) = (((s.drop pos).drop 4).take (4 * n), 0) by
    unfold Bn.piece
    rw [if_neg (by omega), if_neg (by omega), List.drop_drop, show ((pos : Int) + 4).toNat = pos + 4 by omega, show (4 * (n : Int)).toNat = 4 * n by omega]] at HP
  unfold strErr at HP
  have HC := Lib.hid (fun W => coget_any s ((pos : Int) + (o : Int)) W hl (by omega))
  unfold GotRow at HC
  rw [hk] at HC
  have hkb : (k == 0) = false := by simpa using h0
  generalize (Co.get s ((pos : Int) + (o : Int))).1 = g at *
  generalize ((s.drop pos).drop 4).take (4 * n) = vs at *
  generalize g.length = gn at *
  clear hb hk h0
  go_enter Try.func6, Try.ntmps6
  go_wp2_with fail
  refine (HG.out _ _ (row2 w _ (by simp) 2 2)).mono ?_
  rintro e w1 ⟨p, c, rfl, hrow, lo⟩
  have HL := Lib.hid (((Lo.refl w).alloc _).trans lo)
  obtain ⟨b, off, rfl, c0⟩ := hrow.at_ (k := 0) (by simp)
  obtain ⟨b', off', he, c1⟩ := hrow.at_ (k := 1) (by simp)
  simp only [Option.some.injEq, Addr.mk.injEq, and_true] at he
  obtain ⟨rfl, rfl⟩ := he
  rw [Nat.add_zero] at c0
  rw [show ([(o : Int), (n : Int)] : List Int).getD 0 0 = (o : Int) from rfl] at c0
  rw [show ([(o : Int), (n : Int)] : List Int).getD 1 0 = (n : Int) from rfl] at c1
  clear hrow lo HG
  dsimp only [List.length_cons, List.length_nil, Nat.reduceAdd]
  go_wp2_with fail
  go_quiet (fail)
  have HL2 := Lib.hid (HL.out.drewN nq)
  clear c0 c1
  go_wp2_with fail
  refine (HP.out _).mono ?_
  rintro e w2 ⟨rfl, lo⟩
  have HL3 := Lib.hid (HL2.out.trans lo)
  clear lo HP HL2 HL
  go_wp2_with fail
  refine (HC.out _).mono ?_
  rintro e w3 ⟨p3, c3, rfl, hrow, lo⟩
  have HL4 := Lib.hid (HL3.out.trans lo)
  have HR4 := Lib.hid hrow
  clear lo HC HL3 hrow
  go_wp2_with fail
  go_ret2
  exact GotPairs.nil rfl HL4.out

set_option maxHeartbeats 1600000 in
theorem iget_form (s : List UInt8) (pos o n : Nat) (g : List Int) (w : World) (hl : s.length ≤ 9223372036854775807) (h4 : pos + 4 + 4 * n ≤ s.length) (hn : n ≤ 65535) (ho : o ≤ 65535) (hs : s.length ≤ 9223372036854000000) (hb : Bn.get s pos [2, 2] = ([(o : Int), (n : Int)], 0)) (hk : Co.get s ((pos : Int) + (o : Int)) = (g, 0)) (h0 : g.length ≠ n) :
    Calls Try.prog 6 #[.string ⟨s.toArray⟩, .int .i64 (pos : Int)] w (GotPairs ([], 5) w) := by
  have HG := Lib.hid (fun v W (h : Row W v [2, 2]) => get_any s pos v [2, 2] W h (by decide) hl (by omega))
  rw [hb] at HG
  unfold GotRow at HG
  have HP := Lib.hid (fun W => bpiece_any s ((pos : Int) + 4) (4 * (n : Int)) W hl (by omega))
  rw [show Bn.piece s ((pos : Int) + 4) (4 * (n : Int)) = (((s.drop pos).drop 4).take (4 * n), 0) by
    unfold Bn.piece
    rw [if_neg (by omega), if_neg (by omega), List.drop_drop, show ((pos : Int) + 4).toNat = pos + 4 by omega, show (4 * (n : Int)).toNat = 4 * n by omega]] at HP
  unfold strErr at HP
  have HC := Lib.hid (fun W => coget_any s ((pos : Int) + (o : Int)) W hl (by omega))
  unfold GotRow at HC
  rw [hk] at HC
  dsimp only at HC
  generalize ((s.drop pos).drop 4).take (4 * n) = vs at *
  generalize g.length = gn at *
  have hkb : ((gn : Int) == (n : Int)) = false := by rw [beq_eq_false_iff_ne]; omega
  clear hb hk h0
  go_enter Try.func6, Try.ntmps6
  go_wp2_with fail
  refine (HG.out _ _ (row2 w _ (by simp) 2 2)).mono ?_
  rintro e w1 ⟨p, c, rfl, hrow, lo⟩
  have HL := Lib.hid (((Lo.refl w).alloc _).trans lo)
  obtain ⟨b, off, rfl, c0⟩ := hrow.at_ (k := 0) (by simp)
  obtain ⟨b', off', he, c1⟩ := hrow.at_ (k := 1) (by simp)
  simp only [Option.some.injEq, Addr.mk.injEq, and_true] at he
  obtain ⟨rfl, rfl⟩ := he
  rw [Nat.add_zero] at c0
  rw [show ([(o : Int), (n : Int)] : List Int).getD 0 0 = (o : Int) from rfl] at c0
  rw [show ([(o : Int), (n : Int)] : List Int).getD 1 0 = (n : Int) from rfl] at c1
  clear hrow lo HG
  dsimp only [List.length_cons, List.length_nil, Nat.reduceAdd]
  go_wp2_with fail
  go_quiet (fail)
  have HL2 := Lib.hid (HL.out.drewN nq)
  clear c0 c1
  go_wp2_with fail
  refine (HP.out _).mono ?_
  rintro e w2 ⟨rfl, lo⟩
  have HL3 := Lib.hid (HL2.out.trans lo)
  clear lo HP HL2 HL
  go_wp2_with fail
  refine (HC.out _).mono ?_
  rintro e w3 ⟨p3, c3, rfl, hrow, lo⟩
  have HL4 := Lib.hid (HL3.out.trans lo)
  have HR4 := Lib.hid hrow
  clear lo HC HL3 hrow
  go_wp2_with fail
  go_ret2
  exact GotPairs.nil rfl HL4.out

set_option maxRecDepth 100000 in
set_option maxHeartbeats 3200000 in
theorem iget_ok (s : List UInt8) (pos o n : Nat) (g : List Int) (w : World) (hl : s.length ≤ 9223372036854775807) (h4 : pos + 4 + 4 * n ≤ s.length) (hn : n ≤ 65535) (ho : o ≤ 65535) (hs : s.length ≤ 9223372036854000000) (hb : Bn.get s pos [2, 2] = ([(o : Int), (n : Int)], 0)) (hk : Co.get s ((pos : Int) + (o : Int)) = (g, 0)) (h0 : g.length = n) :
    Calls Try.prog 6 #[.string ⟨s.toArray⟩, .int .i64 (pos : Int)] w (GotPairs (Ino.zip (s.drop pos) g, 0) w) := by
  have HG := Lib.hid (fun v W (h : Row W v [2, 2]) => get_any s pos v [2, 2] W h (by decide) hl (by omega))
  rw [hb] at HG
  unfold GotRow at HG
  have HP := Lib.hid (fun W => bpiece_any s ((pos : Int) + 4) (4 * (n : Int)) W hl (by omega))
  rw [show Bn.piece s ((pos : Int) + 4) (4 * (n : Int)) = (((s.drop pos).drop 4).take (4 * n), 0) by
    unfold Bn.piece
    rw [if_neg (by omega), if_neg (by omega), List.drop_drop, show ((pos : Int) + 4).toNat = pos + 4 by omega, show (4 * (n : Int)).toNat = 4 * n by omega]] at HP
  unfold strErr at HP
  have HC := Lib.hid (fun W => coget_any s ((pos : Int) + (o : Int)) W hl (by omega))
  unfold GotRow at HC
  rw [hk] at HC
  dsimp only at HC
  obtain ⟨X, hX⟩ : ∃ X : Nat → Int, ∀ k, He.fld (s.drop pos) (4 + 4 * k) (-2) = X k := ⟨_, fun _ => rfl⟩
  have HV := Lib.hid (fun i (hi : i < n) (v : Value) W (h : Row W v [-2]) => by
    have h1 := get_any (((s.drop pos).drop 4).take (4 * n)) ((4 * i : Nat) : Int) v [-2] W h (by decide) (by rw [List.length_take, List.length_drop, List.length_drop]; omega) (by omega)
    rw [Ino.bin_val (s.drop pos) hi (by rw [List.length_drop]; omega), hX] at h1
    unfold GotRow at h1
    dsimp only [List.length_cons, List.length_nil, Nat.reduceAdd] at h1
    rw [show ((4 * i : Nat) : Int) = 4 * (i : Int) by omega] at h1
    exact h1)
  have HSt := Lib.hid (fun k (hk : k < g.length) => (by rw [← hX]; exact Ino.laid_step (s.drop pos) (g := g) hk : (Ino.laid (s.drop pos) g k).set k (g.getD k 0, X k) = Ino.laid (s.drop pos) g (k + 1)))
  have HLn := Lib.hid (fun k (hk : k ≤ g.length) => Ino.laid_len (s.drop pos) g (k := k) hk)
  have HZ : Hid (Ino.laid (s.drop pos) g 0 = List.replicate n Ino.zp) := Lib.hid (by rw [Ino.laid_start, h0])
  have HAl : Hid (Ino.laid (s.drop pos) g n = Ino.zip (s.drop pos) g) := Lib.hid (by rw [← h0]; exact Ino.laid_all _ _)
  have hzl := Ino.zip_len (s.drop pos) g
  unfold GotPairs
  dsimp only
  rw [hzl, h0]
  rw [h0] at HC HSt HLn
  generalize Ino.zip (s.drop pos) g = R at *
  generalize Ino.laid (s.drop pos) g = L at *
  generalize ((s.drop pos).drop 4).take (4 * n) = vs at *
  have HGl := Lib.hid h0
  have hmk := fun W => madeP_run n (by omega) W
  clear hb hk h0 hzl hX
  go_enter Try.func6, Try.ntmps6
  go_wp2_with fail
  refine (HG.out _ _ (row2 w _ (by simp) 2 2)).mono ?_
  rintro e w1 ⟨p, c, rfl, hrow, lo⟩
  have HL := Lib.hid (((Lo.refl w).alloc _).trans lo)
  obtain ⟨b, off, rfl, c0⟩ := hrow.at_ (k := 0) (by simp)
  obtain ⟨b', off', he, c1⟩ := hrow.at_ (k := 1) (by simp)
  simp only [Option.some.injEq, Addr.mk.injEq, and_true] at he
  obtain ⟨rfl, rfl⟩ := he
  rw [Nat.add_zero] at c0
  rw [show ([(o : Int), (n : Int)] : List Int).getD 0 0 = (o : Int) from rfl] at c0
  rw [show ([(o : Int), (n : Int)] : List Int).getD 1 0 = (n : Int) from rfl] at c1
  clear hrow lo HG
  dsimp only [List.length_cons, List.length_nil, Nat.reduceAdd]
  go_wp2_with fail
  go_quiet (fail)
  have HL2 := Lib.hid (HL.out.drewN nq)
  clear c0 c1
  go_wp2_with fail
  refine (HP.out _).mono ?_
  rintro e w2 ⟨rfl, lo⟩
  have HL3 := Lib.hid (HL2.out.trans lo)
  clear lo HP HL2 HL
  go_wp2_with fail
  refine (HC.out _).mono ?_
  rintro e w3 ⟨p3, c3, rfl, hrow, lo⟩
  have HL4 := Lib.hid (HL3.out.trans lo)
  have HR4 := Lib.hid hrow
  clear lo HC HL3 hrow
  go_wp2_with fail
  have HM := Lib.hid (madeP_at n w3)
  have HLm := Lib.hid (madeP_lo n w3)
  generalize madeP n w3 = w4 at *
  clear hmk
  generalize hG : w3.heap.size = B at *
  have HGs := Lib.hid hG
  clear hG
  go_loopw [13, 14, 15, 62] (fun _ _ _ i W => ∃ (k : Nat), k ≤ n ∧ i = .int .i64 k ∧ Hid (PAt W B 35 (L k)) ∧ Hid (Lo w3 W)) (fun _ _ _ i _ => n - (intOf i).toNat)
  case atStart => exact ⟨0, by omega, rfl, Lib.hid (by rw [HZ.out]; exact HM.out), HLm⟩
  case round =>
    obtain ⟨k, hk, rfl, HA, HLk⟩ := hrel
    by_cases hlt : k < n
    · have HVk := Lib.hid (HV.out k hlt)
      go_wp2_with fail
      refine (HVk.out _ _ (row1 _ _ (by simp) (-2))).mono ?_
      rintro e w5 ⟨p5, c5, rfl, hrow, lo⟩
      have HL5 := Lib.hid ((HLk.out.alloc _).trans lo)
      have HA5 := Lib.hid (HA.out.lo (((Lo.refl _).alloc _).trans lo))
      obtain ⟨b5, off5, rfl, c1⟩ := hrow.at_ (k := 0) (by simp)
      rw [Nat.add_zero] at c1
      obtain ⟨b6, off6, rfl, c2⟩ := (HR4.out.lo HL5.out).at_ (k := k) (by omega)
      have HS := Lib.hid (HSt.out k hlt)
      clear hrow lo HVk
      rw [show ([X k] : List Int).getD 0 0 = X k from rfl] at c1
      generalize X k = x at *
      generalize g.getD k 0 = y at *
      go_wp2_with fail
      go_still_tail 11, (by kernel_rfl)
      change wpList _ _ _ _ _ w5.drew
      have HL6 := Lib.hid HL5.out.drew
      have HA6 := Lib.hid (HA5.out.lo (Lo.refl w5).drew)
      generalize w5.drew = w6 at *
      have o0 := HA6.out.cell (i := k) (Ino.getD_some (by rw [HLn.out k (by omega)]; omega)) (j := 0) (by omega)
      have o1 := HA6.out.cell (i := k) (Ino.getD_some (by rw [HLn.out k (by omega)]; omega)) (j := 1) (by omega)
      have f0 := HA6.out.frozen (k * 2)
      have f1 := HA6.out.frozen (k * 2 + 1)
      have HA7 := Lib.hid (HA6.out.set k y x)
      rw [HS.out] at HA7
      have HL7 := Lib.hid ((HL6.out.set (p := ⟨B, k * 2, none⟩) (by rw [HGs.out]; exact Nat.le_refl _) (.int .i64 y)).set (p := ⟨B, k * 2 + 1, none⟩) (by rw [HGs.out]; exact Nat.le_refl _) (.int .i64 x))
      rw [show (encP ((L k).getD k Ino.zp))[0]? = some (.int .i64 ((L k).getD k Ino.zp).1) from rfl, Nat.add_zero] at o0
      rw [show (encP ((L k).getD k Ino.zp))[1]? = some (.int .i64 ((L k).getD k Ino.zp).2) from rfl] at o1
      generalize (L k).getD k Ino.zp = z0 at *
      clear c1 c2
      go_wp2_with fail
      go_roundw
      case rel => exact ⟨k + 1, by omega, by go_num, HA7, HL7⟩
      case measure => simp [intOf]; omega
    · obtain rfl : k = n := by omega
      have HRo := Lib.hid (HA.out.row (n := k) (by rw [HLn.out k (Nat.le_refl _)]) (by omega))
      rw [HAl.out] at HRo
      go_wp2_with fail
      go_ret2
      exact ⟨_, _, rfl, HRo.out, HL4.out.trans HLk.out⟩

/-- info.Get. -/
theorem iget_any (s : List UInt8) (pos : Int) (w : World) (hs : s.length ≤ 9223372036854000000) (h1 : pos ≤ 9223372036854775807) :
    Calls Try.prog 6 #[.string ⟨s.toArray⟩, .int .i64 pos] w (GotPairs (Ino.get s pos) w) := by
  unfold Ino.get
  by_cases c1 : pos < 0
  · rw [if_pos c1]; exact iget_head s pos 1 w (by omega) h1 (Ino.bin_neg s c1 _) (by decide)
  · rw [if_neg c1]
    obtain ⟨q, rfl⟩ := Int.eq_ofNat_of_zero_le (show 0 ≤ pos by omega)
    have hb := Ino.bin_two s q
    rw [Int.toNat_natCast]
    by_cases c2 : s.length < q + 4
    · rw [if_pos c2] at hb
      rw [if_pos (by omega)]; exact iget_head s q 4 w (by omega) h1 hb (by decide)
    · rw [if_neg c2] at hb
      rw [if_neg (by omega)]
      obtain ⟨o, ho, ho2⟩ := Ino.word_nat (s.drop q) 0
      obtain ⟨n, hn, hn2⟩ := Ino.word_nat (s.drop q) 2
      rw [ho, hn] at hb ⊢
      by_cases c3 : s.length < q + 4 + 4 * n
      · rw [if_pos (by omega)]; exact iget_piece s q o n w (by omega) (by omega) hn2 hb c3
      · rw [if_neg (by omega)]
        by_cases c4 : (Co.get s ((q : Int) + (o : Int))).2 = 0
        · rw [if_neg (by omega)]
          by_cases c5 : (Co.get s ((q : Int) + (o : Int))).1.length = n
          · rw [if_neg (by omega)]
            exact iget_ok s q o n _ w (by omega) (by omega) hn2 ho2 hs hb (Prod.ext rfl c4) c5
          · rw [if_pos (by omega)]
            exact iget_form s q o n _ w (by omega) (by omega) hn2 ho2 hs hb (Prod.ext rfl c4) c5
        · rw [if_pos c4]
          exact iget_cover s q o n _ w (by omega) (by omega) hn2 ho2 hs hb rfl c4
end Go.Proofs.Ytjeahgdefdlabaa
