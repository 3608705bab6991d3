/-
  Facts that the walks rest on: CoGet, CuGet, GkApart. No conditions beyond those stated.
-/
import Derived.Test.YtcnmfgdeanbhoaaPart08
import Derived.Test.YtcnmfgdeanbhoaaPart09
import Derived.Test.YtcnmfgdeanbhoaaPart07
import Derived.Test.YtcnmfgdeanbhoaaGround
/-
  The contract of cover.Get: it answers what the plain function on bytes says. No conditions beyond those stated.
-/
namespace Co
open Bn
theorem rd_shape (s : List UInt8) (pos : Int) (h : (rdC s pos).2.2 = 0) : ((rdC s pos).1 = 1 ∨ (rdC s pos).1 = 2) ∧ Small (rdC s pos).2.1 ∧ ((rdC s pos).1 = 2 → ∃ n, n ≤ 65535 ∧ (rdC s pos).2.1.length = 3 * n) := by
  unfold rdC at *
  by_cases c1 : pos < 0
  · rw [if_pos c1] at h; cases h
  · rw [if_neg c1] at h ⊢
    by_cases c2 : (s.length : Int) < pos ∨ (s.length : Int) - pos < 4
    · rw [if_pos c2] at h; cases h
    · rw [if_neg c2] at h ⊢
      generalize s.drop pos.toNat = t at *
      by_cases c3 : word t 0 ≠ 1 ∧ word t 0 ≠ 2
      · rw [if_pos c3] at h; cases h
      · rw [if_neg c3] at h ⊢
        by_cases c4 : t.length < 4 + 2 * count t
        · rw [if_pos c4] at h; cases h
        · rw [if_neg c4]
          have hb := word_bd t 2
          refine ⟨by dsimp only; omega, words_small _ _, fun h2 => ⟨(word t 2).toNat, by omega, ?_⟩⟩
          dsimp only at h2 ⊢
          rw [words_len]
          unfold count
          rw [if_pos h2]
end Co
namespace Go.Proofs.Ytcnmfgdeanbhoaa
open Go.RowKit

set_option maxHeartbeats 800000 in
theorem coget_err (s : List UInt8) (pos k : Int) (w : World) (hl : s.length ≤ 9223372036854775807) (h1 : pos ≤ 9223372036854775807) (hk : (Co.rdC s pos).2.2 = k) (h : k ≠ 0) :
    Calls Try.prog 27 #[.string ⟨s.toArray⟩, .int .i64 pos] w (GotRow ([], k) w) := by
  have HR := Lib.hid (coread_any s pos w hl h1)
  have hkb : (k == 0) = false := by simpa using h
  unfold ReadC at HR
  rw [hk] at HR
  clear hk h hl h1
  go_enter Try.func27, Try.ntmps27
  go_wp2_with fail
  refine HR.out.mono ?_
  rintro e w1 ⟨p, c, rfl, hrow, lo⟩
  have HL := Lib.hid lo
  clear hrow lo HR
  go_wp2_with fail
  go_ret2
  exact GotRow.nil rfl HL.out

set_option maxHeartbeats 800000 in
theorem coget_one (s : List UInt8) (pos : Int) (l : List Int) (w : World) (hl : s.length ≤ 9223372036854775807) (h1 : pos ≤ 9223372036854775807) (hr : Co.rdC s pos = (1, l, 0)) :
    Calls Try.prog 27 #[.string ⟨s.toArray⟩, .int .i64 pos] w (GotRow (Co.told l) w) := by
  have HR := Lib.hid (coread_any s pos w hl h1)
  unfold ReadC at HR
  rw [hr] at HR
  have HI := Lib.hid (fun W v (h : Row W v l) => cois_any v l W h)
  unfold Co.told
  cases hc : Co.isCov l with
  | true =>
    rw [hc] at HI
    rw [if_pos rfl]
    clear hc hl h1 hr
    go_enter Try.func27, Try.ntmps27
    go_wp2_with fail
    refine HR.out.mono ?_
    rintro e w1 ⟨p, c, rfl, hrow, lo⟩
    have HL := Lib.hid lo
    have HRow := Lib.hid hrow
    clear hrow lo HR
    dsimp only at HRow ⊢
    go_wp2_with fail
    refine (HI.out _ _ HRow.out).mono ?_
    rintro e w2 ⟨rfl, rfl⟩
    go_wp2_with fail
    go_ret2
    exact ⟨_, _, rfl, HRow.out, HL.out⟩
  | false =>
    rw [hc] at HI
    rw [if_neg (by decide)]
    clear hc hl h1 hr
    go_enter Try.func27, Try.ntmps27
    go_wp2_with fail
    refine HR.out.mono ?_
    rintro e w1 ⟨p, c, rfl, hrow, lo⟩
    have HL := Lib.hid lo
    have HRow := Lib.hid hrow
    clear hrow lo HR
    dsimp only at HRow ⊢
    go_wp2_with fail
    refine (HI.out _ _ HRow.out).mono ?_
    rintro e w2 ⟨rfl, rfl⟩
    go_wp2_with fail
    go_ret2
    exact GotRow.nil rfl HL.out

set_option maxHeartbeats 800000 in
theorem coget_bad (s : List UInt8) (pos : Int) (fs : List Int) (n : Nat) (w : World) (hl : s.length ≤ 9223372036854775807) (h1 : pos ≤ 9223372036854775807) (hr : Co.rdC s pos = (2, fs, 0)) (hs : Co.Small fs) (hn : n ≤ 65535) (hf : fs.length = 3 * n)
    (o : List Int) (hg : Co.lst (Co.tri fs n) = (o, false)) : Calls Try.prog 27 #[.string ⟨s.toArray⟩, .int .i64 pos] w (GotRow ([], 5) w) := by
  have HR := Lib.hid (coread_any s pos w hl h1)
  unfold ReadC at HR
  rw [hr] at HR
  have HLs := Lib.hid (fun W v (h : Row W v fs) => listed_any fs hs n hn v W h hf)
  rw [hg] at HLs
  unfold GotList at HLs
  clear hg hl h1 hr hs hn hf
  go_enter Try.func27, Try.ntmps27
  go_wp2_with fail
  refine HR.out.mono ?_
  rintro e w1 ⟨p, c, rfl, hrow, lo⟩
  have HL := Lib.hid lo
  have HRow := Lib.hid hrow
  clear hrow lo HR
  dsimp only at HRow ⊢
  go_wp2_with fail
  refine (HLs.out _ _ HRow.out).mono ?_
  rintro e w2 ⟨p2, c2, rfl, hrow, lo⟩
  have HL2 := Lib.hid (HL.out.trans lo)
  clear hrow lo HLs HL HRow
  dsimp only
  go_wp2_with fail
  go_ret2
  exact GotRow.nil rfl HL2.out

set_option maxHeartbeats 800000 in
theorem coget_two (s : List UInt8) (pos : Int) (fs : List Int) (n : Nat) (w : World) (hl : s.length ≤ 9223372036854775807) (h1 : pos ≤ 9223372036854775807) (hr : Co.rdC s pos = (2, fs, 0)) (hs : Co.Small fs) (hn : n ≤ 65535) (hf : fs.length = 3 * n)
    (o : List Int) (hg : Co.lst (Co.tri fs n) = (o, true)) : Calls Try.prog 27 #[.string ⟨s.toArray⟩, .int .i64 pos] w (GotRow (Co.told o) w) := by
  have HR := Lib.hid (coread_any s pos w hl h1)
  unfold ReadC at HR
  rw [hr] at HR
  have HLs := Lib.hid (fun W v (h : Row W v fs) => listed_any fs hs n hn v W h hf)
  rw [hg] at HLs
  unfold GotList at HLs
  have HI := Lib.hid (fun W v (h : Row W v o) => cois_any v o W h)
  unfold Co.told
  clear hg hl h1 hr hs hn hf
  cases hc : Co.isCov o with
  | true =>
    rw [hc] at HI
    rw [if_pos rfl]
    clear hc
    go_enter Try.func27, Try.ntmps27
    go_wp2_with fail
    refine HR.out.mono ?_
    rintro e w1 ⟨p, c, rfl, hrow, lo⟩
    have HL := Lib.hid lo
    have HRow := Lib.hid hrow
    clear hrow lo HR
    dsimp only at HRow ⊢
    go_wp2_with fail
    refine (HLs.out _ _ HRow.out).mono ?_
    rintro e w2 ⟨p2, c2, rfl, hrow, lo⟩
    have HL2 := Lib.hid (HL.out.trans lo)
    have HRo := Lib.hid hrow
    clear hrow lo HLs HL HRow
    dsimp only at HRo ⊢
    go_wp2_with fail
    refine (HI.out _ _ HRo.out).mono ?_
    rintro e w3 ⟨rfl, rfl⟩
    go_wp2_with fail
    go_ret2
    exact ⟨_, _, rfl, HRo.out, HL2.out⟩
  | false =>
    rw [hc] at HI
    rw [if_neg (by decide)]
    clear hc
    go_enter Try.func27, Try.ntmps27
    go_wp2_with fail
    refine HR.out.mono ?_
    rintro e w1 ⟨p, c, rfl, hrow, lo⟩
    have HL := Lib.hid lo
    have HRow := Lib.hid hrow
    clear hrow lo HR
    dsimp only at HRow ⊢
    go_wp2_with fail
    refine (HLs.out _ _ HRow.out).mono ?_
    rintro e w2 ⟨p2, c2, rfl, hrow, lo⟩
    have HL2 := Lib.hid (HL.out.trans lo)
    have HRo := Lib.hid hrow
    clear hrow lo HLs HL HRow
    dsimp only at HRo ⊢
    go_wp2_with fail
    refine (HI.out _ _ HRo.out).mono ?_
    rintro e w3 ⟨rfl, rfl⟩
    go_wp2_with fail
    go_ret2
    exact GotRow.nil rfl HL2.out

/-- cover.Get. -/
theorem coget_any (s : List UInt8) (pos : Int) (w : World) (hl : s.length ≤ 9223372036854775807) (h1 : pos ≤ 9223372036854775807) :
    Calls Try.prog 27 #[.string ⟨s.toArray⟩, .int .i64 pos] w fun e w' => GotRow (Co.get s pos) w e w' := by
  have hb := Co.get_by s pos
  have hsh := Co.rd_shape s pos
  obtain ⟨f, l, k, hr⟩ : ∃ f l k, Co.rdC s pos = (f, l, k) := ⟨_, _, _, rfl⟩
  rw [hr] at hb hsh
  dsimp only at hb hsh
  rw [hb]
  by_cases h0 : k = 0
  · subst h0
    obtain ⟨hf, hs, hn⟩ := hsh rfl
    rw [if_neg (by decide)]
    rcases hf with rfl | rfl
    · rw [if_neg (by decide)]
      exact coget_one s pos l w hl h1 hr
    · obtain ⟨n, hn1, hn2⟩ := hn rfl
      rw [if_pos rfl, hn2, Nat.mul_div_cancel_left _ (by omega)]
      cases hg : Co.lst (Co.tri l n) with
      | mk o b =>
        cases b with
        | false => rw [if_pos rfl]; exact coget_bad s pos l n w hl h1 hr hs hn1 hn2 o hg
        | true => rw [if_neg (by simp)]; exact coget_two s pos l n w hl h1 hr hs hn1 hn2 o hg
  · rw [if_pos h0]
    exact coget_err s pos k w hl h1 (by rw [hr]) h0
end Go.Proofs.Ytcnmfgdeanbhoaa
/-
  The contract of cutin.Get. No conditions beyond those stated. (Written by gencuget.py: the refusals as in InGet.)
-/
namespace Go.Proofs.Ytcnmfgdeanbhoaa
open Go.RowKit

theorem rk_nil (W : World) : RK W [.int .i64 0, .slice none 0 0] Cu.zK := ⟨_, rfl, .inl ⟨_, _, rfl, fun _ => rfl, rfl⟩⟩
/-- Empty kerns, made. -/
def kernM (n : Nat) (W : World) : World := madeR [.int .i64 0, .slice none 0 0] n 42 W
theorem kernM_run (n : Nat) (hn : n ≤ 1000000) (W : World) : (Instr.makeSlice 22 (.int .i64 (n : Int)) (.int .i64 (n : Int))).run Try.prog W = .ok (.slice (some ⟨W.heap.size, 0, none⟩) n n) (kernM n W) :=
  madeR_run Try.underlying22 kern_info [.int .i64 0, .slice none 0 0] rfl rfl (by omega) (by omega) (by omega) n hn n rfl W
theorem kernM_lo (n : Nat) (W : World) : Lo W (kernM n W) := madeR_lo _ _ _ _
theorem kernM_own (n : Nat) (hn : n ≤ 1000000) (D : Nat → Prop) (W : World) : OwnR RK 42 2 D (kernM n W) W.heap.size (.slice (some ⟨W.heap.size, 0, .none⟩) n n) (List.replicate n Cu.zK) := madeR_own RK rk_nil rfl n hn _ D W

/-- What Get tells. -/
def GotKerns (a : List Cu.Kern × Int) (w : World) (e : Ending) (w' : World) : Prop := ∃ p c, e = .returned (.tuple #[.slice p a.1.length c, .int .i64 a.2]) ∧ KRowC w' (.slice p a.1.length c) a.1 ∧ Lo w w'
theorem GotKerns.nil {w w' : World} {k : Int} {e : Ending} (he : e = .returned (.tuple #[.slice none 0 0, .int .i64 k])) (h : Lo w w') : GotKerns ([], k) w e w' := by
  subst he
  exact ⟨none, 0, rfl, .inl ⟨_, _, rfl, fun _ => rfl, rfl⟩, h⟩

set_option maxHeartbeats 800000 in
theorem cuget_head (s : List UInt8) (pos k : Int) (w : World) (hl : s.length ≤ 9223372036854775807) (h1 : pos ≤ 9223372036854775807) (hb : Bn.get s pos [2, 2] = ([], k)) (h0 : k ≠ 0) :
    Calls Try.prog 10 #[.string ⟨s.toArray⟩, .int .i64 pos] w (GotKerns ([], k) w) := by
  have HG := Lib.hid (fun v W (h : Row W v [2, 2]) => get_any s pos v [2, 2] W h (by decide) hl h1)
  rw [hb] at HG
  unfold GotRow at HG
  have hkb : (k == 0) = false := by simpa using h0
  clear hb h0 hl h1
  go_enter Try.func10, Try.ntmps10
  go_wp2_with fail
  refine (HG.out _ _ (row2 w _ (by simp) 2 2)).mono ?_
  rintro e w1 ⟨p, c, rfl, hrow, lo⟩
  have HL := Lib.hid (((Lo.refl w).alloc _).trans lo)
  clear hrow lo HG
  dsimp only
  go_wp2_with fail
  go_ret2
  exact GotKerns.nil rfl HL.out

set_option maxHeartbeats 1600000 in
theorem cuget_piece (s : List UInt8) (pos o n : Nat) (w : World) (hl : s.length ≤ 9223372036854775807) (h4 : pos + 4 ≤ s.length) (hn : n ≤ 65535) (hb : Bn.get s pos [2, 2] = ([(o : Int), (n : Int)], 0)) (hf : s.length < pos + 4 + 8 * n) :
    Calls Try.prog 10 #[.string ⟨s.toArray⟩, .int .i64 (pos : Int)] w (GotKerns ([], 4) w) := by
  have HG := Lib.hid (fun v W (h : Row W v [2, 2]) => get_any s pos v [2, 2] W h (by decide) hl (by omega))
  rw [hb] at HG
  unfold GotRow at HG
  have HP := Lib.hid (fun W => bpiece_any s ((pos : Int) + 4) (8 * (n : Int)) W hl (by omega))
  rw [show Bn.piece s ((pos : Int) + 4) (8 * (n : Int)) = ([], 4) by unfold Bn.piece; rw [if_neg (by omega), if_pos (by omega)]] at HP
  unfold strErr at HP
  clear hb hf
  go_enter Try.func10, Try.ntmps10
  go_wp2_with fail
  refine (HG.out _ _ (row2 w _ (by simp) 2 2)).mono ?_
  rintro e w1 ⟨p, c, rfl, hrow, lo⟩
  have HL := Lib.hid (((Lo.refl w).alloc _).trans lo)
  obtain ⟨b, off, rfl, c0⟩ := hrow.at_ (k := 0) (by simp)
  obtain ⟨b', off', he, c1⟩ := hrow.at_ (k := 1) (by simp)
  simp only [Option.some.injEq, Addr.mk.injEq, and_true] at he
  obtain ⟨rfl, rfl⟩ := he
  rw [Nat.add_zero] at c0
  rw [show ([(o : Int), (n : Int)] : List Int).getD 0 0 = (o : Int) from rfl] at c0
  rw [show ([(o : Int), (n : Int)] : List Int).getD 1 0 = (n : Int) from rfl] at c1
  clear hrow lo HG
  dsimp only [List.length_cons, List.length_nil, Nat.reduceAdd]
  go_wp2_with fail
  go_quiet (fail)
  have HL2 := Lib.hid (HL.out.drewN nq)
  clear c0 c1
  go_wp2_with fail
  refine (HP.out _).mono ?_
  rintro e w2 ⟨rfl, lo⟩
  have HL3 := Lib.hid (HL2.out.trans lo)
  clear lo
  go_wp2_with fail
  go_ret2
  exact GotKerns.nil rfl HL3.out

set_option maxHeartbeats 1600000 in
theorem cuget_cover (s : List UInt8) (pos o n : Nat) (k : Int) (w : World) (hl : s.length ≤ 9223372036854775807) (h4 : pos + 4 + 8 * n ≤ s.length) (hn : n ≤ 65535) (ho : o ≤ 65535) (hs : s.length ≤ 9223372036854000000) (hb : Bn.get s pos [2, 2] = ([(o : Int), (n : Int)], 0)) (hk : (Co.get s ((pos : Int) + (o : Int))).2 = k) (h0 : k ≠ 0) :
    Calls Try.prog 10 #[.string ⟨s.toArray⟩, .int .i64 (pos : Int)] w (GotKerns ([], k) w) := by
  have HG := Lib.hid (fun v W (h : Row W v [2, 2]) => get_any s pos v [2, 2] W h (by decide) hl (by omega))
  rw [hb] at HG
  unfold GotRow at HG
  have HP := Lib.hid (fun W => bpiece_any s ((pos : Int) + 4) (8 * (n : Int)) W hl (by omega))
  rw [show Bn.piece s ((pos : Int) + 4) (8 * (n : Int)) = (((s.drop pos).drop 4).take (8 * n), 0) by
    unfold Bn.piece
    rw [if_neg (by omega), if_neg (by omega), List.drop_drop, show ((pos : Int) + 4).toNat = pos + 4 by omega, show (8 * (n : Int)).toNat = 8 * n by omega]] at HP
  unfold strErr at HP
  have HC := Lib.hid (fun W => coget_any s ((pos : Int) + (o : Int)) W hl (by omega))
  unfold GotRow at HC
  rw [hk] at HC
  have hkb : (k == 0) = false := by simpa using h0
  generalize (Co.get s ((pos : Int) + (o : Int))).1 = g at *
  generalize ((s.drop pos).drop 4).take (8 * n) = vs at *
  generalize g.length = gn at *
  clear hb hk h0
  go_enter Try.func10, Try.ntmps10
  go_wp2_with fail
  refine (HG.out _ _ (row2 w _ (by simp) 2 2)).mono ?_
  rintro e w1 ⟨p, c, rfl, hrow, lo⟩
  have HL := Lib.hid (((Lo.refl w).alloc _).trans lo)
  obtain ⟨b, off, rfl, c0⟩ := hrow.at_ (k := 0) (by simp)
  obtain ⟨b', off', he, c1⟩ := hrow.at_ (k := 1) (by simp)
  simp only [Option.some.injEq, Addr.mk.injEq, and_true] at he
  obtain ⟨rfl, rfl⟩ := he
  rw [Nat.add_zero] at c0
  rw [show ([(o : Int), (n : Int)] : List Int).getD 0 0 = (o : Int) from rfl] at c0
  rw [show ([(o : Int), (n : Int)] : List Int).getD 1 0 = (n : Int) from rfl] at c1
  clear hrow lo HG
  dsimp only [List.length_cons, List.length_nil, Nat.reduceAdd]
  go_wp2_with fail
  go_quiet (fail)
  have HL2 := Lib.hid (HL.out.drewN nq)
  clear c0 c1
  go_wp2_with fail
  refine (HP.out _).mono ?_
  rintro e w2 ⟨rfl, lo⟩
  have HL3 := Lib.hid (HL2.out.trans lo)
  clear lo HP HL2 HL
  go_wp2_with fail
  refine (HC.out _).mono ?_
  rintro e w3 ⟨p3, c3, rfl, hrow, lo⟩
  have HL4 := Lib.hid (HL3.out.trans lo)
  have HR4 := Lib.hid hrow
  clear lo HC HL3 hrow
  go_wp2_with fail
  go_ret2
  exact GotKerns.nil rfl HL4.out

set_option maxHeartbeats 1600000 in
theorem cuget_form (s : List UInt8) (pos o n : Nat) (g : List Int) (w : World) (hl : s.length ≤ 9223372036854775807) (h4 : pos + 4 + 8 * n ≤ s.length) (hn : n ≤ 65535) (ho : o ≤ 65535) (hs : s.length ≤ 9223372036854000000) (hb : Bn.get s pos [2, 2] = ([(o : Int), (n : Int)], 0)) (hk : Co.get s ((pos : Int) + (o : Int)) = (g, 0)) (h0 : g.length ≠ n) :
    Calls Try.prog 10 #[.string ⟨s.toArray⟩, .int .i64 (pos : Int)] w (GotKerns ([], 5) w) := by
  have HG := Lib.hid (fun v W (h : Row W v [2, 2]) => get_any s pos v [2, 2] W h (by decide) hl (by omega))
  rw [hb] at HG
  unfold GotRow at HG
  have HP := Lib.hid (fun W => bpiece_any s ((pos : Int) + 4) (8 * (n : Int)) W hl (by omega))
  rw [show Bn.piece s ((pos : Int) + 4) (8 * (n : Int)) = (((s.drop pos).drop 4).take (8 * n), 0) by
    unfold Bn.piece
    rw [if_neg (by omega), if_neg (by omega), List.drop_drop, show ((pos : Int) + 4).toNat = pos + 4 by omega, show (8 * (n : Int)).toNat = 8 * n by omega]] at HP
  unfold strErr at HP
  have HC := Lib.hid (fun W => coget_any s ((pos : Int) + (o : Int)) W hl (by omega))
  unfold GotRow at HC
  rw [hk] at HC
  dsimp only at HC
  generalize ((s.drop pos).drop 4).take (8 * n) = vs at *
  generalize g.length = gn at *
  have hkb : ((gn : Int) == (n : Int)) = false := by rw [beq_eq_false_iff_ne]; omega
  clear hb hk h0
  go_enter Try.func10, Try.ntmps10
  go_wp2_with fail
  refine (HG.out _ _ (row2 w _ (by simp) 2 2)).mono ?_
  rintro e w1 ⟨p, c, rfl, hrow, lo⟩
  have HL := Lib.hid (((Lo.refl w).alloc _).trans lo)
  obtain ⟨b, off, rfl, c0⟩ := hrow.at_ (k := 0) (by simp)
  obtain ⟨b', off', he, c1⟩ := hrow.at_ (k := 1) (by simp)
  simp only [Option.some.injEq, Addr.mk.injEq, and_true] at he
  obtain ⟨rfl, rfl⟩ := he
  rw [Nat.add_zero] at c0
  rw [show ([(o : Int), (n : Int)] : List Int).getD 0 0 = (o : Int) from rfl] at c0
  rw [show ([(o : Int), (n : Int)] : List Int).getD 1 0 = (n : Int) from rfl] at c1
  clear hrow lo HG
  dsimp only [List.length_cons, List.length_nil, Nat.reduceAdd]
  go_wp2_with fail
  go_quiet (fail)
  have HL2 := Lib.hid (HL.out.drewN nq)
  clear c0 c1
  go_wp2_with fail
  refine (HP.out _).mono ?_
  rintro e w2 ⟨rfl, lo⟩
  have HL3 := Lib.hid (HL2.out.trans lo)
  clear lo HP HL2 HL
  go_wp2_with fail
  refine (HC.out _).mono ?_
  rintro e w3 ⟨p3, c3, rfl, hrow, lo⟩
  have HL4 := Lib.hid (HL3.out.trans lo)
  have HR4 := Lib.hid hrow
  clear lo HC HL3 hrow
  go_wp2_with fail
  go_ret2
  exact GotKerns.nil rfl HL4.out

/-- What stands behind the offsets' check, told. -/
def endK (t : List UInt8) (g : List Int) : List Cu.Kern × Int := if (Cu.gall t (Co.ones t (4 * g.length))).2 ≠ 0 then ([], (Cu.gall t (Co.ones t (4 * g.length))).2) else (Cu.four g (Cu.gall t (Co.ones t (4 * g.length))).1, 0)
theorem endK_no {t : List UInt8} {g : List Int} {k : Nat} (hk : k < g.length) (h : (Cu.gall t (Co.ones t (4 * k))).2 = 0) (hg : (Cu.gall t (Cu.quad t k)).2 ≠ 0) : endK t g = ([], (Cu.gall t (Cu.quad t k)).2) := by
  unfold endK
  rw [Cu.kern_no hk h hg, if_pos hg]
theorem endK_ok {t : List UInt8} {g : List Int} (h : (Cu.gall t (Co.ones t (4 * g.length))).2 = 0) : endK t g = (Cu.laidK t g g.length, 0) := by
  unfold endK
  rw [if_neg (by rw [h]; simp), Cu.laidK_all]

set_option maxRecDepth 100000 in
set_option maxHeartbeats 6400000 in
theorem cuget_ok (s : List UInt8) (pos o n : Nat) (g : List Int) (w : World) (h4 : pos + 4 + 8 * n ≤ s.length) (hn : n ≤ 65535) (ho : o ≤ 65535) (hs : s.length ≤ 9223372036853000000) (hb : Bn.get s pos [2, 2] = ([(o : Int), (n : Int)], 0)) (hk : Co.get s ((pos : Int) + (o : Int)) = (g, 0)) (h0 : g.length = n) :
    Calls Try.prog 10 #[.string ⟨s.toArray⟩, .int .i64 (pos : Int)] w (GotKerns (endK (s.drop pos) g) w) := by
  have HG := Lib.hid (fun v W (h : Row W v [2, 2]) => get_any s pos v [2, 2] W h (by decide) (by omega) (by omega))
  rw [hb] at HG
  unfold GotRow at HG
  have HP := Lib.hid (fun W => bpiece_any s ((pos : Int) + 4) (8 * (n : Int)) W (by omega) (by omega))
  rw [show Bn.piece s ((pos : Int) + 4) (8 * (n : Int)) = (((s.drop pos).drop 4).take (8 * n), 0) by
    unfold Bn.piece
    rw [if_neg (by omega), if_neg (by omega), List.drop_drop, show ((pos : Int) + 4).toNat = pos + 4 by omega, show (8 * (n : Int)).toNat = 8 * n by omega]] at HP
  unfold strErr at HP
  have HC := Lib.hid (fun W => coget_any s ((pos : Int) + (o : Int)) W (by omega) (by omega))
  unfold GotRow at HC
  rw [hk] at HC
  dsimp only at HC
  have HV := Lib.hid (fun i (hi : i < n) (v : Value) W (h : Row W v [2, 2, 2, 2]) => by
    have h1 := get_any (((s.drop pos).drop 4).take (8 * n)) (8 * (i : Int)) v [2, 2, 2, 2] W h (by decide) (by rw [List.length_take, List.length_drop, List.length_drop]; omega) (by omega)
    rw [Cu.bin_quad (s.drop pos) hi (by rw [List.length_drop]; omega)] at h1
    unfold GotRow at h1
    rw [show (Cu.quad (s.drop pos) i, (0 : Int)).1.length = 4 from rfl] at h1
    dsimp only at h1
    exact h1)
  have HQ := Lib.hid (fun i (v : Value) W (h : Row W v (Cu.quad (s.drop pos) i)) => cucorn_any s pos v (Cu.quad (s.drop pos) i) W hs (by omega) h rfl (fun k hk => Cu.quad_pos _ (Cu.getI_mem (by rw [Cu.quad_len]; exact hk))))
  obtain ⟨t, ht⟩ : ∃ t, s.drop pos = t := ⟨_, rfl⟩
  rw [ht] at HV HQ HP ⊢
  have HSt := Lib.hid (fun k (hk : k < n) => @Cu.kern_ok t g k (by omega))
  have HLn := Lib.hid (fun k (hk : k ≤ n) => (by rw [Cu.laidK_len t (by omega), h0] : (Cu.laidK t g k).length = n))
  have HZ := Lib.hid (Cu.laidK_start t g)
  rw [h0] at HZ
  have HAl := Lib.hid (@endK_ok t g)
  rw [h0] at HAl
  have HNo := Lib.hid (fun k (hk : k < n) => @endK_no t g k (by omega))
  rw [h0] at HC
  generalize endK t g = R at *
  generalize Cu.laidK t g = L at *
  generalize Cu.quad t = Q at *
  generalize (t.drop 4).take (8 * n) = vs at *
  have HGl := Lib.hid h0
  have hmk := fun W => kernM_run n (by omega) W
  clear hb hk h0 ht
  go_enter Try.func10, Try.ntmps10
  go_wp2_with fail
  refine (HG.out _ _ (row2 w _ (by simp) 2 2)).mono ?_
  rintro e w1 ⟨p, c, rfl, hrow, lo⟩
  have HL := Lib.hid (((Lo.refl w).alloc _).trans lo)
  obtain ⟨b, off, rfl, c0⟩ := hrow.at_ (k := 0) (by simp)
  obtain ⟨b', off', he, c1⟩ := hrow.at_ (k := 1) (by simp)
  simp only [Option.some.injEq, Addr.mk.injEq, and_true] at he
  obtain ⟨rfl, rfl⟩ := he
  rw [Nat.add_zero] at c0
  rw [show ([(o : Int), (n : Int)] : List Int).getD 0 0 = (o : Int) from rfl] at c0
  rw [show ([(o : Int), (n : Int)] : List Int).getD 1 0 = (n : Int) from rfl] at c1
  clear hrow lo HG
  dsimp only [List.length_cons, List.length_nil, Nat.reduceAdd]
  go_wp2_with fail
  go_quiet (fail)
  have HL2 := Lib.hid (HL.out.drewN nq)
  clear c0 c1
  go_wp2_with fail
  refine (HP.out _).mono ?_
  rintro e w2 ⟨rfl, lo⟩
  have HL3 := Lib.hid (HL2.out.trans lo)
  clear lo HP HL2 HL
  go_wp2_with fail
  refine (HC.out _).mono ?_
  rintro e w3 ⟨p3, c3, rfl, hrow, lo⟩
  have HL4 := Lib.hid (HL3.out.trans lo)
  have HR4 := Lib.hid hrow
  clear lo HC HL3 hrow
  go_wp2_with fail
  have HM := Lib.hid (kernM_own n (by omega) (fun _ => False) w3)
  have HLm := Lib.hid (kernM_lo n w3)
  generalize kernM n w3 = w4 at *
  clear hmk
  generalize hG : w3.heap.size = B at *
  have HGs := Lib.hid hG
  clear hG
  go_loopw [13, 14, 15, 16, 17, 18, 66] (fun _ _ _ _ _ _ i W => ∃ (k : Nat), k ≤ n ∧ i = .int .i64 k ∧ Hid (OwnR RK 42 2 (fun _ => False) W B (.slice (some ⟨B, 0, .none⟩) n n) (L k)) ∧ Hid ((Cu.gall t (Co.ones t (4 * k))).2 = 0) ∧ Hid (Lo w3 W)) (fun _ _ _ _ _ _ i _ => n - (intOf i).toNat)
  case atStart => exact ⟨0, by omega, rfl, Lib.hid (by rw [HZ.out.1]; exact HM.out), Lib.hid HZ.out.2, HLm⟩
  case round =>
    obtain ⟨k, hk, rfl, HA, HK, HLk⟩ := hrel
    by_cases hlt : k < n
    · have HVk := Lib.hid (HV.out k hlt)
      have HQk := Lib.hid (HQ.out k)
      have HSk := Lib.hid (HSt.out k hlt HK.out)
      have HNk := Lib.hid (HNo.out k hlt HK.out)
      have HLk2 := HLn.out k (by omega)
      obtain ⟨b6, off6, rfl, c2⟩ := (HR4.out.lo HLk.out).at_ (k := k) (by omega)
      generalize Q k = qd at *
      generalize g.getD k 0 = y at *
      generalize Cu.gall t qd = z at *
      obtain ⟨zl, ke⟩ := z
      dsimp only at HSk HNk
      clear HV HQ HSt HNo
      go_wp2_with fail
      refine (HVk.out _ _ (row4 _ _ (by simp) 2 2 2 2)).mono ?_
      rintro e w5 ⟨p5, c5, rfl, hrow, lo⟩
      have HL5 := Lib.hid ((HLk.out.alloc _).trans lo)
      have HA5 := Lib.hid (HA.out.lo (((Lo.refl _).alloc _).trans lo))
      have HR5 := Lib.hid hrow
      have HLw := Lib.hid (((Lo.refl _).alloc _).trans lo)
      clear hrow lo HVk
      go_wp2_with fail
      refine (HQk.out _ _ HR5.out).mono ?_
      rintro e w6 ⟨p6, c6, rfl, hnew, lo⟩
      dsimp only at hnew ⊢
      have HL6 := Lib.hid (HL5.out.trans lo)
      have HA6 := Lib.hid (HA5.out.lo lo)
      have HN6 := Lib.hid hnew
      have HBm : Hid (B < w5.heap.size) := Lib.hid (OwnR.lt HA5.out rfl).2
      clear hnew lo HQk
      by_cases hke : ke = 0
      · subst hke
        obtain ⟨z1, z2⟩ := HSk.out rfl
        have HK2 := Lib.hid z1
        have HS2 := Lib.hid z2
        clear z1 z2 HSk HNk
        obtain ⟨gg, cap, he, _, _, ⟨old, hol, hcl⟩, hfr, hset⟩ := OwnR.slot HA6.out (i := k) (by rw [HLk2]; exact hlt)
        rw [HLk2] at he
        simp only [Value.slice.injEq, Option.some.injEq, Addr.mk.injEq, and_true] at he
        obtain ⟨rfl, _, rfl⟩ := he
        obtain ⟨a0, a1, rfl⟩ : ∃ a0 a1, old = [a0, a1] := by
          rcases old with _ | ⟨a0, _ | ⟨a1, _ | ⟨a2, r⟩⟩⟩ <;> simp at hol
          exact ⟨a0, a1, rfl⟩
        have d0 := hcl 0 (by omega)
        have d1 := hcl 1 (by omega)
        have f0 := hfr (k * 2)
        have f1 := hfr (k * 2 + 1)
        rw [Nat.add_zero] at d0
        have HA7 := Lib.hid (hset [.int .i64 y, .slice p6 zl.length c6] (y, zl) rfl ((HN6.out.mono fun W hW => ⟨_, rfl, hW⟩).weak fun T _ hT => by
          have := HBm.out
          rcases hT with hT | hT
          · exact hT.elim
          · show T < _; omega))
        rw [HS2.out, ← setAt_two] at HA7
        have HL7 := Lib.hid ((HL6.out.set (p := ⟨B, k * 2, none⟩) (by rw [HGs.out]; exact Nat.le_refl _) (.int .i64 y)).set (p := ⟨B, k * 2 + 1, none⟩) (by rw [HGs.out]; exact Nat.le_refl _) (.slice p6 zl.length c6))
        clear hset hfr hcl hol
        simp only [List.getElem?_cons_zero, List.getElem?_cons_succ] at d0 d1
        generalize zl.length = zn at *
        clear h4 hs ho HLk2 c2
        go_wp2_with fail
        go_roundw
        case rel => exact ⟨k + 1, by omega, by go_num, HA7, HK2, HL7⟩
        case measure => simp [intOf]; omega
      · have HE2 := Lib.hid (HNk.out hke)
        have hkb : (ke == 0) = false := by simpa using hke
        generalize zl.length = zn at *
        clear HSk HNk hke
        obtain rfl : R = ([], ke) := HE2.out
        go_wp2_with fail
        go_ret2
        exact GotKerns.nil rfl (HL4.out.trans HL6.out)
    · obtain rfl : k = n := by omega
      have HE := Lib.hid (HAl.out HK.out)
      have HLl := Lib.hid (HLn.out k (Nat.le_refl _))
      generalize L k = Lk at *
      obtain rfl : R = (Lk, 0) := HE.out
      go_wp2_with fail
      go_ret2
      refine ⟨some ⟨B, 0, none⟩, k, ?_, ?_, HL4.out.trans HLk.out⟩
      · rw [show (Lk, (0 : Int)).1.length = k from HLl.out]; rfl
      · rw [show (Lk, (0 : Int)).1.length = k from HLl.out]; exact OwnR.row HA.out

/-- cutin.Get. -/
theorem cuget_any (s : List UInt8) (pos : Int) (w : World) (hs : s.length ≤ 9223372036853000000) (h1 : pos ≤ 9223372036854775807) :
    Calls Try.prog 10 #[.string ⟨s.toArray⟩, .int .i64 pos] w (GotKerns (Cu.get s pos) w) := by
  unfold Cu.get
  by_cases c1 : pos < 0
  · rw [if_pos c1]; exact cuget_head s pos 1 w (by omega) h1 (Ino.bin_neg s c1 _) (by decide)
  · rw [if_neg c1]
    obtain ⟨q, rfl⟩ := Int.eq_ofNat_of_zero_le (show 0 ≤ pos by omega)
    have hb := Ino.bin_two s q
    rw [Int.toNat_natCast]
    by_cases c2 : s.length < q + 4
    · rw [if_pos c2] at hb
      rw [if_pos (by omega)]; exact cuget_head s q 4 w (by omega) h1 hb (by decide)
    · rw [if_neg c2] at hb
      rw [if_neg (by omega)]
      obtain ⟨o, ho, ho2⟩ := Cu.word_nat (s.drop q) 0
      obtain ⟨n, hn, hn2⟩ := Cu.word_nat (s.drop q) 2
      rw [ho, hn] at hb ⊢
      by_cases c3 : s.length < q + 4 + 8 * n
      · rw [if_pos (by omega)]; exact cuget_piece s q o n w (by omega) (by omega) hn2 hb c3
      · rw [if_neg (by omega)]
        unfold Cu.rest
        rw [hn]
        by_cases c4 : (Co.get s ((q : Int) + (o : Int))).2 = 0
        · rw [if_neg (by omega)]
          by_cases c5 : (Co.get s ((q : Int) + (o : Int))).1.length = n
          · rw [if_neg (by omega)]
            exact cuget_ok s q o n _ w (by omega) hn2 ho2 hs hb (Prod.ext rfl c4) c5
          · rw [if_pos (by omega)]
            exact cuget_form s q o n _ w (by omega) (by omega) hn2 ho2 (by omega) hb (Prod.ext rfl c4) c5
        · rw [if_pos c4]
          exact cuget_cover s q o n _ w (by omega) (by omega) hn2 ho2 (by omega) hb rfl c4
end Go.Proofs.Ytcnmfgdeanbhoaa
/-
  Two rows of ints that the call itself owns, in blocks of their own: append onto one of them. Nothing of the program but its types. No conditions beyond those stated.
-/
namespace Go.Proofs.Ytcnmfgdeanbhoaa
open Go.RowKit

/-- Two rows lie in blocks of their own. -/
def Apart (v o : Value) : Prop := ∀ g, v.ownBlock = some g → o.ownBlock ≠ some g
theorem Apart.symm {v o : Value} (h : Apart v o) : Apart o v := fun g h1 h2 => h g h2 h1
theorem own_keep {w w' : World} {base : Nat} {v ov : Value} {zs : List Int} (h : Own w base ov zs) (hg : w.grownBy w' v.ownBlock) (hap : Apart v ov) : Own w' base ov zs := by
  refine ⟨h.1, ?_⟩
  rcases h.2 with h3 | ⟨g, cap, cur, hv, hb, hh, r⟩
  · exact .inl h3
  · exact .inr ⟨g, cap, cur, hv, hb, grown_keep hg hh (fun e => hap g e (by rw [hv]; rfl)), r⟩
theorem own_lt {w : World} {base : Nat} {ov : Value} {zs : List Int} (h : Own w base ov zs) {g : Nat} (hg : ov.ownBlock = some g) : g < w.heap.size := by
  rcases h.2 with ⟨h1, _⟩ | ⟨g', cap, cur, hv, hb, hh, r⟩
  · rw [h1] at hg; cases hg
  · rw [hv] at hg
    injection hg with hg
    subst hg
    rcases Nat.lt_or_ge g' w.heap.size with hlt | hge
    · exact hlt
    · rw [Array.getElem?_eq_none hge] at hh; cases hh
/-- append onto one of two rows of the call's own. -/
theorem wpList_app2 (w : World) {ops : Array Oper} {rest : List Oper} {o : Oper} {a : Act} {Q : Exit → Act → World → Prop} (hgd : o.guard = none) (s x : Operand)
    (ho : o.op = .call { callee := .builtin .append, args := #[s, x], argTypes := #[33, 33] })
    (base : Nat) (v : Value) (xs : List Int) (hs : a.eval s = v) (hown : Own w base v xs) (ov : Value) (zs : List Int) (hoth : Own w base ov zs) (hap : Apart v ov) (u : Value) (ys : List Int) (hx : a.eval x = u) (hr : Row w u ys) (hm : 0 < ys.length)
    (hlen : xs.length + ys.length ≤ 1000000) (hbase : base ≤ w.heap.size)
    (h : ∀ p c w', Own w' base (.slice p (xs.length + ys.length) c) (xs ++ ys) → Own w' base ov zs → Apart (.slice p (xs.length + ys.length) c) ov → (∀ w0, Lo w0 w → w0.heap.size = base → Lo w0 w') → wpList Try.prog ops Q rest (a.put o.dst (.slice p (xs.length + ys.length) c)) w') : wpList Try.prog ops Q (o :: rest) a w := by
  obtain ⟨i0, hi0, hz0, hz1, hz2⟩ := info_parts int_info
  rcases hr with ⟨_, _, _, _, rfl⟩ | ⟨b, off, cap, rfl, h2, h2b, h3, h4⟩
  · simp at hm
  · refine wpList_append_lies w hgd s x 33 ho base 3 i0 _ 1 8 Try.underlying33 hi0 hz0 hz1 hz2 rfl (by omega) v xs.length _ hs hown ⟨b, off, .none⟩ ys.length cap (ys.map (Value.int .i64)) hx (by simp) ?_ (ints_oneCell _ _) hm (by unfold maxLen; omega) (by omega) hbase _ rfl ?_
    · intro j u hj
      have hjl : j < ys.length := by
        rcases Nat.lt_or_ge j ys.length with hlt | hge
        · exact hlt
        · rw [List.getElem?_eq_none (by simpa using hge)] at hj; cases hj
      have := h4 j hjl
      have e1 : (⟨b, off, .none⟩ : Addr).add j = ⟨b, off + j, .none⟩ := by
        unfold Addr.add; split <;> simp_all
      rw [e1, this]
      simp [hjl] at hj
      simp [List.getD, hjl, hj]
    · intro g cap2 w' hown' hg hwhere _
      have hown2 : Own w' base (.slice (some ⟨g, 0, none⟩) (xs.length + ys.length) cap2) (xs ++ ys) := by
        unfold Own
        rw [List.length_append, List.map_append]
        exact hown'
      refine h _ _ w' hown2 (own_keep hoth hg hap) ?_ ?_
      · intro g' hg' ho'
        injection hg' with hg'
        subst hg'
        rcases hwhere with hw | hw
        · exact hap _ hw ho'
        · have hl : g < w.heap.size := own_lt hoth ho'
          omega
      · intro w0 hlo hb0
        exact Below.grown hlo hg hlo.size (fun k hk => by rw [hb0]; exact (World.ownsRow.lt hown k hk).1)
theorem own_lit (w : World) (z : Int) : Own (w.alloc (.cells #[.int .i64 z] 3)) w.heap.size (.slice (some ⟨w.heap.size, 0, none⟩) 1 1) [z] :=
  ⟨rfl, .inr ⟨w.heap.size, 1, #[.int .i64 z], rfl, Nat.le_refl _, new_block w _, Nat.le_refl _, by unfold maxLen; omega, rfl, rfl⟩⟩
/-- append of two numbers onto one of two rows, at a step of a region that draws. -/
theorem step_app2 {w : World} {ops : Array Oper} {o : Oper} {a : Act} {K : Act → World → Prop} {Q : Exit → Act → World → Prop} {E : Prop} (hgd : o.guard = none) (s x : Operand)
    (ho : o.op = .call { callee := .builtin .append, args := #[s, x], argTypes := #[33, 33] })
    (base : Nat) (v : Value) (xs : List Int) (hs : a.eval s = v) (hown : Own w base v xs) (ov : Value) (zs : List Int) (hoth : Own w base ov zs) (hap : Apart v ov) (X : Nat) (y z : Int) (hx : a.eval x = .slice (some ⟨X, 0, none⟩) 2 2)
    (h0 : w.cell? ⟨X, 0, none⟩ = some (.int .i64 y)) (h1 : w.cell? ⟨X, 1, none⟩ = some (.int .i64 z)) (hlen : xs.length + 2 ≤ 1000000) (hbase : base ≤ w.heap.size)
    (h : ∀ p c w', Own w' base (.slice p (xs.length + 2) c) (xs ++ [y, z]) → Own w' base ov zs → Apart (.slice p (xs.length + 2) c) ov → (∀ w0, Lo w0 w → w0.heap.size = base → Lo w0 w') → (∀ T, T < w.heap.size → v.ownBlock ≠ some T → w'.heap[T]? = w.heap[T]?) → w.heap.size ≤ w'.heap.size → K (a.put o.dst (.slice p (xs.length + 2) c)) w') :
    if Region.wanted o (yielded ops a.tmps) = true then Oper.wp Try.prog o a w K Q else E := by
  obtain ⟨i0, hi0, hz0, hz1, hz2⟩ := info_parts int_info
  refine step_append_lies w hgd s x 33 ho base 3 i0 _ 1 8 Try.underlying33 hi0 hz0 hz1 hz2 rfl (by omega) v xs.length _ hs hown ⟨X, 0, .none⟩ 2 2 [.int .i64 y, .int .i64 z] hx rfl ?_ ?_ (by omega) (by unfold maxLen; omega) (by omega) hbase _ rfl ?_
  · intro j u hj
    have e1 : (⟨X, 0, none⟩ : Addr).add j = ⟨X, j, none⟩ := by unfold Addr.add; split <;> simp_all
    rw [e1]
    match j, hj with
    | 0, hj => simp at hj; subst hj; exact h0
    | 1, hj => simp at hj; subst hj; exact h1
    | j + 2, hj => simp at hj
  · intro u hu
    simp only [List.mem_cons, List.not_mem_nil, or_false] at hu
    rcases hu with rfl | rfl <;> rfl
  · intro g cap2 w' hown' hg hwhere _
    have hown2 : Own w' base (.slice (some ⟨g, 0, none⟩) (xs.length + 2) cap2) (xs ++ [y, z]) := by
      unfold Own
      rw [List.length_append, List.map_append]
      exact hown'
    refine h _ _ w' hown2 (own_keep hoth hg hap) ?_ ?_ ?_ ?_
    · intro g' hg' ho'
      injection hg' with hg'
      subst hg'
      rcases hwhere with hw | hw
      · exact hap _ hw ho'
      · have hl : g < w.heap.size := own_lt hoth ho'
        omega
    · intro w0 hlo hb0
      exact Below.grown hlo hg hlo.size (fun k hk => by rw [hb0]; exact (World.ownsRow.lt hown k hk).1)
    · intro T hT hne
      exact hg.block T hT (fun e => hne e.symm)
    · exact hg.size
theorem own_old {w : World} {base : Nat} {v : Value} {l : List Int} (h : Own w base v l) {T : Nat} (hT : w.heap.size ≤ T) : v.ownBlock ≠ some T := fun e => by
  have := own_lt h e
  omega
end Go.Proofs.Ytcnmfgdeanbhoaa
