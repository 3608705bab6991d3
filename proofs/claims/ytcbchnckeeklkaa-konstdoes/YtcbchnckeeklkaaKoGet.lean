/-
  The contract of konst.Get: it answers what the plain function on bytes says. No conditions beyond those stated.
-/
import Derived.Test.YtcbchnckeeklkaaKoAll
namespace Ko
/-- The numbers that are laid so far, noughts behind them. -/
def laid (R : List Int) (k : Nat) : List Int := R.take k ++ List.replicate (56 - k) 0
theorem laid_len {R : List Int} (h : R.length = 56) {k : Nat} (hk : k ≤ 56) : (laid R k).length = 56 := by
  unfold laid
  rw [List.length_append, List.length_take, List.length_replicate]; omega
theorem laid_start (R : List Int) : laid R 0 = List.replicate 56 0 := rfl
theorem laid_all {R : List Int} (h : R.length = 56) : laid R 56 = R := by
  unfold laid
  rw [List.take_of_length_le (by omega)]; simp
theorem laid_step {R : List Int} (h : R.length = 56) {k : Nat} (hk : k < 56) : (laid R k).set k (R.getD k 0) = laid R (k + 1) := by
  unfold laid
  have e : 56 - k = (56 - (k + 1)) + 1 := by omega
  have hl : (R.take k).length = k := by rw [List.length_take]; omega
  rw [e, List.replicate_succ, Bn.take_snoc (show k < R.length by omega), List.append_assoc]
  have := List.set_append (s := R.take k) (t := 0 :: List.replicate (56 - (k + 1)) (0 : Int)) (i := k) (x := R.getD k 0)
  rw [this, hl, if_neg (by omega), Nat.sub_self]
  rfl
end Ko
namespace Go.Proofs.Ytcbchnckeeklkaa
open Go.RowKit

set_option maxHeartbeats 800000 in
theorem kget_no (s : List UInt8) (pos : Int) (w : World) (hl : s.length ≤ 9223372036854775807) (h1 : pos ≤ 9223372036854775807) (k : Int) (hk : (Ko.get s pos).2 = k) (h0 : k ≠ 0) :
    Calls Try.prog 8 #[.string ⟨s.toArray⟩, .int .i64 pos] w (GotRow ([], k) w) := by
  have HA := Lib.hid (fun W => allSizesK_any W)
  have hb := Ko.bin_get s pos
  rw [if_neg (by rw [hk]; exact h0), hk] at hb
  have HG := Lib.hid (fun v W (h : Row W v (Ko.szTo 56)) => get_any s pos v (Ko.szTo 56) W h (by rw [Ko.sz_len]; omega) hl h1)
  rw [hb] at HG
  unfold GotRow at HG
  have hkb : (k == 0) = false := by simpa using h0
  clear hb hk h0 hl h1
  go_enter Try.func8, Try.ntmps8
  go_wp2_with fail
  refine (HA.out _).mono ?_
  rintro e w1 ⟨p, c, rfl, hrow, lo⟩
  have HR := Lib.hid hrow
  have HL := Lib.hid lo
  clear hrow lo HA
  go_wp2_with fail
  refine (HG.out _ _ HR.out).mono ?_
  rintro e w2 ⟨p2, c2, rfl, hrow, lo⟩
  have HL2 := Lib.hid (HL.out.trans lo)
  clear hrow lo HG HL HR
  dsimp only
  go_wp2_with fail
  go_ret2
  exact GotRow.nil rfl HL2.out

set_option maxRecDepth 100000 in
set_option maxHeartbeats 1600000 in
theorem kget_yes (s : List UInt8) (pos : Int) (w : World) (hl : s.length ≤ 9223372036854775807) (h1 : pos ≤ 9223372036854775807) (hk : (Ko.get s pos).2 = 0) :
    Calls Try.prog 8 #[.string ⟨s.toArray⟩, .int .i64 pos] w (GotRow (Ko.row (s.drop pos.toNat), 0) w) := by
  have HA := Lib.hid (fun W => allSizesK_any W)
  have HZ := Lib.hid (fun W => sizer_any W)
  have HC := Lib.hid (fun k B W h => sizer1_any k B W h)
  have hb := Ko.bin_get s pos
  rw [if_pos hk] at hb
  have HG := Lib.hid (fun v W (h : Row W v (Ko.szTo 56)) => get_any s pos v (Ko.szTo 56) W h (by rw [Ko.sz_len]; omega) hl h1)
  rw [hb] at HG
  unfold GotRow at HG
  dsimp only at HG
  rw [Ko.flds_len] at HG
  have hrl := Ko.row_len (s.drop pos.toNat)
  have HAt := Lib.hid (fun k (h : k < 56) => Ko.row_take (s.drop pos.toNat) h)
  have hfl := Ko.flds_len (s.drop pos.toNat)
  generalize Ko.flds (s.drop pos.toNat) = F at *
  unfold GotRow
  dsimp only
  rw [hrl]
  generalize Ko.row (s.drop pos.toNat) = R at *
  have HRl := Lib.hid hrl
  have HFl := Lib.hid hfl
  have hmk := fun W => madeW_run 56 (by omega) W
  rw [show ((56 : Nat) : Int) = 56 from rfl] at hmk
  clear hb hk hl h1 hrl hfl
  go_enter Try.func8, Try.ntmps8
  go_wp2_with fail
  refine (HA.out _).mono ?_
  rintro e w1 ⟨p, c, rfl, hrow, lo⟩
  have HR := Lib.hid hrow
  have HL := Lib.hid lo
  clear hrow lo HA
  go_wp2_with fail
  refine (HG.out _ _ HR.out).mono ?_
  rintro e w2 ⟨p2, c2, rfl, hrow, lo⟩
  have HL2 := Lib.hid (HL.out.trans lo)
  have HR2 := Lib.hid hrow
  clear hrow lo HG HL HR
  go_wp2_with fail
  refine (HZ.out _).mono ?_
  rintro e w3 ⟨B, rfl, hs, lo⟩
  have HS := Lib.hid hs
  have HL3 := Lib.hid (HL2.out.trans lo)
  have HR3 := Lib.hid (HR2.out.lo lo)
  clear hs lo HZ HL2 HR2
  go_wp2_with fail
  have HM3 := Lib.hid (madeW_at 56 w3)
  have HLm := Lib.hid (madeW_lo 56 w3)
  generalize madeW 56 w3 = w4 at *
  clear hmk
  generalize hG : w3.heap.size = G at *
  have HGs := Lib.hid hG
  clear hG
  go_loopw [6, 25] (fun v i W => ∃ (k : Nat) (p : Option Addr) (n c : Nat), k ≤ 56 ∧ i = .int .i64 k ∧ v = .slice p n c ∧ Hid (n = 107 - Ko.idx k) ∧ Hid (Row w3 (.slice p n c) (F.drop (Ko.idx k))) ∧ Hid (ArrAt W G 3 (Ko.laid R k)) ∧ Hid (Lo w3 W)) (fun _ i _ => 56 - (intOf i).toNat)
  case atStart => exact ⟨0, p2, 107, c2, by omega, rfl, rfl, Lib.hid rfl, Lib.hid (by show Row w3 _ (F.drop 0); rw [List.drop_zero]; exact HR3.out), HM3, HLm⟩
  case round =>
    obtain ⟨k, p, n, c, hk, rfl, rfl, HN, HRk, HArr, HLk⟩ := hrel
    by_cases hlt : k < 56
    · have hi := Ko.idx_lt hlt
      have hpos := Ko.szK_len k
      obtain ⟨b, off, rfl, hcell⟩ := (HRk.out.lo HLk.out).at_ (k := 0) (by rw [HN.out]; omega)
      rw [Nat.add_zero, ← HAt.out k hlt] at hcell
      have hdl : (F.drop (Ko.idx k)).length = 107 - Ko.idx k := by rw [List.length_drop, HFl.out]
      obtain ⟨p3, c3, hsl, hrow3⟩ := row_from HRk.out (Ko.szK k).length ((Ko.szK k).length : Int) rfl (by rw [hdl]; omega) (by rw [hdl]; omega)
      have e3 : (F.drop (Ko.idx k)).length - (Ko.szK k).length = 107 - Ko.idx (k + 1) := by rw [hdl, Ko.idx_step]; omega
      rw [List.drop_drop, ← Ko.idx_step] at hrow3
      rw [e3] at hrow3 hsl
      obtain ⟨n4, hn4⟩ : ∃ n4, 107 - Ko.idx (k + 1) = n4 := ⟨_, rfl⟩
      have HN4 := Lib.hid hn4.symm
      rw [hn4] at hrow3 hsl
      have HR4 := Lib.hid hrow3
      have hfz := HArr.out.frozen k
      have hold := HArr.out.cell (i := k) (by rw [Ko.laid_len HRl.out hk]; exact hlt)
      have HA5 := Lib.hid (HArr.out.set k (R.getD k 0))
      rw [Ko.laid_step HRl.out hlt] at HA5
      have HL5 := Lib.hid (HLk.out.set (p := ⟨G, k, none⟩) (by rw [HGs.out]; exact Nat.le_refl _) (.int .i64 (R.getD k 0)))
      have HCk := Lib.hid (fun W h => HC.out k B W h)
      generalize (Ko.szK k).length = m at *
      generalize R.getD k 0 = x at *
      have hnn : 0 < n := by have := HN.out; omega
      clear hrow3 hdl e3 hi hn4 hpos
      go_wp2_with fail
      refine (HCk.out _ (HS.out.lo HL5.out)).mono ?_
      rintro e w5 ⟨rfl, rfl⟩
      go_wp2_with fail
      go_roundw
      case rel => exact ⟨k + 1, p3, n4, c3, by omega, by go_num, rfl, HN4, HR4, HA5, HL5⟩
      case measure => simp [intOf]; omega
    · obtain rfl : k = 56 := by omega
      rw [Ko.laid_all HRl.out] at HArr
      have hrow := HArr.out.row (n := 56) (cap := 56) (Nat.le_of_eq HRl.out.symm) (Nat.le_refl _) (by omega)
      rw [List.take_of_length_le (Nat.le_of_eq HRl.out)] at hrow
      have HE := Lib.hid hrow
      clear hrow
      go_wp2_with fail
      go_ret2
      exact ⟨_, _, rfl, HE.out, HL3.out.trans HLk.out⟩

/-- konst.Get. -/
theorem kget_any (s : List UInt8) (pos : Int) (w : World) (hl : s.length ≤ 9223372036854775807) (h1 : pos ≤ 9223372036854775807) :
    Calls Try.prog 8 #[.string ⟨s.toArray⟩, .int .i64 pos] w (GotRow (Ko.get s pos) w) := by
  rcases Ko.get_cases s pos with ⟨h, e⟩ | ⟨h, e⟩
  · rw [e]; exact kget_yes s pos w hl h1 h
  · rw [e]; exact kget_no s pos w hl h1 _ rfl h
end Go.Proofs.Ytcbchnckeeklkaa
