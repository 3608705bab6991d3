/-
  Contracts of the document's answers for layer 13: size, wide, Is, Get. No conditions beyond those stated.
-/
import Derived.Test.YtcbchnckeeklkaaKoAll
import Derived.Test.YtcbchnckeeklkaaBnRefP
import Derived.Test.YtcbchnckeeklkaaBnRefW
import Derived.Test.YtcbchnckeeklkaaGkBytes
namespace Ko
theorem place_le {k : Nat} (h : k ≤ 56) : place k ≤ 214 := by
  unfold place
  by_cases h1 : k ≤ 4
  · rw [if_pos h1]; omega
  · rw [if_neg h1]
    by_cases h2 : k ≤ 55
    · rw [if_pos h2]; omega
    · rw [if_neg h2]; omega
/-- The first k constants. -/
def rowTo (t : List UInt8) (k : Nat) : List Int := (List.range k).map fun j => He.fld t (place j) (size j)
theorem rowTo_len (t : List UInt8) (k : Nat) : (rowTo t k).length = k := by simp [rowTo]
theorem rowTo_all (t : List UInt8) : rowTo t 56 = row t := rfl
theorem rowTo_step (t : List UInt8) (k : Nat) : rowTo t (k + 1) = rowTo t k ++ [Bn.one ((t.drop (place k)).take 2) (size k)] := by
  unfold rowTo
  rw [List.range_succ, List.map_append]
  simp [He.fld, size_abs]
end Ko
namespace Go.Proofs.Ytcbchnckeeklkaa
open Go.RowKit

set_option maxHeartbeats 400000 in
theorem rsize13_any (k : Nat) (w : World) : Calls Try.prog 24 #[.int .i64 (k : Int)] w fun e w' => e = .returned (.int .i64 (Ko.size k)) ∧ w = w' := by
  unfold Ko.size
  by_cases c1 : k = 2 ∨ k = 3
  · rw [if_pos c1]
    rcases c1 with rfl | rfl
    · go_enter Try.func24, Try.ntmps24
      go_wp2_with fail
      go_ret
      exact ⟨rfl, rfl⟩
    · go_enter Try.func24, Try.ntmps24
      go_wp2_with fail
      go_ret
      exact ⟨rfl, rfl⟩
  · rw [if_neg c1]
    have n2 : ((k : Int) == 2) = false := by simp; omega
    have n3 : ((k : Int) == 3) = false := by simp; omega
    clear c1
    generalize (k : Int) = z at *
    go_enter Try.func24, Try.ntmps24
    go_wp2_with fail
    go_ret
    exact ⟨rfl, rfl⟩

set_option maxHeartbeats 400000 in
theorem rwide13_any (k : Nat) (w : World) : Calls Try.prog 25 #[.int .i64 (k : Int)] w fun e w' => e = .returned (.int .i64 (Ko.wide k : Nat)) ∧ w = w' := by
  unfold Ko.wide
  by_cases c2 : 4 ≤ k ∧ k ≤ 54
  · rw [if_pos c2]
    have g1 : (4 : Int) ≤ (k : Int) := by omega
    have g2 : (k : Int) ≤ 54 := by omega
    clear c2
    generalize (k : Int) = z at *
    go_enter Try.func25, Try.ntmps25
    go_wp2_with fail
    go_ret
    exact ⟨rfl, rfl⟩
  · rw [if_neg c2]
    by_cases g1 : (4 : Int) ≤ (k : Int)
    · have g2 : ¬ (k : Int) ≤ 54 := by omega
      clear c2
      generalize (k : Int) = z at *
      go_enter Try.func25, Try.ntmps25
      go_wp2_with fail
      go_ret
      exact ⟨rfl, rfl⟩
    · clear c2
      generalize (k : Int) = z at *
      go_enter Try.func25, Try.ntmps25
      go_wp2_with fail
      go_ret
      exact ⟨rfl, rfl⟩

set_option maxHeartbeats 1600000 in
theorem ris13_any (v : Value) (l : List Int) (w : World) (h : Row w v l) :
    Calls Try.prog 19 #[v] w fun e w' => e = .returned (.bool (Ko.isK l)) ∧ Lo w w' := by
  obtain ⟨p, c, rfl, hlen⟩ := h.form
  by_cases h56 : l.length = 56
  · have HS := Lib.hid (fun k W => rsize13_any k W)
    have HF := Lib.hid (fun n k W => rfits_any n (Ko.size k) W (Ko.size_is k))
    have HR := Lib.hid h
    rw [h56] at HR ⊢
    have HNo := Lib.hid (fun k (hk : k < 56) => @Ko.isK_no l k hk)
    have HYes := Lib.hid (@Ko.isK_yes l h56)
    generalize Ko.isK l = y at *
    clear h h56 hlen
    go_enter Try.func19, Try.ntmps19
    go_wp2_with fail
    go_loopw [3] (fun i W => ∃ k : Nat, k ≤ 56 ∧ i = .int .i64 k ∧ Hid (∀ j, j < k → Bn.fits (l.getD j 0) (Ko.size j) = true) ∧ Hid (Lo w W)) (fun i _ => 56 - (intOf i).toNat)
    case atStart => exact ⟨0, by omega, rfl, Lib.hid (fun j hj => absurd hj (Nat.not_lt_zero _)), Lib.hid (Lo.refl _)⟩
    case round =>
      obtain ⟨k, hk, rfl, HI, HL⟩ := hrel
      by_cases hlt : k < 56
      · obtain ⟨b, off, rfl, hcell⟩ := (HR.out.lo HL.out).at_ hlt
        have HSk := Lib.hid (fun W => HS.out k W)
        have HFk := Lib.hid (fun W => HF.out (l.getD k 0) k W)
        have HNk := Lib.hid (HNo.out k hlt)
        have HIk : Hid (Bn.fits (l.getD k 0) (Ko.size k) = true → ∀ j, j < k + 1 → Bn.fits (l.getD j 0) (Ko.size j) = true) := Lib.hid (by
          intro hf j hj
          rcases Nat.lt_or_ge j k with hl | hl
          · exact HI.out j hl
          · obtain rfl : j = k := by omega
            exact hf)
        have s1 : (0 : Int) ≤ (k : Int) := by omega
        have s2 : (k : Int) < 56 := by omega
        cases hb : Bn.fits (l.getD k 0) (Ko.size k) with
        | false =>
          have HE := Lib.hid (HNk.out hb)
          rw [hb] at HFk
          generalize l.getD k 0 = x at *
          generalize Ko.size k = z at *
          clear hb HIk HNk HI HYes HNo
          go_wp2_with fail
          go_quiet (first
            | (go_at_call 24; exact quiet' (HSk.out _))
            | (go_at_call 31; exact quiet' (HFk.out _)))
          have HL2 := Lib.hid (HL.out.drewN nq)
          go_wp2_with fail
          go_ret
          exact ⟨ret_bool HE.out.symm, HL2.out⟩
        | true =>
          have HI2 := Lib.hid (HIk.out hb)
          rw [hb] at HFk
          generalize hx : l.getD k 0 = x at *
          generalize hz : Ko.size k = z at *
          clear hx hz
          clear hb HIk HNk HI
          go_wp2_with fail
          go_quiet (first
            | (go_at_call 24; exact quiet' (HSk.out _))
            | (go_at_call 31; exact quiet' (HFk.out _)))
          have HL2 := Lib.hid (HL.out.drewN nq)
          go_wp2_with fail
          go_roundw
          case rel => exact ⟨k + 1, by omega, by go_num, HI2, HL2⟩
          case measure => simp [intOf]; omega
      · obtain rfl : k = 56 := by omega
        have HE := Lib.hid (HYes.out HI.out)
        go_wp2_with fail
        go_ret
        exact ⟨ret_bool HE.out.symm, HL.out⟩
  · rw [Ko.isK_short h56]
    have hne : ((l.length : Int) == 56) = false := by simp; omega
    generalize l.length = n at *
    clear h h56
    by_cases h0 : (0 : Int) < (n : Int)
    · go_enter Try.func19, Try.ntmps19
      go_wp2_with fail
      go_loop [3] (fun i => i = .int .i64 0) (fun _ => 1)
      case atStart => rfl
      case round =>
        subst hrel
        go_wp2_with fail
        go_ret
        exact ⟨rfl, Lo.refl _⟩
    · go_enter Try.func19, Try.ntmps19
      go_wp2_with fail
      go_loop [3] (fun i => i = .int .i64 0) (fun _ => 1)
      case atStart => rfl
      case round =>
        subst hrel
        go_wp2_with fail
        go_ret
        exact ⟨rfl, Lo.refl _⟩
end Go.Proofs.Ytcbchnckeeklkaa
