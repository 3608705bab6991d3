/-
  Contracts of sort.Search, chart.search and chart.Look: a rune's glyph. No conditions beyond those stated.
-/
import Derived.Test.YtnlifmedkkboaaaChIs
import Derived.Deep.RegionWith
namespace Go.Proofs.Ytnlifmedkkboaaa
open Go.RowKit

set_option maxHeartbeats 1600000 in
/-- sort.Search, with a function value that may make memory. -/
theorem search_any (g : Nat) (caps : Array Value) (n : Nat) (p : Nat → Bool) (w : World) (hent : ∀ (i : Int) (W : World), (callFunc g (#[.int .i64 i] ++ caps)).run Try.prog W = .ok (.enter g (#[.int .i64 i] ++ caps)) W) (hn : n ≤ 65536)
    (hf : ∀ (i : Nat) (W : World), i < n → Lo w W → Calls Try.prog g (#[.int .i64 (i : Int)] ++ caps) W fun e w' => e = .returned (.bool (p i)) ∧ Lo W w') :
    Calls Try.prog 49 #[.int .i64 (n : Int), .func (.func g) #[] caps] w fun e w' => ∃ k : Nat, e = .returned (.int .i64 (k : Int)) ∧ k ≤ n ∧ (k = 0 ∨ p (k - 1) = false) ∧ (k = n ∨ p k = true) ∧ Lo w w' := by
  have HF := Lib.hid hf
  clear hf
  go_enter Try.func49, Try.ntmps49
  go_wp2_with fail
  go_loopw [5, 6, 7] (fun s5 s6 _ W => ∃ lo hi : Nat, s5 = .int .i64 lo ∧ s6 = .int .i64 hi ∧ lo ≤ hi ∧ hi ≤ n ∧ Hid ((lo = 0 ∨ p (lo - 1) = false) ∧ (hi = n ∨ p hi = true)) ∧ Hid (Lo w W)) (fun s5 s6 _ _ => (intOf s6).toNat - (intOf s5).toNat)
  case atStart => exact ⟨0, n, rfl, rfl, Nat.zero_le _, Nat.le_refl _, Lib.hid ⟨.inl rfl, .inl rfl⟩, Lib.hid (Lo.refl _)⟩
  case round =>
    obtain ⟨lo, hi, rfl, rfl, hlh, hin, HI, HL⟩ := hrel
    by_cases hlt : lo < hi
    · have hc := fun W hW => HF.out ((lo + hi) / 2) W (by omega) hW
      rw [show (((lo + hi) / 2 : Nat) : Int) = ((lo : Int) + (hi : Int)) / 2 by omega] at hc
      have HC := Lib.hid hc
      clear hc
      cases hp : p ((lo + hi) / 2) with
      | false =>
        rw [hp] at HC
        have HI2 : Hid (((lo + hi) / 2 + 1 = 0 ∨ p ((lo + hi) / 2 + 1 - 1) = false) ∧ (hi = n ∨ p hi = true)) := Lib.hid ⟨.inr hp, HI.out.2⟩
        clear hp HI
        go_wp2_with fail
        refine (HC.out _ HL.out).mono ?_
        rintro e w1 ⟨rfl, l1⟩
        have HL1 := Lib.hid (HL.out.trans l1)
        clear l1 HC
        go_wp2_with fail
        go_roundw
        case rel => exact ⟨(lo + hi) / 2 + 1, hi, by go_num, rfl, by omega, hin, HI2, HL1⟩
        case measure => simp [intOf]; omega
      | true =>
        rw [hp] at HC
        have HI2 : Hid ((lo = 0 ∨ p (lo - 1) = false) ∧ ((lo + hi) / 2 = n ∨ p ((lo + hi) / 2) = true)) := Lib.hid ⟨HI.out.1, .inr hp⟩
        clear hp HI
        go_wp2_with fail
        refine (HC.out _ HL.out).mono ?_
        rintro e w1 ⟨rfl, l1⟩
        have HL1 := Lib.hid (HL.out.trans l1)
        clear l1 HC
        go_wp2_with fail
        go_roundw
        case rel => exact ⟨lo, (lo + hi) / 2, rfl, by go_num, by omega, by omega, HI2, HL1⟩
        case measure => simp [intOf]; omega
    · obtain rfl : hi = lo := by omega
      go_wp2_with fail
      go_ret
      exact ⟨hi, rfl, hin, HI.out.1, HI.out.2, HL.out⟩

set_option maxHeartbeats 1600000 in
theorem place_any (b0 b1 b2 k : Nat) (l : List Ch.Span) (v : Value) (c : Int) (w : World) (h0 : w.cell? ⟨b0, 0, none⟩ = some (.func (.func 33) #[] #[])) (h1 : w.cell? ⟨b1, 0, none⟩ = some v) (h2 : w.cell? ⟨b2, 0, none⟩ = some (.int .i64 c)) (hr : SRow w v l) (hk : k < l.length) :
    Calls Try.prog 50 #[.int .i64 (k : Int), .pointer (some ⟨b0, 0, none⟩), .pointer (some ⟨b1, 0, none⟩), .pointer (some ⟨b2, 0, none⟩)] w fun e w' => e = .returned (.bool (decide (c ≤ (l.getD k Ch.zs).to))) ∧ Lo w w' := by
  obtain ⟨p, cp, rfl, hlen⟩ := RowK.form hr
  obtain ⟨b, off, rfl, r0, r1, r2, r3⟩ := SRow.at4 hr (Ch.getD_some hk)
  have HV := Lib.hid (fun W => reaches_any (l.getD k Ch.zs) c W)
  unfold aggS at HV
  generalize l.getD k Ch.zs = x at *
  generalize l.length = n at *
  clear hr
  go_enter Try.func50, Try.ntmps50
  go_wp2_with fail
  go_region_with (go_at_call 33; refine (HV.out _).mono ?_; rintro e w3 ⟨rfl, hlo⟩; have HL3 := Lib.hid (((Lo.refl w).drew).trans hlo); clear hlo)
  all_goals
    go_wp2_with fail
    go_ret
    exact ⟨rfl, HL3.out⟩
end Go.Proofs.Ytnlifmedkkboaaa
