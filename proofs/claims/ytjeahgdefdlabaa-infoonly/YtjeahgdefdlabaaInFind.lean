/-
  Contracts of the search's test, sort.Search by it, and info.Find: a glyph's value. No conditions beyond those stated.
-/
import Derived.Test.YtjeahgdefdlabaaInBase
namespace Go.Proofs.Ytjeahgdefdlabaa
open Go.RowKit

set_option maxHeartbeats 800000 in
theorem reached_any (p : Option Addr) (c : Nat) (l : List Ino.Pair) (g : Int) (k : Nat) (w : World) (hr : PRow w (.slice p l.length c) l) (hk : k < l.length) :
    Calls Try.prog 28 #[.agg #[.slice p l.length c, .int .i64 g], .int .i64 (k : Int)] w fun e w' => e = .returned (.bool (decide (g ≤ (l.getD k Ino.zp).1))) ∧ Lo w w' := by
  obtain ⟨b, off, rfl, r0, r1⟩ := PRow.at2 hr (Ino.getD_some hk)
  have hb := World.block_lt_of_cell? w _ r0
  generalize l.getD k Ino.zp = x at *
  generalize l.length = n at *
  clear hr
  obtain ⟨y, z⟩ := x
  dsimp only at r0 r1 ⊢
  go_enter Try.func28, Try.ntmps28
  go_wp2_with fail
  go_quiet (fail)
  go_wp2_with fail
  go_ret
  exact ⟨rfl, ((Lo.refl w).alloc _).drewN nq⟩

set_option maxHeartbeats 1600000 in
theorem isearch_any (p : Option Addr) (c : Nat) (l : List Ino.Pair) (g : Int) (w : World) (hr : PRow w (.slice p l.length c) l) (hn : l.length ≤ 65536) :
    Calls Try.prog 27 #[.int .i64 (l.length : Int), .func (.func 28) #[.agg #[.slice p l.length c, .int .i64 g]] #[]] w fun e w' => ∃ k : Nat, e = .returned (.int .i64 (k : Int)) ∧ k ≤ l.length ∧ (k = 0 ∨ (l.getD (k - 1) Ino.zp).1 < g) ∧ (k = l.length ∨ g ≤ (l.getD k Ino.zp).1) ∧ Lo w w' := by
  have HF := Lib.hid (fun (i : Nat) (W : World) (hi : i < l.length) (hW : Lo w W) => reached_any p c l g i W (RowK.lo hr hW) hi)
  clear hr
  obtain ⟨f, hf⟩ : ∃ f : Nat → Bool, ∀ i, decide (g ≤ (l.getD i Ino.zp).1) = f i := ⟨_, fun _ => rfl⟩
  have HE : Hid ((∀ i, f i = false → (l.getD i Ino.zp).1 < g) ∧ (∀ i, f i = true → g ≤ (l.getD i Ino.zp).1)) := Lib.hid ⟨fun i h => by rw [← hf i] at h; have := of_decide_eq_false h; omega, fun i h => by rw [← hf i] at h; exact of_decide_eq_true h⟩
  simp only [hf] at HF
  generalize l.length = n at *
  clear hf
  go_enter Try.func27, Try.ntmps27
  go_wp2_with fail
  go_loopw [5, 6, 7] (fun s5 s6 _ W => ∃ lo hi : Nat, s5 = .int .i64 lo ∧ s6 = .int .i64 hi ∧ lo ≤ hi ∧ hi ≤ n ∧ Hid ((lo = 0 ∨ f (lo - 1) = false) ∧ (hi = n ∨ f hi = true)) ∧ Hid (Lo w W)) (fun s5 s6 _ _ => (intOf s6).toNat - (intOf s5).toNat)
  case atStart => exact ⟨0, n, rfl, rfl, Nat.zero_le _, Nat.le_refl _, Lib.hid ⟨.inl rfl, .inl rfl⟩, Lib.hid (Lo.refl _)⟩
  case round =>
    obtain ⟨lo, hi, rfl, rfl, hlh, hin, HI, HL⟩ := hrel
    by_cases hlt : lo < hi
    · have hc := fun W hW => HF.out ((lo + hi) / 2) W (by omega) hW
      rw [show (((lo + hi) / 2 : Nat) : Int) = ((lo : Int) + (hi : Int)) / 2 by omega] at hc
      have HC := Lib.hid hc
      clear hc
      cases hp : f ((lo + hi) / 2) with
      | false =>
        rw [hp] at HC
        have HI2 : Hid (((lo + hi) / 2 + 1 = 0 ∨ f ((lo + hi) / 2 + 1 - 1) = false) ∧ (hi = n ∨ f hi = true)) := Lib.hid ⟨.inr hp, HI.out.2⟩
        clear hp HI
        go_wp2_with fail
        refine (HC.out _ HL.out).mono ?_
        rintro e w1 ⟨rfl, l1⟩
        have HL1 := Lib.hid (HL.out.trans l1)
        clear l1 HC
        go_wp2_with fail
        go_roundw
        case rel => exact ⟨(lo + hi) / 2 + 1, hi, by go_num, rfl, by omega, hin, HI2, HL1⟩
        case measure => simp [intOf]; omega
      | true =>
        rw [hp] at HC
        have HI2 : Hid ((lo = 0 ∨ f (lo - 1) = false) ∧ ((lo + hi) / 2 = n ∨ f ((lo + hi) / 2) = true)) := Lib.hid ⟨HI.out.1, .inr hp⟩
        clear hp HI
        go_wp2_with fail
        refine (HC.out _ HL.out).mono ?_
        rintro e w1 ⟨rfl, l1⟩
        have HL1 := Lib.hid (HL.out.trans l1)
        clear l1 HC
        go_wp2_with fail
        go_roundw
        case rel => exact ⟨lo, (lo + hi) / 2, rfl, by go_num, by omega, by omega, HI2, HL1⟩
        case measure => simp [intOf]; omega
    · obtain rfl : hi = lo := by omega
      go_wp2_with fail
      go_ret
      exact ⟨hi, rfl, hin, HI.out.1.imp id (HE.out.1 _), HI.out.2.imp id (HE.out.2 _), HL.out⟩

set_option maxHeartbeats 800000 in
theorem ifind_no (v : Value) (l : List Ino.Pair) (g : Int) (w : World) (h : PRow w v l) (hlen : l.length ≤ 1000000) (hc : Ino.isP l = false) :
    Calls Try.prog 10 #[v, .int .i64 g] w fun e w' => e = .returned (.tuple #[.int .i64 0, .bool false]) ∧ Lo w w' := by
  have HI := Lib.hid (iis_any v l w h hlen)
  rw [hc] at HI
  obtain ⟨p, c, rfl, _⟩ := RowK.form h
  clear h hc
  go_enter Try.func10, Try.ntmps10
  go_wp2_with fail
  refine HI.out.mono ?_
  rintro e w1 ⟨rfl, lo⟩
  have HL := Lib.hid lo
  clear lo
  go_wp2_with fail
  go_ret2
  exact ⟨rfl, HL.out⟩

set_option maxHeartbeats 1600000 in
theorem ifind_yes (v : Value) (l : List Ino.Pair) (g : Int) (w : World) (h : PRow w v l) (hc : Ino.isP l = true) :
    Calls Try.prog 10 #[v, .int .i64 g] w fun e w' => e = .returned (.tuple #[.int .i64 (Ino.find l g).1, .bool (Ino.find l g).2]) ∧ Lo w w' := by
  have hlen := Ino.is_len hc
  have HI := Lib.hid (iis_any v l w h (by omega))
  rw [hc] at HI
  obtain ⟨p, c, rfl, _⟩ := RowK.form h
  have HS := Lib.hid (fun W hr => isearch_any p c l g W hr (by omega))
  have HN := Lib.hid (fun k hk h1 h2 => Ino.find_near hc (g := g) (k := k) hk h1 h2)
  have HR := Lib.hid h
  have hmf : ∀ (fn : Fn) (first cap : Array Value) (w : World), (Instr.makeFunc fn first cap).run Try.prog w = .ok (.func fn first cap) w := fun _ _ _ _ => rfl
  have HGe := Lib.hid (fun k (hk : k < l.length) => Ino.getD_some hk)
  generalize Ino.find l g = ans at *
  generalize l.length = n at *
  clear h hc
  go_enter Try.func10, Try.ntmps10
  go_wp2_with fail
  refine HI.out.mono ?_
  rintro e w1 ⟨rfl, lo⟩
  have HL := Lib.hid lo
  have HR1 := Lib.hid (RowK.lo HR.out lo)
  clear lo HI HR
  go_wp2_with fail
  refine (HS.out _ HR1.out).mono ?_
  rintro e w2 ⟨k, rfl, hk, h1, h2, lo⟩
  have HL2 := Lib.hid (HL.out.trans lo)
  have HR2 := Lib.hid (RowK.lo HR1.out lo)
  have HNk := Lib.hid (HN.out k hk h1 h2)
  clear lo HL HR1 HS HN h1 h2
  by_cases hkn : k = n
  · subst hkn
    have HE := Lib.hid (HNk.out.1 rfl)
    clear HNk
    go_wp2_with fail
    go_ret2
    rw [HE.out]
    exact ⟨rfl, HL2.out⟩
  · have hlt : k < n := by omega
    have hkb : ((k : Int) == (n : Int)) = false := by rw [beq_eq_false_iff_ne]; omega
    obtain ⟨b, off, rfl, r0, r1⟩ := PRow.at2 HR2.out (HGe.out k hlt)
    have HM := Lib.hid (HNk.out.2.1 hlt)
    have HY := Lib.hid (HNk.out.2.2 hlt)
    clear HNk
    generalize l.getD k Ino.zp = x at *
    obtain ⟨y, z⟩ := x
    dsimp only at r0 r1 HM HY
    by_cases hg : y = g
    · have HE := Lib.hid (HY.out hg)
      have hgb : (y == g) = true := by simpa using hg
      clear HM HY hg
      go_wp2_with fail
      go_ret2
      rw [HE.out]
      exact ⟨rfl, HL2.out⟩
    · have HE := Lib.hid (HM.out hg)
      have hgb : (y == g) = false := by simpa using hg
      clear HM HY hg
      go_wp2_with fail
      go_ret2
      rw [HE.out]
      exact ⟨rfl, HL2.out⟩

/-- info.Find. -/
theorem ifind_any (v : Value) (l : List Ino.Pair) (g : Int) (w : World) (h : PRow w v l) (hlen : l.length ≤ 1000000) :
    Calls Try.prog 10 #[v, .int .i64 g] w fun e w' => e = .returned (.tuple #[.int .i64 (Ino.find l g).1, .bool (Ino.find l g).2]) ∧ Lo w w' := by
  cases hc : Ino.isP l with
  | false => rw [Ino.find_bad hc]; exact ifind_no v l g w h hlen hc
  | true => exact ifind_yes v l g w h hc
end Go.Proofs.Ytjeahgdefdlabaa
