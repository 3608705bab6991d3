/-
  The contract of cover.Find (a search by halves with a goto): it answers what the plain function says. No conditions beyond those stated.
-/
import Derived.Test.YtnamkelmbhankaaCoIs
import Derived.ScopeJumps
import Derived.WalkMore
namespace Co
theorem find_idx {l : List Int} (h : isCov l = true) {i : Nat} (hi : i < l.length) {g : Int} (hg : l.getD i 0 = g) : find l g = (i, true) := by rw [← hg]; exact find_at h hi
theorem find_out {l : List Int} {g : Int} (h : ∀ i, i < l.length → l.getD i 0 ≠ g) : find l g = (0, false) := by
  refine find_no (.inr fun hm => ?_)
  obtain ⟨i, hi, e⟩ := List.mem_iff_getElem.1 hm
  exact h i hi (by simp [List.getD, List.getElem?_eq_getElem hi, e])
end Co
namespace Go.Proofs.Ytnamkelmbhankaa
open Go.RowKit

set_option maxHeartbeats 400000 in
theorem cofind_arg (v : Value) (l : List Int) (g : Int) (w : World) (h : Row w v l) (hc : Co.isCov l = false) :
    Calls Try.prog 13 #[v, .int .i64 g] w fun e w' => e = .returned (.tuple #[.int .i64 0, .bool false]) ∧ w = w' := by
  have HI := Lib.hid (cois_any v l w h)
  rw [hc] at HI
  obtain ⟨p, c, rfl, _⟩ := h.form
  clear h hc
  go_enter Try.func13, Try.ntmps13
  go_wp2_with fail
  go_step3
  go_wp2_with fail
  refine HI.out.mono ?_
  rintro e w1 ⟨rfl, rfl⟩
  go_wp2_with fail
  rw [Exit.noGoto_ret]
  go_ret2
  exact ⟨rfl, rfl⟩

set_option maxRecDepth 100000 in
set_option maxHeartbeats 1000000 in
theorem cofind_ok (v : Value) (l : List Int) (g : Int) (w : World) (h : Row w v l) (hc : Co.isCov l = true) :
    Calls Try.prog 13 #[v, .int .i64 g] w fun e w' => e = .returned (.tuple #[.int .i64 ((Co.find l g).1 : Nat), .bool (Co.find l g).2]) ∧ w = w' := by
  have HI := Lib.hid (cois_any v l w h)
  rw [hc] at HI
  obtain ⟨p, c, rfl, _⟩ := h.form
  have HR := Lib.hid h
  have hn : l.length ≤ 65535 := Co.cov_len hc
  have HF := Lib.hid (fun (i : Nat) (hi : i < l.length) (he : l.getD i 0 = g) => Co.find_idx hc hi he)
  have HO := Lib.hid (fun (k : ∀ i, i < l.length → l.getD i 0 ≠ g) => Co.find_out k)
  have HLess := Lib.hid (Co.cov_less hc)
  generalize Co.find l g = ans at *
  generalize hN : l.length = n at *
  have HNn := Lib.hid hN
  clear h hc hN
  go_enter Try.func13, Try.ntmps13
  go_wp2_with fail
  refine wp_scope_jumps 0 (fun a' w' => w' = w ∧ ∃ (lo hi : Nat) (u8 u14 u15 u16 u17 u18 u19 u20 u21 u22 u23 u24 u25 u26 u27 u28 u29 u30 u31 u32 u33 u34 u35 u36 : Value), a' = { tmps := #[.slice p n c, .int .i64 g, undef, undef, .int .i64 0, .bool false, .int .i64 (lo : Int), .int .i64 (hi : Int), u8, .slice p n c, .bool true, .bool false, .slice p n c, .int .i64 (n : Int), u14, u15, u16, u17, u18, u19, u20, u21, u22, u23, u24, u25, u26, u27, u28, u29, u30, u31, u32, u33, u34, u35, u36], defers := [] } ∧ lo ≤ hi ∧ hi ≤ n ∧ Hid (∀ i, i < n → l.getD i 0 = g → lo ≤ i ∧ i < hi))
    (fun a' _ => (intOf (a'.tmps.getD 7 undef)).toNat - (intOf (a'.tmps.getD 6 undef)).toNat) rfl ?_ ?_
  · go_wp2_with fail
    refine HI.out.mono ?_
    rintro e w1 ⟨rfl, rfl⟩
    by_cases h0 : 0 = n
    · subst h0
      go_wp2_with fail
      go_step3
      go_wp2_with fail
      simp only [Exit.jump]
      go_ret2
      rw [HO.out (fun i hi => by omega)]
      exact ⟨rfl, rfl⟩
    · have hq : ((0 : Int) == (n : Int)) = false := by simp; omega
      obtain ⟨mid, hm⟩ : ∃ m, (0 + n) / 2 = m := ⟨_, rfl⟩
      have hmid : (n : Int) / 2 = (mid : Int) := by omega
      have hb1 : 0 ≤ mid ∧ mid < n := by omega
      have hb2 : mid < n := by omega
      have hb3 : (mid : Int) < (n : Int) := by omega
      obtain ⟨b, off, rfl, cm⟩ := HR.out.at_ (k := mid) hb2
      have HF1 := Lib.hid (HF.out mid hb2)
      have HL1 := Lib.hid (fun (i : Nat) (h : i < mid) => HLess.out mid i h hb2)
      have HL2 := Lib.hid (fun (i : Nat) (h : mid < i) (h2 : i < n) => HLess.out i mid h h2)
      generalize hz : l.getD mid 0 = z at *
      have HZ := Lib.hid hz
      clear hz
      by_cases hg : z = g
      · have hqg : (z == g) = true := by simpa using hg
        have HA := Lib.hid (HF1.out hg)
        clear hg hm HF1 HL1 HL2
        go_wp2_with fail
        go_step3
        go_wp2_with fail
        simp only [Exit.jump]
        go_ret2
        rw [HA.out]
        exact ⟨rfl, rfl⟩
      · have hqg : (z == g) = false := by simpa using hg
        by_cases hlt : z < g
        · have HS : Hid (∀ i, i < n → l.getD i 0 = g → mid + 1 ≤ i ∧ i < n) := Lib.hid (fun i hi' he => by
            have h1 : 0 ≤ i ∧ i < n := ⟨Nat.zero_le _, hi'⟩
            have h2 := HZ.out
            rcases Nat.lt_trichotomy i mid with h | h | h
            · have := HL1.out i h; omega
            · subst h; omega
            · omega)
          clear hg HF1 HL1 HL2 HZ
          go_wp2_with fail
          go_step3
          go_wp2_with fail
          go_step3
          exact ⟨rfl, rfl, mid + 1, n, _, _, _, _, _, _, _, _, _, _, _, _, _, _, _, _, _, _, _, _, _, _, _, _, rfl, by omega, by omega, HS⟩
        · have HS : Hid (∀ i, i < n → l.getD i 0 = g → 0 ≤ i ∧ i < mid) := Lib.hid (fun i hi' he => by
            have h1 : 0 ≤ i ∧ i < n := ⟨Nat.zero_le _, hi'⟩
            have h2 := HZ.out
            rcases Nat.lt_trichotomy i mid with h | h | h
            · omega
            · subst h; omega
            · have := HL2.out i h hi'; omega)
          clear hg HF1 HL1 HL2 HZ
          go_wp2_with fail
          go_step3
          go_wp2_with fail
          go_step3
          exact ⟨rfl, rfl, 0, mid, _, _, _, _, _, _, _, _, _, _, _, _, _, _, _, _, _, _, _, _, _, _, _, _, rfl, by omega, by omega, HS⟩
  · rintro a' w' ⟨rfl, lo, hi, u8, u14, u15, u16, u17, u18, u19, u20, u21, u22, u23, u24, u25, u26, u27, u28, u29, u30, u31, u32, u33, u34, u35, u36, rfl, hlo, hhi, HB⟩
    by_cases h0 : lo = hi
    · have hq : ((lo : Int) == (hi : Int)) = true := by simp [h0]
      have HA := Lib.hid (HO.out (fun i hi' he => by have := HB.out i hi' he; omega))
      clear h0
      go_wp2_with fail
      simp only [Exit.jump]
      go_ret2
      rw [HA.out]
      exact ⟨rfl, rfl⟩
    · have hq : ((lo : Int) == (hi : Int)) = false := by simp; omega
      obtain ⟨mid, hm⟩ : ∃ m, (lo + hi) / 2 = m := ⟨_, rfl⟩
      have hmid : ((lo : Int) + (hi : Int)) / 2 = (mid : Int) := by omega
      have hb1 : lo ≤ mid ∧ mid < hi := by omega
      have hb2 : mid < n := by omega
      have hb3 : (mid : Int) < (n : Int) := by omega
      obtain ⟨b, off, rfl, cm⟩ := HR.out.at_ (k := mid) hb2
      have HF1 := Lib.hid (HF.out mid hb2)
      have HL1 := Lib.hid (fun (i : Nat) (h : i < mid) => HLess.out mid i h hb2)
      have HL2 := Lib.hid (fun (i : Nat) (h : mid < i) (h2 : i < n) => HLess.out i mid h h2)
      generalize hz : l.getD mid 0 = z at *
      have HZ := Lib.hid hz
      clear hz
      by_cases hg : z = g
      · have hqg : (z == g) = true := by simpa using hg
        have HA := Lib.hid (HF1.out hg)
        clear hg hm HF1 HL1 HL2
        go_wp2_with fail
        simp only [Exit.jump]
        go_ret2
        rw [HA.out]
        exact ⟨rfl, rfl⟩
      · have hqg : (z == g) = false := by simpa using hg
        by_cases hlt : z < g
        · have HS : Hid (∀ i, i < n → l.getD i 0 = g → mid + 1 ≤ i ∧ i < hi) := Lib.hid (fun i hi' he => by
            have h1 := HB.out i hi' he
            have h2 := HZ.out
            rcases Nat.lt_trichotomy i mid with h | h | h
            · have := HL1.out i h; omega
            · subst h; omega
            · omega)
          clear hg HF1 HL1 HL2 HZ
          go_wp2_with fail
          go_step3
          refine ⟨rfl, ⟨rfl, mid + 1, hi, _, _, _, _, _, _, _, _, _, _, _, _, _, _, _, _, _, _, _, _, _, _, _, _, rfl, by omega, by omega, HS⟩, ?_⟩
          simp [intOf]; omega
        · have HS : Hid (∀ i, i < n → l.getD i 0 = g → lo ≤ i ∧ i < mid) := Lib.hid (fun i hi' he => by
            have h1 := HB.out i hi' he
            have h2 := HZ.out
            rcases Nat.lt_trichotomy i mid with h | h | h
            · omega
            · subst h; omega
            · have := HL2.out i h hi'; omega)
          clear hg HF1 HL1 HL2 HZ
          go_wp2_with fail
          go_step3
          refine ⟨rfl, ⟨rfl, lo, mid, _, _, _, _, _, _, _, _, _, _, _, _, _, _, _, _, _, _, _, _, _, _, _, _, rfl, by omega, by omega, HS⟩, ?_⟩
          simp [intOf]; omega

/-- cover.Find. -/
theorem cofind_any (v : Value) (l : List Int) (g : Int) (w : World) (h : Row w v l) :
    Calls Try.prog 13 #[v, .int .i64 g] w fun e w' => e = .returned (.tuple #[.int .i64 ((Co.find l g).1 : Nat), .bool (Co.find l g).2]) ∧ w = w' := by
  cases hc : Co.isCov l with
  | false => rw [Co.find_no (.inl hc)]; exact cofind_arg v l g w h hc
  | true => exact cofind_ok v l g w h hc
end Go.Proofs.Ytnamkelmbhankaa
