/-
  The walk of the law FixedDoes: it returns true for all slices of ints and all ints. No conditions.
-/
import Derived.Test.YtnhegoimmlnmcaaFxRef2
import Derived.OpenShut
namespace Go.Proofs.Ytnhegoimmlnmcaa
open Go.RowKit

/-- A slice that reads as l, taken apart. -/
theorem Row.form {w : World} {v : Value} {l : List Int} (h : Row w v l) : ∃ p c, v = .slice p l.length c ∧ l.length ≤ 9223372036854775807 := by
  rcases h with ⟨p, c, rfl, _, rfl⟩ | ⟨b, off, cap, rfl, h2, h2b, h3, h4⟩
  · exact ⟨_, _, rfl, by simp⟩
  · exact ⟨_, _, rfl, h2⟩
theorem Row.at_ {w : World} {p : Option Addr} {n c : Nat} {l : List Int} (h : Row w (.slice p n c) l) {k : Nat} (hk : k < n) :
    ∃ b off, p = some ⟨b, off, none⟩ ∧ w.cell? ⟨b, off + k, none⟩ = some (.int .i64 (l.getD k 0)) := by
  rcases h with ⟨_, _, h1, _, rfl⟩ | ⟨b, off, cap, h1, h2, h2b, h3, h4⟩
  · injection h1 with _ h1 _; omega
  · injection h1 with hp hn _
    exact ⟨b, off, hp, h4 k (by omega)⟩

set_option maxRecDepth 100000 in
set_option maxHeartbeats 400000 in
theorem fixedDoes_many (p : Option Addr) (n cap : Nat) (a b c : Int) (w : World) (h : ¬ n ≤ 300) :
    Calls Try.prog 3 #[.slice p n cap, .int .i64 a, .int .i64 b, .int .i64 c] w fun e w' => e = .returned (.bool true) ∧ Lo w w' := by
  have hd : Hid (decide (n ≤ 300) = false) := by show _ = _; simpa using h
  go_enter Try.func3, Try.ntmps3
  go_wp2_with fail
  refine (few_any p n cap _).mono ?_
  rintro e w1 ⟨rfl, rfl⟩
  rw [hd.out]
  go_wp2_with fail
  go_ret
  exact ⟨rfl, Lo.refl _⟩

set_option maxRecDepth 100000 in
set_option maxHeartbeats 4000000 in
theorem fixedDoes_few (p : Option Addr) (cap : Nat) (l : List Int) (a b c : Int) (w : World) (h : l.length ≤ 300) (hrow : Row w (.slice p l.length cap) l) :
    Calls Try.prog 3 #[.slice p l.length cap, .int .i64 a, .int .i64 b, .int .i64 c] w fun e w' => e = .returned (.bool true) ∧ Lo w w' := by
  have hd : Hid (decide (l.length ≤ 300) = true) := by show _ = _; simpa using h
  have hrow' := Lib.hid hrow
  clear hrow
  go_enter Try.func3, Try.ntmps3
  go_wp2_with fail
  refine (few_any p l.length cap _).mono ?_
  rintro e w1 ⟨rfl, rfl⟩
  rw [hd.out]
  go_wp2_with (at_builtin; refine wpList_app _ rfl (.tmp 34) (.tmp 35) rfl w.heap.size (.slice none 0 0) [] rfl (Own.none _ _) _ l rfl hrow'.out (by simp; omega) (Nat.le_refl _) ?_; intro q c2 w1 hown hlo; rw [List.nil_append, List.length_nil, Nat.zero_add] at hown; have HO := Lib.hid hown.row; have HL := Lib.hid (hlo w (Lo.refl w) rfl); clear hown hlo)
  refine (sum_any _ l _ (hrow'.out.lo HL.out)).mono ?_
  rintro e w2 ⟨rfl, l2⟩
  have HL2 := Lib.hid (HL.out.trans l2)
  have HO2 := Lib.hid (HO.out.lo l2)
  clear HL HO l2
  go_wp2_with fail
  refine (rsum_any _ l _ HO2.out).mono ?_
  rintro e w3 ⟨rfl, rfl⟩
  go_wp2_with fail
  refine (add_any a b _).mono ?_
  rintro e w3 ⟨rfl, l3⟩
  have HL3 := Lib.hid (HL2.out.trans l3)
  have HO3 := Lib.hid (HO2.out.lo l3)
  clear HL2 HO2 l3
  go_wp2_with fail
  refine (radd_any a b _).mono ?_
  rintro e w4 ⟨rfl, rfl⟩
  go_wp2_with fail
  refine (times_any a b _).mono ?_
  rintro e w4 ⟨rfl, l4⟩
  have HL4 := Lib.hid (HL3.out.trans l4)
  have HO4 := Lib.hid (HO3.out.lo l4)
  clear HL3 HO3 l4
  go_wp2_with fail
  refine (rtimes_any a b _).mono ?_
  rintro e w5 ⟨rfl, rfl⟩
  go_wp2_with fail
  go_loopw [22] (fun i wr => ∃ k : Nat, k ≤ l.length ∧ i = .int .i64 k ∧ Lo w4 wr) (fun i _ => l.length - (intOf i).toNat)
  case atStart => exact ⟨0, Nat.zero_le _, rfl, Lo.refl _⟩
  case round =>
    obtain ⟨k, hk, rfl, hlo⟩ := hrel
    have HR := Lib.hid (hrow'.out.lo (HL4.out.trans hlo))
    have HO := Lib.hid (HO4.out.lo hlo)
    have HL := Lib.hid (HL4.out.trans hlo)
    by_cases hlt : k < l.length
    · obtain ⟨b1, o1, hp1, hc1⟩ := HR.out.at_ hlt
      obtain ⟨b2, o2, hp2, hc2⟩ := HO.out.at_ hlt
      rw [hp1, hp2]
      have HLO := Lib.hid hlo
      clear hp1 hp2 hlo
      generalize l.getD k 0 = z at *
      go_wp2_with fail
      go_quiet (fail)
      go_wp2_with fail
      go_roundw
      case rel => exact ⟨k + 1, by omega, by go_num, HLO.out.drewN _⟩
      case measure => simp [intOf]; omega
    · clear hlo HL4 HO4
      go_wp2_with fail
      refine (muldiv_any a b c _).mono ?_
      rintro e w5 ⟨rfl, l5⟩
      have HL5 := Lib.hid (HL.out.trans l5)
      have HO5 := Lib.hid (HO.out.lo l5)
      clear HL HO l5
      go_wp2_with fail
      refine (rmuldiv_any a b c _).mono ?_
      rintro e w6 ⟨rfl, rfl⟩
      go_wp2_with fail
      refine (half_any a _).mono ?_
      rintro e w6 ⟨rfl, l6⟩
      have HL6 := Lib.hid (HL5.out.trans l6)
      have HO6 := Lib.hid (HO5.out.lo l6)
      clear HL5 HO5 l6
      go_wp2_with fail
      refine (rhalf_any a _).mono ?_
      rintro e w7 ⟨rfl, rfl⟩
      go_wp2_with fail
      refine (checked_any _).mono ?_
      rintro e w7 ⟨rfl, l7⟩
      have HL7 := Lib.hid (HL6.out.trans l7)
      have HO7 := Lib.hid (HO6.out.lo l7)
      clear HL6 HO6 l7
      go_wp2_with fail
      refine (is_any _ l _ (hrow'.out.lo HL7.out)).mono ?_
      rintro e w8 ⟨rfl, rfl⟩
      go_wp2_with fail
      refine (ris_any _ l _ HO7.out).mono ?_
      rintro e w8 ⟨rfl, rfl⟩
      go_wp2_with fail
      go_ret
      exact ⟨rfl, HL7.out⟩

/-- What the shell tells of a slice of integers that came in. -/
def IsRow (k : IntKind) (w : World) (a : Option Addr) (len cap : Nat) (zs : List Int) : Prop :=
  (a = none ∧ len = 0 ∧ cap = 0 ∧ zs = []) ∨
  ∃ x, a = some x ∧ len ≤ cap ∧ cap ≤ maxLen ∧ zs.length = cap ∧ (∀ i, i < zs.length → w.cell? (x.add i) = some (.int k (zs.getD i 0))) ∧ ∀ n ∈ zs, (Lit.int k n).wf = true

theorem IsRow.row {w : World} {a : Option Addr} {len cap : Nat} {zs : List Int} (h : IsRow .i64 w a len cap zs) : ∃ l : List Int, l.length = len ∧ Row w (.slice a len cap) l := by
  rcases h with ⟨rfl, rfl, rfl, rfl⟩ | ⟨x, rfl, hle, hm, hz, hc, _⟩
  · exact ⟨[], rfl, .inl ⟨_, _, rfl, fun _ => rfl, rfl⟩⟩
  · by_cases h0 : len = 0
    · subst h0; exact ⟨[], rfl, .inl ⟨_, _, rfl, fun h => (by cases h), rfl⟩⟩
    · obtain ⟨b, off, rfl, hcell⟩ := ints_at hc (by omega)
      have hlen : (zs.take len).length = len := by rw [List.length_take]; omega
      refine ⟨zs.take len, hlen, .inr ⟨b, off, cap, by rw [hlen], by unfold maxLen at hm; omega, by omega, ?_, ?_⟩⟩
      · have := hcell 0 (by omega)
        exact World.block_lt_of_cell? w _ this
      · intro i hi
        rw [hlen] at hi
        rw [hcell i (by omega)]
        simp [List.getD, hi]

theorem fixedDoes_walk (a0 : Option Addr) (len0 cap0 : Nat) (z0 : List Int) (a1 a2 a3 : Int) (w : World) (w0 : IsRow .i64 w a0 len0 cap0 z0)
    (_w1 : (Lit.int .i64 a1).wf = true) (_w2 : (Lit.int .i64 a2).wf = true) (_w3 : (Lit.int .i64 a3).wf = true) :
    Calls Try.prog 3 #[.slice a0 len0 cap0, .int .i64 a1, .int .i64 a2, .int .i64 a3] w fun e w' => e = .returned (.bool true) ∧ Below w.heap.size w w' := by
  obtain ⟨l, rfl, hr⟩ := w0.row
  by_cases h : l.length ≤ 300
  · exact fixedDoes_few a0 cap0 l a1 a2 a3 w h hr
  · exact fixedDoes_many a0 l.length cap0 a1 a2 a3 w h

end Go.Proofs.Ytnhegoimmlnmcaa
