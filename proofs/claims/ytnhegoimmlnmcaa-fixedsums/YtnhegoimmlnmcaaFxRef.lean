/-
  Contracts of the document's answers for layer 1 (package vinculumref01): each answers what the plain functions of FxMath say, for all integers. No conditions.
-/
import Derived.Test.YtnhegoimmlnmcaaFxRows
import Derived.Test.YtnhegoimmlnmcaaFxNear
namespace Go.Proofs.Ytnhegoimmlnmcaa
open Go.RowKit

set_option maxHeartbeats 400000 in
theorem rlen_any (a : Int) (w : World) : Calls Try.prog 26 #[.int .i64 a] w fun e w' => e = .returned (.bool (Fx.len a)) ∧ w = w' := by
  by_cases h1 : -1073741823 ≤ a
  · by_cases h2 : a ≤ 1073741823
    · rw [Fx.len_yes h1 h2]
      go_enter Try.func26, Try.ntmps26
      go_wp2
      go_ret
      exact ⟨rfl, rfl⟩
    · rw [Fx.len_not (n := a) (by omega)]
      go_enter Try.func26, Try.ntmps26
      go_wp2
      go_ret
      exact ⟨rfl, rfl⟩
  · rw [Fx.len_not (n := a) (by omega)]
    go_enter Try.func26, Try.ntmps26
    go_wp2
    go_ret
    exact ⟨rfl, rfl⟩

set_option maxHeartbeats 400000 in
theorem rtold_any (a : Int) (w : World) : Calls Try.prog 27 #[.int .i64 a] w fun e w' => e = tup (Fx.told a) ∧ w = w' := by
  by_cases h : Fx.len a = true
  · rw [Fx.told, if_pos h]
    have H := Lib.hid h
    clear h
    go_enter Try.func27, Try.ntmps27
    go_wp2_with fail
    refine (rlen_any a _).mono ?_
    rintro e w1 ⟨rfl, rfl⟩
    rw [H.out]
    go_wp2_with fail
    go_ret2
    exact ⟨rfl, rfl⟩
  · rw [Fx.told, if_neg h]
    have H : Hid (Fx.len a = false) := by show _ = _; simpa using h
    clear h
    go_enter Try.func27, Try.ntmps27
    go_wp2_with fail
    refine (rlen_any a _).mono ?_
    rintro e w1 ⟨rfl, rfl⟩
    rw [H.out]
    go_wp2_with fail
    go_ret2
    exact ⟨rfl, rfl⟩

set_option maxHeartbeats 400000 in
theorem radd_yes (a b : Int) (w : World) (ha : Fx.len a = true) (hb : Fx.len b = true) :
    Calls Try.prog 13 #[.int .i64 a, .int .i64 b] w fun e w' => e = tup (Fx.told (a + b)) ∧ w = w' := by
  obtain ⟨a1, a2⟩ := (Fx.len_iff a).1 ha
  obtain ⟨b1, b2⟩ := (Fx.len_iff b).1 hb
  have HA := Lib.hid ha
  have HB := Lib.hid hb
  have HT := Lib.hid (fun W => rtold_any (a + b) W)
  clear ha hb
  generalize Fx.told (a + b) = y at *
  go_enter Try.func13, Try.ntmps13
  go_wp2_with fail
  refine (rlen_any a _).mono ?_
  rintro e w1 ⟨rfl, rfl⟩
  rw [HA.out]
  go_wp2_with fail
  refine (rlen_any b _).mono ?_
  rintro e w1 ⟨rfl, rfl⟩
  rw [HB.out]
  go_wp2_with fail
  refine (HT.out _).mono ?_
  rintro e w1 ⟨rfl, rfl⟩
  go_wp2_with fail
  go_ret2
  exact ⟨rfl, rfl⟩

set_option maxHeartbeats 400000 in
theorem radd_no (a b : Int) (w : World) (h : Fx.len a = false ∨ Fx.len a = true ∧ Fx.len b = false) :
    Calls Try.prog 13 #[.int .i64 a, .int .i64 b] w fun e w' => e = tup (0, 1) ∧ w = w' := by
  rcases h with h | ⟨h, h2⟩
  · have HA := Lib.hid h
    clear h
    go_enter Try.func13, Try.ntmps13
    go_wp2_with fail
    refine (rlen_any a _).mono ?_
    rintro e w1 ⟨rfl, rfl⟩
    rw [HA.out]
    go_wp2_with fail
    go_ret2
    exact ⟨rfl, rfl⟩
  · have HA := Lib.hid h
    have HB := Lib.hid h2
    clear h h2
    go_enter Try.func13, Try.ntmps13
    go_wp2_with fail
    refine (rlen_any a _).mono ?_
    rintro e w1 ⟨rfl, rfl⟩
    rw [HA.out]
    go_wp2_with fail
    refine (rlen_any b _).mono ?_
    rintro e w1 ⟨rfl, rfl⟩
    rw [HB.out]
    go_wp2_with fail
    go_ret2
    exact ⟨rfl, rfl⟩

theorem Fx.sum2' {a b : Int} (ha : Fx.len a = true) (hb : Fx.len b = true) : Fx.sum [a, b] = Fx.told (a + b) := by
  have hi : Fx.is [a, b] = true := by simp [Fx.is, ha, hb]
  rw [Fx.sum, if_pos hi, Fx.sumFrom, Int.zero_add, if_pos ha, Fx.sumFrom]
  unfold Fx.told
  by_cases h : Fx.len (a + b) = true
  · rw [if_pos h, if_pos h]; rfl
  · rw [if_neg h, if_neg h]; rfl

theorem radd_any (a b : Int) (w : World) :
    Calls Try.prog 13 #[.int .i64 a, .int .i64 b] w fun e w' => e = tup (Fx.sum [a, b]) ∧ w = w' := by
  by_cases ha : Fx.len a = true
  · by_cases hb : Fx.len b = true
    · rw [Fx.sum2' ha hb]; exact radd_yes a b w ha hb
    · rw [Fx.sum, if_neg (by simp [Fx.is, hb])]; exact radd_no a b w (.inr ⟨ha, by simpa using hb⟩)
  · rw [Fx.sum, if_neg (by simp [Fx.is, ha])]; exact radd_no a b w (.inl (by simpa using ha))

set_option maxHeartbeats 400000 in
theorem ris_nil (p : Option Addr) (c : Nat) (w : World) : Calls Try.prog 22 #[.slice p 0 c] w fun e w' => e = .returned (.bool true) ∧ w = w' := by
  go_enter Try.func22, Try.ntmps22
  go_wp2
  go_loop [3] (fun i => i = .int .i64 0) (fun _ => 0)
  case atStart => exact rfl
  case round =>
    subst hrel
    go_wp2
    go_ret
    exact ⟨rfl, rfl⟩

theorem Fx.is_false_at {l : List Int} {k : Nat} (hk : k < l.length) (h : Fx.len (l.getD k 0) = false) : Fx.is l = false := by
  have hmem : l.getD k 0 ∈ l := by simp [List.getD, List.getElem?_eq_getElem hk]
  cases e : Fx.is l with
  | false => rfl
  | true => rw [List.all_eq_true.1 e _ hmem] at h; cases h
theorem Fx.take_succ {l : List Int} {k : Nat} (hk : k < l.length) : l.take (k + 1) = l.take k ++ [l.getD k 0] := by
  rw [List.take_succ_eq_append_getElem hk]; simp [List.getD, List.getElem?_eq_getElem hk]
theorem Fx.is_snoc {l : List Int} {k : Nat} (hk : k < l.length) (h0 : Fx.is (l.take k) = true) (h : Fx.len (l.getD k 0) = true) : Fx.is (l.take (k + 1)) = true := by
  rw [Fx.take_succ hk, Fx.is, List.all_append]
  have h0' : (l.take k).all Fx.len = true := h0
  simp only [h0', h, List.all_cons, List.all_nil, Bool.and_true]

set_option maxHeartbeats 400000 in
theorem ris_row (b off cap : Nat) (l : List Int) (w : World) (hm : l.length ≤ 9223372036854775807)
    (hc : ∀ i, i < l.length → w.cell? ⟨b, off + i, none⟩ = some (.int .i64 (l.getD i 0))) :
    Calls Try.prog 22 #[.slice (some ⟨b, off, none⟩) l.length cap] w fun e w' => e = .returned (.bool (Fx.is l)) ∧ w = w' := by
  generalize hn : l.length = n at *
  have HN := Lib.hid hn
  have HC := Lib.hid hc
  clear hn hc
  go_enter Try.func22, Try.ntmps22
  go_wp2
  go_loop [3] (fun i => ∃ k : Nat, k ≤ n ∧ i = .int .i64 k ∧ Fx.is (l.take k) = true) (fun i => n - (intOf i).toNat)
  case atStart => exact ⟨0, Nat.zero_le _, rfl, rfl⟩
  case round =>
    obtain ⟨k, hk, rfl, his⟩ := hrel
    have HI := Lib.hid his
    clear his
    by_cases hlt : k < n
    · have hcell := HC.out k hlt
      have HK : Hid (k < l.length) := by show _ < _; rw [HN.out]; exact hlt
      generalize hz : l.getD k 0 = z at *
      have HZ := Lib.hid hz
      clear hz
      by_cases h1 : Fx.len z = true
      · have HL := Lib.hid h1
        clear h1
        go_wp2_with fail
        refine (rlen_any z _).mono ?_
        rintro e w1 ⟨rfl, rfl⟩
        rw [HL.out]
        go_wp2_with fail
        go_round
        case rel => exact ⟨k + 1, by omega, by go_num, Fx.is_snoc HK.out HI.out (by rw [HZ.out]; exact HL.out)⟩
        case measure => simp [intOf]; omega
      · have HL : Hid (Fx.len z = false) := by show _ = _; simpa using h1
        clear h1
        go_wp2_with fail
        refine (rlen_any z _).mono ?_
        rintro e w1 ⟨rfl, rfl⟩
        rw [HL.out]
        go_wp2_with fail
        go_ret
        exact ⟨ret_bool (Fx.is_false_at HK.out (by rw [HZ.out]; exact HL.out)).symm, rfl⟩
    · go_wp2_with fail
      go_ret
      refine ⟨ret_bool ?_, rfl⟩
      have h1 : l.take k = l := List.take_of_length_le (by rw [HN.out]; omega)
      have := HI.out
      rw [h1] at this
      exact this.symm

theorem ris_any (v : Value) (l : List Int) (w : World) (h : Row w v l) :
    Calls Try.prog 22 #[v] w fun e w' => e = .returned (.bool (Fx.is l)) ∧ w = w' := by
  rcases h with ⟨p, c, rfl, _, rfl⟩ | ⟨b, off, cap, rfl, h2, h2b, h3, h4⟩
  · exact ris_nil p c w
  · exact ris_row b off cap l w h2 h4

set_option maxHeartbeats 400000 in
theorem rsum_nil (p : Option Addr) (c : Nat) (w : World) : Calls Try.prog 11 #[.slice p 0 c] w fun e w' => e = tup (0, 0) ∧ w = w' := by
  go_enter Try.func11, Try.ntmps11
  go_wp2_with fail
  refine (ris_nil p c _).mono ?_
  rintro e w1 ⟨rfl, rfl⟩
  go_wp2_with fail
  go_loop [5, 4] (fun i s => i = .int .i64 0 ∧ s = .int .i64 0) (fun _ _ => 0)
  case atStart => exact ⟨rfl, rfl⟩
  case round =>
    obtain ⟨rfl, rfl⟩ := hrel
    go_wp2_with fail
    go_ret2
    exact ⟨rfl, rfl⟩

set_option maxHeartbeats 400000 in
theorem rsum_no (b off cap : Nat) (l : List Int) (w : World) (hm : l.length ≤ 9223372036854775807)
    (hc : ∀ i, i < l.length → w.cell? ⟨b, off + i, none⟩ = some (.int .i64 (l.getD i 0))) (his : Fx.is l = false) :
    Calls Try.prog 11 #[.slice (some ⟨b, off, none⟩) l.length cap] w fun e w' => e = tup (0, 1) ∧ w = w' := by
  have HI := Lib.hid (ris_row b off cap l w hm hc)
  rw [his] at HI
  generalize l.length = n at *
  clear hc his hm
  go_enter Try.func11, Try.ntmps11
  go_wp2_with fail
  refine HI.out.mono ?_
  rintro e w1 ⟨rfl, rfl⟩
  go_wp2_with fail
  go_ret2
  exact ⟨rfl, rfl⟩

set_option maxHeartbeats 400000 in
theorem rsum_yes (b off cap : Nat) (l : List Int) (w : World) (hm : l.length ≤ 9223372036854775807) (his : Fx.is l = true)
    (hc : ∀ i, i < l.length → w.cell? ⟨b, off + i, none⟩ = some (.int .i64 (l.getD i 0))) :
    Calls Try.prog 11 #[.slice (some ⟨b, off, none⟩) l.length cap] w fun e w' => e = tup (Fx.sumOf (Fx.sumFrom 0 l)) ∧ w = w' := by
  have HI := Lib.hid (ris_row b off cap l w hm hc)
  rw [his] at HI
  generalize hy : Fx.sumOf (Fx.sumFrom 0 l) = y at *
  have HY := Lib.hid hy
  generalize hn : l.length = n at *
  have HN := Lib.hid hn
  have HC := Lib.hid hc
  have HL := Lib.hid (fun k (hk : k < n) => (show Fx.len (l.getD k 0) = true by
    have h' : k < l.length := by rw [hn]; exact hk
    have := List.all_eq_true.1 his _ (List.getElem_mem h')
    simpa [List.getD, List.getElem?_eq_getElem h'] using this))
  have HS := Lib.hid (fun k (hk : k < n) => (show l.drop k = l.getD k 0 :: l.drop (k + 1) by
    have h' : k < l.length := by rw [hn]; exact hk
    rw [List.drop_eq_getElem_cons h']; simp [List.getD, List.getElem?_eq_getElem h']))
  clear hn hc hy his
  go_enter Try.func11, Try.ntmps11
  go_wp2_with fail
  refine HI.out.mono ?_
  rintro e w1 ⟨rfl, rfl⟩
  go_wp2_with fail
  go_loop [4, 5] (fun t i => ∃ (s : Int) (k : Nat), k ≤ n ∧ i = .int .i64 k ∧ t = .int .i64 s ∧ Fx.len s = true ∧ Hid (Fx.sumFrom 0 l = Fx.sumFrom s (l.drop k))) (fun _ i => n - (intOf i).toNat)
  case atStart => exact ⟨0, 0, Nat.zero_le _, rfl, rfl, by decide, rfl⟩
  case round =>
    obtain ⟨s, k, hk, rfl, rfl, hs, HF⟩ := hrel
    have HLS := Lib.hid hs
    clear hs
    by_cases hlt : k < n
    · have hcell := HC.out k hlt
      have HZ := Lib.hid (HL.out k hlt)
      have HD := Lib.hid (HS.out k hlt)
      generalize l.getD k 0 = z at *
      have HA := Lib.hid (fun W => radd_yes s z W HLS.out HZ.out)
      by_cases hin : Fx.len (s + z) = true
      · have HF' : Hid (Fx.sumFrom 0 l = Fx.sumFrom (s + z) (l.drop (k + 1))) := by
          have := HF.out
          rw [HD.out, Fx.sumFrom, if_pos hin] at this
          exact this
        rw [Fx.told, if_pos hin] at HA
        have HIN := Lib.hid hin
        clear hin HF HD HLS HZ
        go_wp2_with fail
        refine (HA.out _).mono ?_
        rintro e w' ⟨rfl, rfl⟩
        go_wp2_with fail
        go_round
        case rel => exact ⟨s + z, k + 1, by omega, by go_num, rfl, HIN.out, HF'⟩
        case measure => simp [intOf]; omega
      · have HYY : Hid (y = (0, 2)) := by
          have h1 := HF.out
          rw [HD.out, Fx.sumFrom, if_neg hin] at h1
          have h2 := HY.out
          rw [h1] at h2
          exact h2.symm
        rw [Fx.told, if_neg hin] at HA
        clear hin HF HD HLS HZ
        go_wp2_with fail
        refine (HA.out _).mono ?_
        rintro e w' ⟨rfl, rfl⟩
        go_wp2_with fail
        go_ret2
        exact ⟨by rw [HYY.out]; rfl, rfl⟩
    · have HYY : Hid (y = (s, 0)) := by
        have h1 := HF.out
        rw [List.drop_of_length_le (by rw [HN.out]; omega), Fx.sumFrom] at h1
        have h2 := HY.out
        rw [h1] at h2
        exact h2.symm
      go_wp2_with fail
      go_ret2
      exact ⟨by rw [HYY.out]; rfl, rfl⟩

theorem rsum_any (v : Value) (l : List Int) (w : World) (h : Row w v l) :
    Calls Try.prog 11 #[v] w fun e w' => e = tup (Fx.sum l) ∧ w = w' := by
  rcases h with ⟨p, c, rfl, _, rfl⟩ | ⟨b, off, cap, rfl, h2, h2b, h3, h4⟩
  · exact rsum_nil p c w
  · by_cases his : Fx.is l = true
    · rw [Fx.sum, if_pos his]; exact rsum_yes b off cap l w h2 his h4
    · rw [Fx.sum, if_neg his]; exact rsum_no b off cap l w h2 h4 (by simpa using his)

end Go.Proofs.Ytnhegoimmlnmcaa
