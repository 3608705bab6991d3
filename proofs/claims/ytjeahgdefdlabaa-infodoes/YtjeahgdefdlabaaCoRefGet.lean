/-
  The contract of the document's answer for layer 12, Get. No conditions beyond those stated.
-/
import Derived.Test.YtjeahgdefdlabaaCoRef
import Derived.Test.YtjeahgdefdlabaaBnGet2
namespace Co
theorem rd_succ (t : List UInt8) (k : Nat) : rd t (k + 1) = rd t k ++ [(word t (4 + 6 * k), word t (4 + 6 * k + 2), word t (4 + 6 * k + 4))] := by simp [rd, List.range_succ]
theorem ones_succ (t : List UInt8) (k : Nat) : ones t (k + 1) = ones t k ++ [word t (4 + 2 * k)] := by simp [ones, List.range_succ]
theorem ones_len (t : List UInt8) (k : Nat) : (ones t k).length = k := by simp [ones]
theorem rd_split (t : List UInt8) {k n : Nat} (h : k ≤ n) : ∃ r, rd t n = rd t k ++ r := by
  obtain ⟨m, rfl⟩ := Nat.exists_eq_add_of_le h
  refine ⟨(rd t (k + m)).drop k, ?_⟩
  have e : rd t k = (rd t (k + m)).take k := by
    unfold rd
    rw [← List.map_take, List.take_range, Nat.min_eq_left (by omega)]
  rw [e, List.take_append_drop]
theorem join2_bad {t : List UInt8} {k n : Nat} (h : k < n) {o : List Int} (ho : join2 (rd t k) [] = some o) (hb : word t (4 + 6 * k + 2) < word t (4 + 6 * k) ∨ word t (4 + 6 * k + 4) ≠ (o.length : Int)) : join2 (rd t n) [] = none := by
  obtain ⟨r, hr⟩ := rd_split t (show k + 1 ≤ n by omega)
  rw [hr, rd_succ, join2_append, join2_append, ho]
  dsimp only
  rw [join2_one, if_pos hb]
theorem join2_good {t : List UInt8} {k : Nat} {o : List Int} (ho : join2 (rd t k) [] = some o) (hb : ¬ (word t (4 + 6 * k + 2) < word t (4 + 6 * k) ∨ word t (4 + 6 * k + 4) ≠ (o.length : Int))) :
    join2 (rd t (k + 1)) [] = some (o ++ upto (word t (4 + 6 * k)) (word t (4 + 6 * k + 2) - word t (4 + 6 * k) + 1).toNat) := by
  rw [rd_succ, join_more ho hb, rng_upto]
end Co
namespace Go.Proofs.Ytjeahgdefdlabaa
open Go.RowKit

/-- word, wherever. -/
theorem rword12_at (s : List UInt8) (hl : s.length ≤ 9223372036854775807) (z : Int) (p : Nat) (v : Int) (w : World) (hz : z = (p : Int)) (h : p + 2 ≤ s.length) (hv : Co.word s p = v) :
    Calls Try.prog 45 #[.string ⟨s.toArray⟩, .int .i64 z] w fun e w' => e = .returned (.int .i64 v) ∧ w = w' := by
  subst hz; subst hv
  exact rword12_any s p w h hl

set_option maxHeartbeats 400000 in
theorem rcget_arg (s : ByteArray) (pos : Int) (w : World) (h : pos < 0) : Calls Try.prog 20 #[.string s, .int .i64 pos] w (GotRow ([], 1) w) := by
  go_enter Try.func20, Try.ntmps20
  go_wp2_with fail
  go_ret2
  exact GotRow.nil rfl (Lo.refl _)

set_option maxHeartbeats 400000 in
theorem rcget_more (s : List UInt8) (pos : Nat) (w : World) (h : s.length < pos + 4) : Calls Try.prog 20 #[.string ⟨s.toArray⟩, .int .i64 (pos : Int)] w (GotRow ([], 4) w) := by
  have h0 : ¬ (pos : Int) < 0 := by omega
  by_cases h1 : s.length < pos
  · have h2 : (s.length : Int) < (pos : Int) := by omega
    go_enter Try.func20, Try.ntmps20
    go_wp2_with fail
    go_ret2
    exact GotRow.nil rfl (Lo.refl _)
  · have h2 : ¬ (s.length : Int) < (pos : Int) := by omega
    have h3 : (s.length : Int) - (pos : Int) < 4 := by omega
    go_enter Try.func20, Try.ntmps20
    go_wp2_with fail
    go_ret2
    exact GotRow.nil rfl (Lo.refl _)

/-- The text from a place on. -/
theorem from_at (s t : List UInt8) (pos : Nat) (ht : s.drop pos = t) : (⟨s.toArray⟩ : ByteArray).extract pos s.length = ⟨t.toArray⟩ := by
  rw [Gk.extract_from, ht]

set_option maxRecDepth 100000 in
set_option maxHeartbeats 1000000 in
theorem rcget_form (s t : List UInt8) (pos : Nat) (w : World) (h : pos + 4 ≤ s.length) (hl : s.length ≤ 9223372036854775807) (ht : s.drop pos = t) (hf : Co.word t 0 ≠ 1 ∧ Co.word t 0 ≠ 2) :
    Calls Try.prog 20 #[.string ⟨s.toArray⟩, .int .i64 (pos : Int)] w (GotRow ([], 5) w) := by
  have htl : t.length = s.length - pos := by rw [← ht, List.length_drop]
  have h0 : ¬ (pos : Int) < 0 := by omega
  have h2 : ¬ (s.length : Int) < (pos : Int) := by omega
  have h3 : ¬ (s.length : Int) - (pos : Int) < 4 := by omega
  have hx := from_at s t pos ht
  have HW0 := Lib.hid (fun z W (hz : z = ((0 : Nat) : Int)) => rword12_at t (by omega) z 0 _ W hz (by omega) rfl)
  have HW2 := Lib.hid (fun z W (hz : z = ((2 : Nat) : Int)) => rword12_at t (by omega) z 2 _ W hz (by omega) rfl)
  generalize Co.word t 0 = f at *
  generalize Co.word t 2 = n at *
  have hb1 : (f == 2) = false := by simpa using hf.2
  have hb2 : (f != 1) = true := by simpa using hf.1
  have hb3 : (f != 2) = true := by simpa using hf.2
  have hlen := Lib.hid htl
  clear hf htl ht
  go_enter Try.func20, Try.ntmps20
  go_wp2_with fail
  refine (HW0.out _ _ rfl).mono ?_
  rintro e w1 ⟨rfl, rfl⟩
  go_wp2_with fail
  refine (HW2.out _ _ rfl).mono ?_
  rintro e w1 ⟨rfl, rfl⟩
  go_wp2_with fail
  go_ret2
  exact GotRow.nil rfl (Lo.refl _)

set_option maxRecDepth 100000 in
set_option maxHeartbeats 1000000 in
theorem rcget_few (s t : List UInt8) (pos f n u : Nat) (w : World) (h : pos + 4 ≤ s.length) (hl : s.length ≤ 9223372036854775807) (ht : s.drop pos = t) (hf : Co.word t 0 = (f : Int)) (hn : Co.word t 2 = (n : Int)) (hu : f = 1 ∧ u = 2 ∨ f = 2 ∧ u = 6) (hn2 : n ≤ 65535)
    (hm : t.length < 4 + u * n) : Calls Try.prog 20 #[.string ⟨s.toArray⟩, .int .i64 (pos : Int)] w (GotRow ([], 4) w) := by
  have htl : t.length = s.length - pos := by rw [← ht, List.length_drop]
  have h0 : ¬ (pos : Int) < 0 := by omega
  have h2 : ¬ (s.length : Int) < (pos : Int) := by omega
  have h3 : ¬ (s.length : Int) - (pos : Int) < 4 := by omega
  have hx := from_at s t pos ht
  have HW0 := Lib.hid (fun z W (hz : z = ((0 : Nat) : Int)) => rword12_at t (by omega) z 0 _ W hz (by omega) hf)
  have HW2 := Lib.hid (fun z W (hz : z = ((2 : Nat) : Int)) => rword12_at t (by omega) z 2 _ W hz (by omega) hn)
  clear ht hf hn htl
  rcases hu with ⟨rfl, rfl⟩ | ⟨rfl, rfl⟩
  · have hq : (t.length : Int) < 4 + 2 * (n : Int) := by omega
    go_enter Try.func20, Try.ntmps20
    go_wp2_with fail
    refine (HW0.out _ _ rfl).mono ?_
    rintro e w1 ⟨rfl, rfl⟩
    go_wp2_with fail
    refine (HW2.out _ _ rfl).mono ?_
    rintro e w1 ⟨rfl, rfl⟩
    go_wp2_with fail
    go_ret2
    exact GotRow.nil rfl (Lo.refl _)
  · have hq : (t.length : Int) < 4 + 6 * (n : Int) := by omega
    go_enter Try.func20, Try.ntmps20
    go_wp2_with fail
    refine (HW0.out _ _ rfl).mono ?_
    rintro e w1 ⟨rfl, rfl⟩
    go_wp2_with fail
    refine (HW2.out _ _ rfl).mono ?_
    rintro e w1 ⟨rfl, rfl⟩
    go_wp2_with fail
    go_ret2
    exact GotRow.nil rfl (Lo.refl _)

set_option maxRecDepth 100000 in
set_option maxHeartbeats 2000000 in
theorem rcget_one (s t : List UInt8) (pos n : Nat) (w : World) (h : pos + 4 ≤ s.length) (hl : s.length ≤ 9223372036854775807) (ht : s.drop pos = t) (hf : Co.word t 0 = 1) (hn : Co.word t 2 = (n : Int)) (hn2 : n ≤ 65535)
    (hm : 4 + 2 * n ≤ t.length) : Calls Try.prog 20 #[.string ⟨s.toArray⟩, .int .i64 (pos : Int)] w (GotRow (Co.told (Co.ones t n)) w) := by
  have htl : t.length = s.length - pos := by rw [← ht, List.length_drop]
  have h0 : ¬ (pos : Int) < 0 := by omega
  have h2 : ¬ (s.length : Int) < (pos : Int) := by omega
  have h3 : ¬ (s.length : Int) - (pos : Int) < 4 := by omega
  have hx := from_at s t pos ht
  have HW0 := Lib.hid (fun z W (hz : z = ((0 : Nat) : Int)) => rword12_at t (by omega) z 0 _ W hz (by omega) hf)
  have HW2 := Lib.hid (fun z W (hz : z = ((2 : Nat) : Int)) => rword12_at t (by omega) z 2 _ W hz (by omega) hn)
  have HWk := Lib.hid (fun (k : Nat) (hk : k < n) z W (hz : z = ((4 + 2 * k : Nat) : Int)) => rword12_at t (by omega) z (4 + 2 * k) _ W hz (by omega) rfl)
  have hq : ¬ (t.length : Int) < 4 + 2 * (n : Int) := by omega
  have HI := Lib.hid (fun W v (h : Row W v (Co.ones t n)) => ris12_any v (Co.ones t n) W h (by rw [Co.ones_len]; omega))
  have HSu := Lib.hid (Co.ones_succ t)
  have HLe := Lib.hid (Co.ones_len t)
  clear ht hf hn htl
  go_enter Try.func20, Try.ntmps20
  go_wp2_with fail
  refine (HW0.out _ _ rfl).mono ?_
  rintro e w1 ⟨rfl, rfl⟩
  go_wp2_with fail
  refine (HW2.out _ _ rfl).mono ?_
  rintro e w1 ⟨rfl, rfl⟩
  go_wp2_with fail
  clear hx hq
  go_loopw [9, 10] (fun o i W => ∃ (k : Nat) (p : Option Addr) (c : Nat), k ≤ n ∧ i = .int .i64 k ∧ o = .slice p k c ∧ Hid (Own W w.heap.size (.slice p k c) (Co.ones t k)) ∧ Hid (Lo w W)) (fun _ i _ => n - (intOf i).toNat)
  case atStart => exact ⟨0, none, 0, Nat.zero_le _, rfl, rfl, Lib.hid (Own.none _ _), Lib.hid (Lo.refl _)⟩
  case round =>
    obtain ⟨k, p, c, hk, rfl, rfl, HO, HL⟩ := hrel
    by_cases hlt : k < n
    · have HV := Lib.hid (HWk.out k hlt)
      have HS := Lib.hid (HSu.out k)
      have HE := Lib.hid (HLe.out k)
      generalize Co.word t (4 + 2 * k) = x at *
      go_wp2_with fail
      refine (HV.out _ _ (by omega)).mono ?_
      rintro e w1 ⟨rfl, rfl⟩
      rename World => w1
      go_wp2_with (at_builtin; refine wpList_app _ rfl (.tmp 59) (.tmp 63) rfl w.heap.size (.slice p k c) (Co.ones t k) rfl (HO.out.lo ((Lo.refl _).alloc _)) _ [x] rfl (row1 _ _ rfl x) (by rw [HE.out]; simp; omega) (by have := HL.out.size; simp; omega) ?_; intro q c2 w2 hown hlo; have HO2 := Lib.hid hown; have HL2 := Lib.hid (hlo w (HL.out.alloc _) rfl); clear hown hlo; rw [HE.out] at HO2 ⊢)
      go_roundw
      case rel => exact ⟨k + 1, q, c2, by omega, by go_num, rfl, Lib.hid (by rw [HS.out]; exact HO2.out), HL2⟩
      case measure => simp [intOf]; omega
    · obtain rfl : k = n := by omega
      have HRow : Hid (Row _ (.slice p k c) (Co.ones t k)) := Lib.hid HO.out.row
      cases hc : Co.isCov (Co.ones t k) with
      | true =>
        rw [hc] at HI
        have HT := Lib.hid (Co.told_cov hc)
        clear hc
        go_wp2_with fail
        refine (HI.out _ _ HRow.out).mono ?_
        rintro e w2 ⟨rfl, lo⟩
        have HL2 := Lib.hid (HL.out.trans lo)
        have HR2 := Lib.hid (HRow.out.lo lo)
        clear lo
        go_wp2_with fail
        go_ret2
        rw [HT.out]
        exact ⟨p, c, by rw [HLe.out]; rfl, by rw [HLe.out]; exact HR2.out, HL2.out⟩
      | false =>
        rw [hc] at HI
        have HT : Hid (Co.told (Co.ones t k) = ([], 5)) := Lib.hid (by unfold Co.told; rw [hc]; rfl)
        clear hc
        go_wp2_with fail
        refine (HI.out _ _ HRow.out).mono ?_
        rintro e w2 ⟨rfl, lo⟩
        have HL2 := Lib.hid (HL.out.trans lo)
        clear lo
        go_wp2_with fail
        go_ret2
        rw [HT.out]
        exact GotRow.nil rfl HL2.out
end Go.Proofs.Ytjeahgdefdlabaa
