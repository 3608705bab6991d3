/-
  Facts that the walks rest on: CoRefGet, CoRefGet2. No conditions beyond those stated.
-/
import Derived.Test.YtcnmfgdeanbhoaaPart15
import Derived.Test.YtcnmfgdeanbhoaaPart06
/-
  The contract of the document's answer for layer 12, Get. No conditions beyond those stated.
-/
namespace Co
theorem rd_succ (t : List UInt8) (k : Nat) : rd t (k + 1) = rd t k ++ [(word t (4 + 6 * k), word t (4 + 6 * k + 2), word t (4 + 6 * k + 4))] := by simp [rd, List.range_succ]
theorem ones_succ (t : List UInt8) (k : Nat) : ones t (k + 1) = ones t k ++ [word t (4 + 2 * k)] := by simp [ones, List.range_succ]
theorem ones_len (t : List UInt8) (k : Nat) : (ones t k).length = k := by simp [ones]
theorem rd_split (t : List UInt8) {k n : Nat} (h : k ≤ n) : ∃ r, rd t n = rd t k ++ r := by
  obtain ⟨m, rfl⟩ := Nat.exists_eq_add_of_le h
  refine ⟨(rd t (k + m)).drop k, ?_⟩
  have e : rd t k = (rd t (k + m)).take k := by
    unfold rd
    rw [← List.map_take, List.take_range, Nat.min_eq_left (by omega)]
  rw [e, List.take_append_drop]
theorem join2_bad {t : List UInt8} {k n : Nat} (h : k < n) {o : List Int} (ho : join2 (rd t k) [] = some o) (hb : word t (4 + 6 * k + 2) < word t (4 + 6 * k) ∨ word t (4 + 6 * k + 4) ≠ (o.length : Int)) : join2 (rd t n) [] = none := by
  obtain ⟨r, hr⟩ := rd_split t (show k + 1 ≤ n by omega)
  rw [hr, rd_succ, join2_append, join2_append, ho]
  dsimp only
  rw [join2_one, if_pos hb]
theorem join2_good {t : List UInt8} {k : Nat} {o : List Int} (ho : join2 (rd t k) [] = some o) (hb : ¬ (word t (4 + 6 * k + 2) < word t (4 + 6 * k) ∨ word t (4 + 6 * k + 4) ≠ (o.length : Int))) :
    join2 (rd t (k + 1)) [] = some (o ++ upto (word t (4 + 6 * k)) (word t (4 + 6 * k + 2) - word t (4 + 6 * k) + 1).toNat) := by
  rw [rd_succ, join_more ho hb, rng_upto]
end Co
namespace Go.Proofs.Ytcnmfgdeanbhoaa
open Go.RowKit

/-- word, wherever. -/
theorem rword12_at (s : List UInt8) (hl : s.length ≤ 9223372036854775807) (z : Int) (p : Nat) (v : Int) (w : World) (hz : z = (p : Int)) (h : p + 2 ≤ s.length) (hv : Co.word s p = v) :
    Calls Try.prog 62 #[.string ⟨s.toArray⟩, .int .i64 z] w fun e w' => e = .returned (.int .i64 v) ∧ w = w' := by
  subst hz; subst hv
  exact rword12_any s p w h hl

set_option maxHeartbeats 400000 in
theorem rcget_arg (s : ByteArray) (pos : Int) (w : World) (h : pos < 0) : Calls Try.prog 30 #[.string s, .int .i64 pos] w (GotRow ([], 1) w) := by
  go_enter Try.func30, Try.ntmps30
  go_wp2_with fail
  go_ret2
  exact GotRow.nil rfl (Lo.refl _)

set_option maxHeartbeats 400000 in
theorem rcget_more (s : List UInt8) (pos : Nat) (w : World) (h : s.length < pos + 4) : Calls Try.prog 30 #[.string ⟨s.toArray⟩, .int .i64 (pos : Int)] w (GotRow ([], 4) w) := by
  have h0 : ¬ (pos : Int) < 0 := by omega
  by_cases h1 : s.length < pos
  · have h2 : (s.length : Int) < (pos : Int) := by omega
    go_enter Try.func30, Try.ntmps30
    go_wp2_with fail
    go_ret2
    exact GotRow.nil rfl (Lo.refl _)
  · have h2 : ¬ (s.length : Int) < (pos : Int) := by omega
    have h3 : (s.length : Int) - (pos : Int) < 4 := by omega
    go_enter Try.func30, Try.ntmps30
    go_wp2_with fail
    go_ret2
    exact GotRow.nil rfl (Lo.refl _)

/-- The text from a place on. -/
theorem from_at (s t : List UInt8) (pos : Nat) (ht : s.drop pos = t) : (⟨s.toArray⟩ : ByteArray).extract pos s.length = ⟨t.toArray⟩ := by
  rw [Gk.extract_from, ht]

set_option maxRecDepth 100000 in
set_option maxHeartbeats 1000000 in
theorem rcget_form (s t : List UInt8) (pos : Nat) (w : World) (h : pos + 4 ≤ s.length) (hl : s.length ≤ 9223372036854775807) (ht : s.drop pos = t) (hf : Co.word t 0 ≠ 1 ∧ Co.word t 0 ≠ 2) :
    Calls Try.prog 30 #[.string ⟨s.toArray⟩, .int .i64 (pos : Int)] w (GotRow ([], 5) w) := by
  have htl : t.length = s.length - pos := by rw [← ht, List.length_drop]
  have h0 : ¬ (pos : Int) < 0 := by omega
  have h2 : ¬ (s.length : Int) < (pos : Int) := by omega
  have h3 : ¬ (s.length : Int) - (pos : Int) < 4 := by omega
  have hx := from_at s t pos ht
  have HW0 := Lib.hid (fun z W (hz : z = ((0 : Nat) : Int)) => rword12_at t (by omega) z 0 _ W hz (by omega) rfl)
  have HW2 := Lib.hid (fun z W (hz : z = ((2 : Nat) : Int)) => rword12_at t (by omega) z 2 _ W hz (by omega) rfl)
  generalize Co.word t 0 = f at *
  generalize Co.word t 2 = n at *
  have hb1 : (f == 2) = false := by simpa using hf.2
  have hb2 : (f != 1) = true := by simpa using hf.1
  have hb3 : (f != 2) = true := by simpa using hf.2
  have hlen := Lib.hid htl
  clear hf htl ht
  go_enter Try.func30, Try.ntmps30
  go_wp2_with fail
  refine (HW0.out _ _ rfl).mono ?_
  rintro e w1 ⟨rfl, rfl⟩
  go_wp2_with fail
  refine (HW2.out _ _ rfl).mono ?_
  rintro e w1 ⟨rfl, rfl⟩
  go_wp2_with fail
  go_ret2
  exact GotRow.nil rfl (Lo.refl _)

set_option maxRecDepth 100000 in
set_option maxHeartbeats 1000000 in
theorem rcget_few (s t : List UInt8) (pos f n u : Nat) (w : World) (h : pos + 4 ≤ s.length) (hl : s.length ≤ 9223372036854775807) (ht : s.drop pos = t) (hf : Co.word t 0 = (f : Int)) (hn : Co.word t 2 = (n : Int)) (hu : f = 1 ∧ u = 2 ∨ f = 2 ∧ u = 6) (hn2 : n ≤ 65535)
    (hm : t.length < 4 + u * n) : Calls Try.prog 30 #[.string ⟨s.toArray⟩, .int .i64 (pos : Int)] w (GotRow ([], 4) w) := by
  have htl : t.length = s.length - pos := by rw [← ht, List.length_drop]
  have h0 : ¬ (pos : Int) < 0 := by omega
  have h2 : ¬ (s.length : Int) < (pos : Int) := by omega
  have h3 : ¬ (s.length : Int) - (pos : Int) < 4 := by omega
  have hx := from_at s t pos ht
  have HW0 := Lib.hid (fun z W (hz : z = ((0 : Nat) : Int)) => rword12_at t (by omega) z 0 _ W hz (by omega) hf)
  have HW2 := Lib.hid (fun z W (hz : z = ((2 : Nat) : Int)) => rword12_at t (by omega) z 2 _ W hz (by omega) hn)
  clear ht hf hn htl
  rcases hu with ⟨rfl, rfl⟩ | ⟨rfl, rfl⟩
  · have hq : (t.length : Int) < 4 + 2 * (n : Int) := by omega
    go_enter Try.func30, Try.ntmps30
    go_wp2_with fail
    refine (HW0.out _ _ rfl).mono ?_
    rintro e w1 ⟨rfl, rfl⟩
    go_wp2_with fail
    refine (HW2.out _ _ rfl).mono ?_
    rintro e w1 ⟨rfl, rfl⟩
    go_wp2_with fail
    go_ret2
    exact GotRow.nil rfl (Lo.refl _)
  · have hq : (t.length : Int) < 4 + 6 * (n : Int) := by omega
    go_enter Try.func30, Try.ntmps30
    go_wp2_with fail
    refine (HW0.out _ _ rfl).mono ?_
    rintro e w1 ⟨rfl, rfl⟩
    go_wp2_with fail
    refine (HW2.out _ _ rfl).mono ?_
    rintro e w1 ⟨rfl, rfl⟩
    go_wp2_with fail
    go_ret2
    exact GotRow.nil rfl (Lo.refl _)

set_option maxRecDepth 100000 in
set_option maxHeartbeats 2000000 in
theorem rcget_one (s t : List UInt8) (pos n : Nat) (w : World) (h : pos + 4 ≤ s.length) (hl : s.length ≤ 9223372036854775807) (ht : s.drop pos = t) (hf : Co.word t 0 = 1) (hn : Co.word t 2 = (n : Int)) (hn2 : n ≤ 65535)
    (hm : 4 + 2 * n ≤ t.length) : Calls Try.prog 30 #[.string ⟨s.toArray⟩, .int .i64 (pos : Int)] w (GotRow (Co.told (Co.ones t n)) w) := by
  have htl : t.length = s.length - pos := by rw [← ht, List.length_drop]
  have h0 : ¬ (pos : Int) < 0 := by omega
  have h2 : ¬ (s.length : Int) < (pos : Int) := by omega
  have h3 : ¬ (s.length : Int) - (pos : Int) < 4 := by omega
  have hx := from_at s t pos ht
  have HW0 := Lib.hid (fun z W (hz : z = ((0 : Nat) : Int)) => rword12_at t (by omega) z 0 _ W hz (by omega) hf)
  have HW2 := Lib.hid (fun z W (hz : z = ((2 : Nat) : Int)) => rword12_at t (by omega) z 2 _ W hz (by omega) hn)
  have HWk := Lib.hid (fun (k : Nat) (hk : k < n) z W (hz : z = ((4 + 2 * k : Nat) : Int)) => rword12_at t (by omega) z (4 + 2 * k) _ W hz (by omega) rfl)
  have hq : ¬ (t.length : Int) < 4 + 2 * (n : Int) := by omega
  have HI := Lib.hid (fun W v (h : Row W v (Co.ones t n)) => ris12_any v (Co.ones t n) W h (by rw [Co.ones_len]; omega))
  have HSu := Lib.hid (Co.ones_succ t)
  have HLe := Lib.hid (Co.ones_len t)
  clear ht hf hn htl
  go_enter Try.func30, Try.ntmps30
  go_wp2_with fail
  refine (HW0.out _ _ rfl).mono ?_
  rintro e w1 ⟨rfl, rfl⟩
  go_wp2_with fail
  refine (HW2.out _ _ rfl).mono ?_
  rintro e w1 ⟨rfl, rfl⟩
  go_wp2_with fail
  clear hx hq
  go_loopw [9, 10] (fun o i W => ∃ (k : Nat) (p : Option Addr) (c : Nat), k ≤ n ∧ i = .int .i64 k ∧ o = .slice p k c ∧ Hid (Own W w.heap.size (.slice p k c) (Co.ones t k)) ∧ Hid (Lo w W)) (fun _ i _ => n - (intOf i).toNat)
  case atStart => exact ⟨0, none, 0, Nat.zero_le _, rfl, rfl, Lib.hid (Own.none _ _), Lib.hid (Lo.refl _)⟩
  case round =>
    obtain ⟨k, p, c, hk, rfl, rfl, HO, HL⟩ := hrel
    by_cases hlt : k < n
    · have HV := Lib.hid (HWk.out k hlt)
      have HS := Lib.hid (HSu.out k)
      have HE := Lib.hid (HLe.out k)
      generalize Co.word t (4 + 2 * k) = x at *
      go_wp2_with fail
      refine (HV.out _ _ (by omega)).mono ?_
      rintro e w1 ⟨rfl, rfl⟩
      rename World => w1
      go_wp2_with (at_builtin; refine wpList_app _ rfl (.tmp 59) (.tmp 63) rfl w.heap.size (.slice p k c) (Co.ones t k) rfl (HO.out.lo ((Lo.refl _).alloc _)) _ [x] rfl (row1 _ _ rfl x) (by rw [HE.out]; simp; omega) (by have := HL.out.size; simp; omega) ?_; intro q c2 w2 hown hlo; have HO2 := Lib.hid hown; have HL2 := Lib.hid (hlo w (HL.out.alloc _) rfl); clear hown hlo; rw [HE.out] at HO2 ⊢)
      go_roundw
      case rel => exact ⟨k + 1, q, c2, by omega, by go_num, rfl, Lib.hid (by rw [HS.out]; exact HO2.out), HL2⟩
      case measure => simp [intOf]; omega
    · obtain rfl : k = n := by omega
      have HRow : Hid (Row _ (.slice p k c) (Co.ones t k)) := Lib.hid HO.out.row
      cases hc : Co.isCov (Co.ones t k) with
      | true =>
        rw [hc] at HI
        have HT := Lib.hid (Co.told_cov hc)
        clear hc
        go_wp2_with fail
        refine (HI.out _ _ HRow.out).mono ?_
        rintro e w2 ⟨rfl, lo⟩
        have HL2 := Lib.hid (HL.out.trans lo)
        have HR2 := Lib.hid (HRow.out.lo lo)
        clear lo
        go_wp2_with fail
        go_ret2
        rw [HT.out]
        exact ⟨p, c, by rw [HLe.out]; rfl, by rw [HLe.out]; exact HR2.out, HL2.out⟩
      | false =>
        rw [hc] at HI
        have HT : Hid (Co.told (Co.ones t k) = ([], 5)) := Lib.hid (by unfold Co.told; rw [hc]; rfl)
        clear hc
        go_wp2_with fail
        refine (HI.out _ _ HRow.out).mono ?_
        rintro e w2 ⟨rfl, lo⟩
        have HL2 := Lib.hid (HL.out.trans lo)
        clear lo
        go_wp2_with fail
        go_ret2
        rw [HT.out]
        exact GotRow.nil rfl HL2.out
end Go.Proofs.Ytcnmfgdeanbhoaa
/-
  The contract of the document's answer for layer 12, Get: ranges, and the whole. No conditions beyond those stated.
-/
namespace Go.Proofs.Ytcnmfgdeanbhoaa
open Go.RowKit

set_option maxRecDepth 100000 in
set_option maxHeartbeats 4000000 in
theorem rcget_two (s t : List UInt8) (pos n : Nat) (w : World) (h : pos + 4 ≤ s.length) (hl : s.length ≤ 9223372036854775807) (ht : s.drop pos = t) (hf : Co.word t 0 = 2) (hn : Co.word t 2 = (n : Int)) (hn2 : n ≤ 65535)
    (hm : 4 + 6 * n ≤ t.length) : Calls Try.prog 30 #[.string ⟨s.toArray⟩, .int .i64 (pos : Int)] w (GotRow (match Co.join2 (Co.rd t n) [] with | none => ([], 5) | some o => Co.told o) w) := by
  have htl : t.length = s.length - pos := by rw [← ht, List.length_drop]
  have h0 : ¬ (pos : Int) < 0 := by omega
  have h2 : ¬ (s.length : Int) < (pos : Int) := by omega
  have h3 : ¬ (s.length : Int) - (pos : Int) < 4 := by omega
  have hx := from_at s t pos ht
  have HW0 := Lib.hid (fun z W (hz : z = ((0 : Nat) : Int)) => rword12_at t (by omega) z 0 _ W hz (by omega) hf)
  have HW2 := Lib.hid (fun z W (hz : z = ((2 : Nat) : Int)) => rword12_at t (by omega) z 2 _ W hz (by omega) hn)
  have HA := Lib.hid (fun (k : Nat) (hk : k < n) z W (hz : z = ((4 + 6 * k : Nat) : Int)) => rword12_at t (by omega) z (4 + 6 * k) _ W hz (by omega) rfl)
  have HB := Lib.hid (fun (k : Nat) (hk : k < n) z W (hz : z = ((4 + 6 * k + 2 : Nat) : Int)) => rword12_at t (by omega) z (4 + 6 * k + 2) _ W hz (by omega) rfl)
  have HF := Lib.hid (fun (k : Nat) (hk : k < n) z W (hz : z = ((4 + 6 * k + 4 : Nat) : Int)) => rword12_at t (by omega) z (4 + 6 * k + 4) _ W hz (by omega) rfl)
  have hq : ¬ (t.length : Int) < 4 + 6 * (n : Int) := by omega
  have HI := Lib.hid (fun W v (o : List Int) (ho : o.length ≤ 131071) (h : Row W v o) => ris12_any v o W h (by omega))
  have HBd := Lib.hid (Co.word_bd t)
  have HBad := Lib.hid (fun (k : Nat) (hk : k < n) (o : List Int) ho hb => Co.join2_bad (t := t) hk (o := o) ho hb)
  have HGood := Lib.hid (fun (k : Nat) (o : List Int) ho hb => Co.join2_good (t := t) (k := k) (o := o) ho hb)
  have HEnd : Hid (∀ o, Co.join2 (Co.rd t n) [] = some o → (match Co.join2 (Co.rd t n) [] with | none => ([], 5) | some o => Co.told o) = Co.told o) := Lib.hid (fun o h => by rw [h])
  have HEnd0 : Hid (Co.join2 (Co.rd t n) [] = none → (match Co.join2 (Co.rd t n) [] with | none => (([], 5) : List Int × Int) | some o => Co.told o) = ([], 5)) := Lib.hid (fun h => by rw [h])
  generalize (match Co.join2 (Co.rd t n) [] with | none => (([], 5) : List Int × Int) | some o => Co.told o) = ans at *
  clear ht hf hn htl
  go_enter Try.func30, Try.ntmps30
  go_wp2_with fail
  refine (HW0.out _ _ rfl).mono ?_
  rintro e w1 ⟨rfl, rfl⟩
  go_wp2_with fail
  refine (HW2.out _ _ rfl).mono ?_
  rintro e w1 ⟨rfl, rfl⟩
  go_wp2_with fail
  clear hx hq
  go_loopw [9, 10] (fun o i W => ∃ (k L : Nat) (l : List Int) (p : Option Addr) (c : Nat), k ≤ n ∧ i = .int .i64 k ∧ o = .slice p L c ∧ Hid (l.length = L ∧ L ≤ 131071) ∧ Hid (Co.join2 (Co.rd t k) [] = some l) ∧ Hid (Own W w.heap.size (.slice p L c) l) ∧ Hid (Lo w W)) (fun _ i _ => n - (intOf i).toNat)
  case atStart => exact ⟨0, 0, [], none, 0, Nat.zero_le _, rfl, rfl, Lib.hid ⟨rfl, by omega⟩, Lib.hid rfl, Lib.hid (Own.none _ _), Lib.hid (Lo.refl _)⟩
  case round =>
    obtain ⟨k, L, l, p, c, hk, rfl, rfl, HLl, HJ, HO, HL⟩ := hrel
    rename World => W0
    by_cases hlt : k < n
    · have HAk := Lib.hid (HA.out k hlt)
      have HBk := Lib.hid (HB.out k hlt)
      have HFk := Lib.hid (HF.out k hlt)
      have HBadk := Lib.hid (HBad.out k hlt l HJ.out)
      have HGoodk := Lib.hid (HGood.out k l HJ.out)
      obtain ⟨a1, a2⟩ := HBd.out (4 + 6 * k)
      obtain ⟨b1, b2⟩ := HBd.out (4 + 6 * k + 2)
      obtain ⟨f1, f2⟩ := HBd.out (4 + 6 * k + 4)
      generalize Co.word t (4 + 6 * k) = a at *
      generalize Co.word t (4 + 6 * k + 2) = b at *
      generalize Co.word t (4 + 6 * k + 4) = f at *
      by_cases hba : b < a
      · have HE := Lib.hid (HEnd0.out (HBadk.out (.inl hba)))
        go_wp2_with (first | (go_at_call 62; first | (refine (HAk.out _ _ (by omega)).mono ?_; rintro e w1 ⟨rfl, rfl⟩) | (refine (HBk.out _ _ (by omega)).mono ?_; rintro e w1 ⟨rfl, rfl⟩)))
        go_ret2
        rw [HE.out]
        exact GotRow.nil rfl HL.out
      · by_cases hfl : f = (L : Int)
        · have hb2' : (f != (L : Int)) = false := by simpa using hfl
          have HG := Lib.hid (HGoodk.out (by have := HLl.out.1; omega))
          obtain ⟨M, hM⟩ : ∃ M, (b - a + 1).toNat = M := ⟨_, rfl⟩
          rw [hM] at HG
          have HMi : Hid (b - a + 1 = (M : Int)) := Lib.hid (by omega)
          have HFL := Lib.hid hfl
          clear hM hfl HGoodk HBadk
          go_wp2_with (first | (go_at_call 62; first | (refine (HAk.out _ _ (by omega)).mono ?_; rintro e w1 ⟨rfl, rfl⟩) | (refine (HBk.out _ _ (by omega)).mono ?_; rintro e w1 ⟨rfl, rfl⟩) | (refine (HFk.out _ _ (by omega)).mono ?_; rintro e w1 ⟨rfl, rfl⟩)))
          clear hb2'
          go_loopw [9, 12] (fun o g W => ∃ (j K : Nat) (z : Int) (p : Option Addr) (c : Nat), j ≤ M ∧ g = .int .i64 z ∧ o = .slice p K c ∧ Hid (z = a + (j : Int)) ∧ Hid (K = L + j) ∧ Hid (Own W w.heap.size (.slice p K c) (l ++ Co.upto a j)) ∧ Hid (Lo w W)) (fun _ g _ => (b + 1 - intOf g).toNat)
          case atStart => exact ⟨0, L, a, p, c, Nat.zero_le _, rfl, rfl, Lib.hid (by simp), Lib.hid rfl, Lib.hid (by rw [show Co.upto a 0 = [] from rfl, List.append_nil]; exact HO.out), HL⟩
          case round =>
            obtain ⟨j, K, z, q, d, hj, rfl, rfl, HZ, HK, HO1, HL1⟩ := hrel
            rename World => W1
            by_cases hjlt : j < M
            · have hz1 : z ≤ b := by have := HZ.out; have := HMi.out; omega
              have hz0 : 0 ≤ z := by have := HZ.out; omega
              have HKb : Hid (K ≤ 200000) := Lib.hid (by have := HK.out; have := HMi.out; have := HLl.out.2; omega)
              have HLn : Hid ((l ++ Co.upto a j).length = K) := Lib.hid (by rw [List.length_append, Co.upto_len, HLl.out.1]; exact HK.out.symm)
              go_wp2_with (first | (go_at_call 62; refine (HBk.out _ _ (by omega)).mono ?_; rintro e w1 ⟨rfl, rfl⟩) | (at_builtin; refine wpList_app _ rfl (.tmp 93) (.tmp 95) rfl w.heap.size (.slice q K d) (l ++ Co.upto a j) rfl (HO1.out.lo ((Lo.refl _).alloc _)) _ [z] rfl (row1 _ _ rfl z) (by rw [HLn.out]; have := HKb.out; simp; omega) (by have := HL1.out.size; simp; omega) ?_; intro q2 c2 w2 hown hlo; have HO2 := Lib.hid hown; have HL2 := Lib.hid (hlo w (HL1.out.alloc _) rfl); clear hown hlo; rw [HLn.out] at HO2 ⊢))
              go_roundw
              case rel => exact ⟨j + 1, K + 1, z + 1, q2, c2, by omega, rfl, rfl, Lib.hid (by have := HZ.out; omega), Lib.hid (by have := HK.out; omega), Lib.hid (by rw [Co.upto_succ, ← HZ.out, ← List.append_assoc]; exact HO2.out), HL2⟩
              case measure => simp [intOf]; omega
            · obtain rfl : j = M := by omega
              have hz1 : ¬ z ≤ b := by have := HZ.out; have := HMi.out; omega
              go_wp2_with (go_at_call 62; refine (HBk.out _ _ (by omega)).mono ?_; rintro e w1 ⟨rfl, rfl⟩)
              go_roundw
              case rel => exact ⟨k + 1, K, l ++ Co.upto a j, q, d, by omega, by go_num, rfl, Lib.hid ⟨by rw [List.length_append, Co.upto_len, HLl.out.1]; exact HK.out.symm, by have := HK.out; have := HMi.out; have := HLl.out.2; have e3 : f = (L : Int) := HFL.out; omega⟩, HG, HO1, HL1⟩
              case measure => simp [intOf]; omega
        · have hb2' : (f != (L : Int)) = true := by simpa using hfl
          have HE := Lib.hid (HEnd0.out (HBadk.out (.inr (by rw [HLl.out.1]; exact hfl))))
          clear hfl
          go_wp2_with (first | (go_at_call 62; first | (refine (HAk.out _ _ (by omega)).mono ?_; rintro e w1 ⟨rfl, rfl⟩) | (refine (HBk.out _ _ (by omega)).mono ?_; rintro e w1 ⟨rfl, rfl⟩) | (refine (HFk.out _ _ (by omega)).mono ?_; rintro e w1 ⟨rfl, rfl⟩)))
          go_ret2
          rw [HE.out]
          exact GotRow.nil rfl HL.out
    · obtain rfl : k = n := by omega
      have HRow : Hid (Row W0 (.slice p L c) l) := Lib.hid HO.out.row
      have HE := Lib.hid (HEnd.out l HJ.out)
      have HI2 := Lib.hid (fun W v h => HI.out W v l (by rw [HLl.out.1]; exact HLl.out.2) h)
      have HLn := Lib.hid HLl.out.1
      cases hc : Co.isCov l with
      | true =>
        rw [hc] at HI2
        have HT := Lib.hid (Co.told_cov hc)
        clear hc
        go_wp2_with fail
        refine (HI2.out _ _ HRow.out).mono ?_
        rintro e w2 ⟨rfl, lo⟩
        have HL2 := Lib.hid (HL.out.trans lo)
        have HR2 := Lib.hid (HRow.out.lo lo)
        clear lo
        go_wp2_with fail
        go_ret2
        rw [HE.out, HT.out]
        exact ⟨p, c, by rw [HLn.out]; rfl, by rw [HLn.out]; exact HR2.out, HL2.out⟩
      | false =>
        rw [hc] at HI2
        have HT : Hid (Co.told l = ([], 5)) := Lib.hid (by unfold Co.told; rw [hc]; rfl)
        clear hc
        go_wp2_with fail
        refine (HI2.out _ _ HRow.out).mono ?_
        rintro e w2 ⟨rfl, lo⟩
        have HL2 := Lib.hid (HL.out.trans lo)
        clear lo
        go_wp2_with fail
        go_ret2
        rw [HE.out, HT.out]
        exact GotRow.nil rfl HL2.out

/-- Get. -/
theorem rcget_any (s : List UInt8) (pos : Int) (w : World) (hl : s.length ≤ 9223372036854775807) :
    Calls Try.prog 30 #[.string ⟨s.toArray⟩, .int .i64 pos] w (GotRow (Co.get s pos) w) := by
  unfold Co.get
  by_cases c1 : pos < 0
  · rw [if_pos c1]; exact rcget_arg _ pos w c1
  · rw [if_neg c1]
    obtain ⟨q, rfl⟩ := Int.eq_ofNat_of_zero_le (show 0 ≤ pos by omega)
    by_cases c2 : (s.length : Int) < (q : Int) ∨ (s.length : Int) - (q : Int) < 4
    · rw [if_pos c2]; exact rcget_more s q w (by omega)
    · rw [if_neg c2, Int.toNat_natCast]
      obtain ⟨t, ht⟩ : ∃ t, s.drop q = t := ⟨_, rfl⟩
      rw [ht]
      unfold Co.got
      by_cases c3 : Co.word t 0 ≠ 1 ∧ Co.word t 0 ≠ 2
      · rw [if_pos c3]; exact rcget_form s t q w (by omega) hl ht c3
      · rw [if_neg c3]
        have hbd := Co.word_bd t 2
        obtain ⟨n, hn⟩ := Int.eq_ofNat_of_zero_le hbd.1
        rw [hn, Int.toNat_natCast]
        by_cases c5 : Co.word t 0 = 1
        · have hw : Co.wid t = 2 := by unfold Co.wid; rw [if_neg (by omega)]
          rw [hw]
          by_cases c4 : t.length < 4 + 2 * n
          · rw [if_pos c4]; exact rcget_few s t q 1 n 2 w (by omega) hl ht c5 hn (.inl ⟨rfl, rfl⟩) (by omega) c4
          · rw [if_neg c4, if_pos c5]; exact rcget_one s t q n w (by omega) hl ht c5 hn (by omega) (by omega)
        · have c6 : Co.word t 0 = 2 := by omega
          have hw : Co.wid t = 6 := by unfold Co.wid; rw [if_pos c6]
          rw [hw]
          by_cases c4 : t.length < 4 + 6 * n
          · rw [if_pos c4]; exact rcget_few s t q 2 n 6 w (by omega) hl ht c6 hn (.inr ⟨rfl, rfl⟩) (by omega) c4
          · rw [if_neg c4, if_neg c5]; exact rcget_two s t q n w (by omega) hl ht c6 hn (by omega) (by omega)
end Go.Proofs.Ytcnmfgdeanbhoaa
