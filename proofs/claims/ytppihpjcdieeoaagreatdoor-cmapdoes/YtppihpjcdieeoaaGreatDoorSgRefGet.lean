/-
  Contract of the document's Get (layer 9). No conditions beyond those stated.
-/
import Derived.Test.YtppihpjcdieeoaaGreatDoorPart25
import Derived.Test.YtppihpjcdieeoaaGreatDoorPart06
import Derived.Test.YtppihpjcdieeoaaGreatDoorPart07
namespace Sg
open Bn He Ch
def upTo' (f : Nat → List Span × Int) (k : Nat) : List Span := (List.range k).flatMap fun i => (f i).1
theorem upTo'_step (f : Nat → List Span × Int) (k : Nat) : upTo' f (k + 1) = upTo' f k ++ (f k).1 := by
  unfold upTo'
  rw [List.range_succ, List.flatMap_append]
  simp
theorem right_is (t : List UInt8) (n : Nat) : rightF (sTo t) (sFr t n) (sOf t n) n = decide (¬ ((List.range n).any (fun i => bad t n i) = true ∨ last t n ≠ 65535)) := by
  have e1 : okTo (sTo t) (sFr t n) (sOf t n) n = !((List.range n).any fun i => bad t n i) := by
    unfold okTo
    rw [List.not_any_eq_all_not]
    rfl
  have e2 : lastF (sTo t) n = last t n := rfl
  unfold rightF
  rw [e1, e2]
  generalize (List.range n).any _ = A
  cases A <;> simp
theorem body_facts (t : List UInt8) (n : Nat) :
    (rightF (sTo t) (sFr t n) (sOf t n) n = false → body t n = ([], 5)) ∧
    (rightF (sTo t) (sFr t n) (sOf t n) n = true →
      (∀ i, i < n → sFr t n i ≤ sTo t i ∧ lastF (sTo t) i < sFr t n i) ∧
      (∀ k, k < n → (∀ i, i < k → (seg t n i).2 = 0) → (seg t n k).2 ≠ 0 → body t n = ([], (seg t n k).2)) ∧
      ((∀ i, i < n → (seg t n i).2 = 0) → body t n = (upTo' (seg t n) n, 0))) := by
  rw [right_is]
  constructor
  · intro hr
    rw [decide_eq_false_iff_not, Decidable.not_not] at hr
    unfold body
    rw [if_pos hr]
  · intro hr
    rw [decide_eq_true_eq] at hr
    have hb : ∀ i, i < n → bad t n i = false := by
      intro i hi
      cases e : bad t n i with
      | false => rfl
      | true => exact absurd (.inl (List.any_eq_true.2 ⟨i, List.mem_range.2 hi, e⟩)) hr
    refine ⟨fun i hi => ?_, fun k hk h0 hne => ?_, fun h0 => ?_⟩
    · have := hb i hi
      unfold bad at this
      simp only [Bool.or_eq_false_iff, decide_eq_false_iff_not] at this
      have e : lastF (sTo t) i = last t i := rfl
      rw [e]
      omega
    · have hs := Sf.scan_first (fun i => (seg t n i).2) n 0 k (Nat.zero_le _) (by omega) (fun i _ hi => h0 i hi) hne
      have hs2 : Sf.scan (fun i => (seg t n i).2) 0 n = (seg t n k).2 := hs
      unfold body
      rw [if_neg hr, hs2, if_pos hne]
    · have hs := Sf.scan_zero (fun i => (seg t n i).2) n 0 (fun i _ hi => h0 i (by omega))
      unfold body
      rw [if_neg hr, hs, if_neg (by simp)]
      rfl
theorem seg_len {t : List UInt8} {n i : Nat} (h : sFr t n i ≤ sTo t i) : ((seg t n i).1.length : Int) ≤ sTo t i - sFr t n i + 2 := by
  unfold seg
  by_cases hz : sOf t n i = 0
  · rw [if_pos hz]
    have : (near (sFr t n i) (sTo t i) (sDe t n i)).length ≤ 2 := by
      unfold near
      by_cases h : plane (sFr t n i + sDe t n i) + sTo t i - sFr t n i ≤ 65535
      · rw [if_pos h]; simp
      · rw [if_neg h]; simp
    show ((near (sFr t n i) (sTo t i) (sDe t n i)).length : Int) ≤ _
    omega
  · rw [if_neg hz]
    unfold far
    by_cases hm : (t.length : Int) < ((16 + 6 * n + 2 * i : Nat) : Int) + word t (16 + 6 * n + 2 * i) + 2 * (sTo t i - sFr t n i) + 2
    · rw [if_pos hm]; simp; omega
    · rw [if_neg hm]
      have := spansOf_len (fun c => gl1 (word t (16 + 6 * n + 2 * i + (word t (16 + 6 * n + 2 * i)).toNat + 2 * (c - sFr t n i).toNat)) (sDe t n i)) (sTo t i - sFr t n i + 1).toNat (sFr t n i)
      show ((spansOf _ _ _).length : Int) ≤ _
      omega
theorem upTo'_len {t : List UInt8} {n : Nat} (h : ∀ i, i < n → sFr t n i ≤ sTo t i ∧ lastF (sTo t) i < sFr t n i) : ∀ k, k ≤ n → ((upTo' (seg t n) k).length : Int) ≤ lastF (sTo t) k + 1 + k
  | 0, _ => by simp [upTo', lastF]
  | k + 1, hk => by
    have ih := upTo'_len h k (by omega)
    obtain ⟨h1, h2⟩ := h k (by omega)
    have := seg_len h1
    rw [upTo'_step, List.length_append]
    have e : lastF (sTo t) (k + 1) = sTo t k := by unfold lastF; rw [if_neg (by omega)]; rfl
    rw [e]
    omega
end Sg
namespace Go.Proofs.YtppihpjcdieeoaaGreatDoor
open Go.RowKit

theorem word_at {s : List UInt8} {p : Nat} {P : Int} (hP : P = (p : Int)) (h : p + 2 ≤ s.length) (hl : s.length ≤ 1000000) (W : World) : Calls Tryz.prog 66 #[.string ⟨s.toArray⟩, .int .i64 P] W fun e w' => e = .returned (.int .i64 (Sg.word s p)) ∧ W = w' := by
  subst hP
  exact rword_any s p W h hl

set_option maxRecDepth 100000 in
set_option maxHeartbeats 1600000 in
theorem rget_more (s : List UInt8) (w : World) (h : s.length < 14) : Calls Tryz.prog 35 #[.string ⟨s.toArray⟩] w (GotSp (Sg.get s) w) := by
  have HE : Hid (Sg.get s = ([], 4)) := Lib.hid (by unfold Sg.get; rw [if_pos h])
  have hsz : (ByteArray.mk s.toArray).size = s.length := rfl
  generalize Sg.get s = y at *
  generalize s.length = n at *
  go_enter Tryz.func35, Tryz.ntmps35
  go_wp2_with fail
  go_ret2
  rw [HE.out]
  exact GotSp.nil rfl (Lo.refl _)

set_option maxRecDepth 100000 in
set_option maxHeartbeats 3200000 in
theorem rget_form (s : List UInt8) (w : World) (hl : s.length ≤ 100000) (h : 14 ≤ s.length) (hf : Sg.word s 0 ≠ 4 ∨ Sg.word s 6 % 2 = 1 ∨ Sg.many s = 0) : Calls Tryz.prog 35 #[.string ⟨s.toArray⟩] w (GotSp (Sg.get s) w) := by
  have HE : Hid (Sg.get s = ([], 5)) := Lib.hid (by unfold Sg.get; rw [if_neg (by omega), if_pos hf])
  have H6 := Lib.hid (fun W => word_at (s := s) (p := 6) (P := 6) rfl (by omega) (by omega) W)
  have H0 := Lib.hid (fun W => word_at (s := s) (p := 0) (P := 0) rfl (by omega) (by omega) W)
  have b0 := Sg.word_bound s 0
  have b6 := Sg.word_bound s 6
  have hsz : (ByteArray.mk s.toArray).size = s.length := rfl
  unfold Sg.many at hf
  generalize Sg.get s = y at *
  generalize Sg.word s 0 = x0 at *
  generalize Sg.word s 6 = x3 at *
  generalize s.length = sn at *
  have hn : x3 / 2 = ((x3 / 2).toNat : Int) := by omega
  have hm : x3 % 2 = 0 ∨ x3 % 2 = 1 := by omega
  generalize (x3 / 2).toNat = n at *
  go_enter Tryz.func35, Tryz.ntmps35
  go_wp2_with fail
  refine (H6.out _).mono ?_
  rintro e w1 ⟨rfl, rfl⟩
  go_wp2_with fail
  refine (H0.out _).mono ?_
  rintro e w1 ⟨rfl, rfl⟩
  by_cases c0 : x0 = 4
  · subst c0
    go_wp2_with fail
    refine (H6.out _).mono ?_
    rintro e w1 ⟨rfl, rfl⟩
    rcases hm with hm | hm
    · obtain rfl : n = 0 := by omega
      go_wp2_with fail
      go_ret2
      rw [HE.out]
      exact GotSp.nil rfl (Lo.refl _)
    · go_wp2_with fail
      go_ret2
      rw [HE.out]
      exact GotSp.nil rfl (Lo.refl _)
  · go_wp2_with fail
    go_ret2
    rw [HE.out]
    exact GotSp.nil rfl (Lo.refl _)

set_option maxRecDepth 100000 in
set_option maxHeartbeats 6400000 in
theorem rget_rest (s : List UInt8) (w : World) (hl : s.length ≤ 100000) (h : 14 ≤ s.length) (h0 : Sg.word s 0 = 4) (h1 : Sg.word s 6 % 2 = 0) (h2 : 1 ≤ Sg.many s) : Calls Tryz.prog 35 #[.string ⟨s.toArray⟩] w (GotSp (Sg.get s) w) := by
  have H6 := Lib.hid (fun W => word_at (s := s) (p := 6) (P := 6) rfl (by omega) (by omega) W)
  have H0 := Lib.hid (fun W => word_at (s := s) (p := 0) (P := 0) rfl (by omega) (by omega) W)
  have H2 := Lib.hid (fun W => word_at (s := s) (p := 2) (P := 2) rfl (by omega) (by omega) W)
  have HE1 : Hid ((s.length : Int) < Sg.word s 2 → Sg.get s = ([], 4)) := Lib.hid (fun hx => by unfold Sg.get; rw [if_neg (by omega), if_neg (by omega), if_pos hx])
  have HE2 : Hid (¬ (s.length : Int) < Sg.word s 2 → Sg.word s 2 < 16 + 8 * (Sg.many s : Nat) → Sg.get s = ([], 5)) := Lib.hid (fun hx hy => by unfold Sg.get; rw [if_neg (by omega), if_neg (by omega), if_neg hx, if_pos hy])
  have HE3 : Hid (¬ (s.length : Int) < Sg.word s 2 → ¬ Sg.word s 2 < 16 + 8 * (Sg.many s : Nat) → Sg.get s = Sg.body (s.take (Sg.word s 2).toNat) (Sg.many s)) := Lib.hid (fun hx hy => by unfold Sg.get; rw [if_neg (by omega), if_neg (by omega), if_neg hx, if_neg hy])
  have b2 := Sg.word_bound s 2
  have b6 := Sg.word_bound s 6
  have hsz : (ByteArray.mk s.toArray).size = s.length := rfl
  have hmany : Sg.many s = (Sg.word s 6 / 2).toNat := rfl
  rw [h0] at H0
  generalize hz : Sg.word s 2 = z' at *
  obtain ⟨z, rfl⟩ := Int.eq_ofNat_of_zero_le b2.1
  rw [Int.toNat_natCast] at HE3
  have hx : (ByteArray.mk s.toArray).extract 0 z = ByteArray.mk (s.take z).toArray := by rw [Gk.extract_list]; simp
  have htl : z ≤ s.length → (s.take z).length = z := fun hh => by rw [List.length_take]; omega
  have htz : (ByteArray.mk (s.take z).toArray).size = (s.take z).length := rfl
  have HB := Lib.hid (Sg.body_facts (s.take z) (Sg.many s))
  have HLn := Lib.hid (fun hh k hk => Sg.upTo'_len (t := s.take z) (n := Sg.many s) hh k hk)
  have HSl := Lib.hid (fun i hi => Sg.seg_len (t := s.take z) (n := Sg.many s) (i := i) hi)
  generalize Sg.get s = y at *
  generalize Sg.many s = n at *
  generalize Sg.word s 6 = x3 at *
  generalize s.take z = t at *
  generalize s.length = sn at *
  have hn : x3 / 2 = (n : Int) := by omega
  clear hmany hz h0
  go_enter Tryz.func35, Tryz.ntmps35
  go_wp2_with fail
  refine (H6.out _).mono ?_
  rintro e w1 ⟨rfl, rfl⟩
  go_wp2_with fail
  refine (H0.out _).mono ?_
  rintro e w1 ⟨rfl, rfl⟩
  go_wp2_with fail
  refine (H6.out _).mono ?_
  rintro e w1 ⟨rfl, rfl⟩
  go_wp2_with fail
  refine (H2.out _).mono ?_
  rintro e w1 ⟨rfl, rfl⟩
  by_cases c3 : sn < z
  · have HE := Lib.hid (HE1.out (by omega))
    go_wp2_with fail
    go_ret2
    rw [HE.out]
    exact GotSp.nil rfl (Lo.refl _)
  · go_wp2_with fail
    refine (H2.out _).mono ?_
    rintro e w2 ⟨rfl, rfl⟩
    by_cases c4 : z < 16 + 8 * n
    · have HE := Lib.hid (HE2.out (by omega) (by omega))
      go_wp2_with fail
      go_ret2
      rw [HE.out]
      exact GotSp.nil rfl (Lo.refl _)
    · have hE := HE3.out (by omega) (by omega)
      obtain ⟨f1, f2⟩ := HB.out
      rw [← hE] at f1 f2
      have htz2 := htl (by omega)
      have HNo := Lib.hid f1
      have HYes := Lib.hid f2
      have HWt : Hid (∀ i, i < n → ∀ W, Calls Tryz.prog 66 #[.string ⟨t.toArray⟩, .int .i64 (14 + 2 * (i : Int))] W fun e w' => e = .returned (.int .i64 (Sg.sTo t i)) ∧ W = w') := Lib.hid (fun i hi W => word_at (p := 14 + 2 * i) (by omega) (by omega) (by omega) W)
      have HWf : Hid (∀ i, i < n → ∀ W, Calls Tryz.prog 66 #[.string ⟨t.toArray⟩, .int .i64 (16 + 2 * (n : Int) + 2 * (i : Int))] W fun e w' => e = .returned (.int .i64 (Sg.sFr t n i)) ∧ W = w') := Lib.hid (fun i hi W => word_at (p := 16 + 2 * n + 2 * i) (by omega) (by omega) (by omega) W)
      have HWd : Hid (∀ i, i < n → ∀ W, Calls Tryz.prog 66 #[.string ⟨t.toArray⟩, .int .i64 (16 + 4 * (n : Int) + 2 * (i : Int))] W fun e w' => e = .returned (.int .i64 (Sg.sDe t n i)) ∧ W = w') := Lib.hid (fun i hi W => word_at (p := 16 + 4 * n + 2 * i) (by omega) (by omega) (by omega) W)
      have HWo : Hid (∀ i, i < n → ∀ W, Calls Tryz.prog 66 #[.string ⟨t.toArray⟩, .int .i64 (16 + 6 * (n : Int) + 2 * (i : Int))] W fun e w' => e = .returned (.int .i64 (Sg.sOf t n i)) ∧ W = w') := Lib.hid (fun i hi W => word_at (p := 16 + 6 * n + 2 * i) (by omega) (by omega) (by omega) W)
      have HFar : Hid (∀ i, i < n → Sg.sFr t n i ≤ Sg.sTo t i → Sg.sOf t n i ≠ 0 → ∀ W, Calls Tryz.prog 68 #[.string ⟨t.toArray⟩, .int .i64 (Sg.sFr t n i), .int .i64 (Sg.sTo t i), .int .i64 (Sg.sDe t n i), .int .i64 (16 + 6 * (n : Int) + 2 * (i : Int))] W (GotSp (Sg.seg t n i) W)) := Lib.hid (fun i hi hle hof W => by
        have := rfar_any t (Sg.sFr t n i) (Sg.sTo t i) (Sg.sDe t n i) (16 + 6 * n + 2 * i) W (by omega) (by omega) (Sg.word_bound _ _).1 hle (Sg.word_bound _ _).2 (Sg.word_bound _ _).1 (Sg.word_bound _ _).2
        rw [show Sg.seg t n i = Sg.far t (Sg.sFr t n i) (Sg.sTo t i) (Sg.sDe t n i) (16 + 6 * n + 2 * i) by unfold Sg.seg; rw [if_neg hof]]
        rwa [show ((16 + 6 * n + 2 * i : Nat) : Int) = 16 + 6 * (n : Int) + 2 * (i : Int) by omega] at this)
      have HNear : Hid (∀ i, i < n → Sg.sOf t n i = 0 → ∀ W, Calls Tryz.prog 67 #[.int .i64 (Sg.sFr t n i), .int .i64 (Sg.sTo t i), .int .i64 (Sg.sDe t n i)] W (GotSpans (Sg.seg t n i).1 W)) := Lib.hid (fun i hi hof W => by
        rw [show (Sg.seg t n i).1 = Sg.near (Sg.sFr t n i) (Sg.sTo t i) (Sg.sDe t n i) by unfold Sg.seg; rw [if_pos hof]]
        exact rnear_any _ _ _ W (Sg.word_bound _ _).1 (Sg.word_bound _ _).2 (Sg.word_bound _ _).1 (Sg.word_bound _ _).2 (Sg.word_bound _ _).1 (Sg.word_bound _ _).2)
      have HN0 : Hid (∀ i, Sg.sOf t n i = 0 → (Sg.seg t n i).2 = 0) := Lib.hid (fun i hof => by unfold Sg.seg; rw [if_pos hof])
      have HBd : Hid (∀ i, (0 ≤ Sg.sTo t i ∧ Sg.sTo t i ≤ 65535) ∧ (0 ≤ Sg.sFr t n i ∧ Sg.sFr t n i ≤ 65535) ∧ (0 ≤ Sg.sOf t n i ∧ Sg.sOf t n i ≤ 65535)) := Lib.hid (fun i => ⟨Sg.word_bound _ _, Sg.word_bound _ _, Sg.word_bound _ _⟩)
      have HSt := Lib.hid (fun (k : Nat) => Sg.okTo_step (Sg.sTo t) (Sg.sFr t n) (Sg.sOf t n) k)
      have HNoK := Lib.hid (fun (k : Nat) (hk : k < n) (h : Sg.badF (Sg.sTo t) (Sg.sFr t n) (Sg.sOf t n) k = true) => Sg.okTo_no hk h)
      have HEndK : Hid (Sg.okTo (Sg.sTo t) (Sg.sFr t n) (Sg.sOf t n) n = true → Sg.rightF (Sg.sTo t) (Sg.sFr t n) (Sg.sOf t n) n = decide (Sg.lastF (Sg.sTo t) n = 65535)) := Lib.hid (fun h => by unfold Sg.rightF; rw [h, Bool.true_and])
      have HLa : Hid (∀ k, Sg.lastF (Sg.sTo t) (k + 1) = Sg.sTo t k) := Lib.hid (fun k => by unfold Sg.lastF; rw [if_neg (by omega)]; rfl)
      have HLb : Hid (∀ k, Sg.lastF (Sg.sTo t) k ≤ 65535) := Lib.hid (fun k => by
        unfold Sg.lastF
        by_cases h : k = 0
        · rw [if_pos h]; omega
        · rw [if_neg h]; exact (Sg.word_bound _ _).2)
      have HZe : Hid (Sg.lastF (Sg.sTo t) 0 = -1) := Lib.hid rfl
      have HUp := Lib.hid (fun k => Sg.upTo'_step (Sg.seg t n) k)
      have hnb : n ≤ 10000 := by omega
      clear f1 f2 hE htl HE1 HE2 HE3 HB H0 H6
      go_wp2_with fail
      refine (H2.out _).mono ?_
      rintro e w3 ⟨rfl, rfl⟩
      go_wp2_with fail
      go_loopw [5, 6, 7, 8] (fun s5 s6 _ _ W => ∃ k : Nat, k ≤ n ∧ s6 = .int .i64 k ∧ s5 = .int .i64 (Sg.lastF (Sg.sTo t) k) ∧ Hid (Sg.okTo (Sg.sTo t) (Sg.sFr t n) (Sg.sOf t n) k = true) ∧ Hid (Lo w W)) (fun _ s6 _ _ _ => n - (intOf s6).toNat)
      case atStart => exact ⟨0, Nat.zero_le _, rfl, by rw [HZe.out], Lib.hid rfl, Lib.hid (Lo.refl _)⟩
      case round =>
        obtain ⟨k, hk, rfl, rfl, HK, HL⟩ := hrel
        by_cases hlt : k < n
        · have HW1 := Lib.hid (HWt.out k hlt)
          have HW2 := Lib.hid (HWf.out k hlt)
          have HW3 := Lib.hid (HWo.out k hlt)
          obtain ⟨⟨d1, d2⟩, ⟨d3, d4⟩, ⟨d5, d6⟩⟩ := HBd.out k
          have HN1 := Lib.hid (HNoK.out k hlt)
          have HS1 := Lib.hid (HSt.out k)
          have HLa1 := Lib.hid (HLa.out k)
          have HNoE := Lib.hid (fun hh : Sg.badF (Sg.sTo t) (Sg.sFr t n) (Sg.sOf t n) k = true => HNo.out (HN1.out hh))
          unfold Sg.badF at HN1 HS1 HNoE
          generalize Sg.lastF (Sg.sTo t) k = la at *
          generalize Sg.sTo t k = x1 at *
          generalize Sg.sFr t n k = x2 at *
          generalize Sg.sOf t n k = x4 at *
          go_wp2_with fail
          refine (HW1.out _).mono ?_
          rintro e w4 ⟨rfl, rfl⟩
          go_wp2_with fail
          refine (HW2.out _).mono ?_
          rintro e w4 ⟨rfl, rfl⟩
          by_cases c1 : x1 < x2
          · have HE := Lib.hid (HNoE.out (by simp; omega))
            go_wp2_with fail
            go_ret2
            rw [HE.out]
            exact GotSp.nil rfl HL.out
          · by_cases c2 : x2 ≤ la
            · have HE := Lib.hid (HNoE.out (by simp; omega))
              go_wp2_with fail
              go_ret2
              rw [HE.out]
              exact GotSp.nil rfl HL.out
            · go_wp2_with fail
              refine (HW3.out _).mono ?_
              rintro e w4 ⟨rfl, rfl⟩
              by_cases c3 : x4 % 2 = 1
              · have HE := Lib.hid (HNoE.out (by simp; omega))
                go_wp2_with fail
                go_ret2
                rw [HE.out]
                exact GotSp.nil rfl HL.out
              · have HK2 : Hid (Sg.okTo (Sg.sTo t) (Sg.sFr t n) (Sg.sOf t n) (k + 1) = true) := Lib.hid (by rw [HS1.out, HK.out]; simp; omega)
                have c4 : x4 % 2 = 0 := by omega
                clear c3
                go_wp2_with fail
                go_roundw
                case rel => exact ⟨k + 1, by omega, by go_num, by rw [HLa1.out], HK2, HL⟩
                case measure => simp [intOf]; omega
        · obtain rfl : k = n := by omega
          have hE := HEndK.out HK.out
          have hla := HLb.out k
          by_cases c5 : Sg.lastF (Sg.sTo t) k = 65535
          · rw [decide_eq_true c5] at hE
            obtain ⟨g1, g2, g3⟩ := HYes.out hE
            have HG1 := Lib.hid g1
            have HG2 := Lib.hid g2
            have HG3 := Lib.hid g3
            have HLn1 := Lib.hid (HLn.out g1)
            have HLb2 := HLb
            clear hE g1 g2 g3 HNo HYes
            rw [c5]
            clear c5 hla
            go_wp2_with fail
            go_loopw [9, 10, 11, 12, 13, 14, 15, 16] (fun s9 s10 _ _ _ _ _ _ W => ∃ (i : Nat) (L : List Ch.Span) (q : Option Addr) (d : Nat), i ≤ k ∧ s10 = .int .i64 i ∧ s9 = .slice q L.length d ∧ Hid (L = Sg.upTo' (Sg.seg t k) i) ∧ Hid (∀ j, j < i → (Sg.seg t k j).2 = 0) ∧ Hid (OwnK encS 63 4 W w.heap.size (.slice q L.length d) L) ∧ Hid (Lo w W)) (fun _ s10 _ _ _ _ _ _ _ => k - (intOf s10).toNat)
            case atStart => exact ⟨0, [], none, 0, Nat.zero_le _, rfl, rfl, Lib.hid rfl, Lib.hid (fun j hj => by omega), Lib.hid (OwnK.none _ _ _ _ _), HL⟩
            case round =>
              clear HL
              obtain ⟨i, L, q, d, hi, rfl, rfl, HT, HZ, HO, HL⟩ := hrel
              by_cases hlt : i < k
              · obtain ⟨hle, _⟩ := HG1.out i hlt
                have HW1 := Lib.hid (HWt.out i hlt)
                have HW2 := Lib.hid (HWf.out i hlt)
                have HW3 := Lib.hid (HWd.out i hlt)
                have HW4 := Lib.hid (HWo.out i hlt)
                have HNr := Lib.hid (HNear.out i hlt)
                have HFr := Lib.hid (HFar.out i hlt hle)
                have HN1 := Lib.hid (HN0.out i)
                have HU1 := HUp.out i
                rw [← HT.out] at HU1
                have HU2 := Lib.hid HU1
                have HG2k := Lib.hid (HG2.out i hlt HZ.out)
                have HLk : Hid (L.length ≤ 200000) := Lib.hid (by
                  have h1 := HLn1.out i hi
                  have h2 := HLb2.out i
                  rw [HT.out]; omega)
                have HSk : Hid ((Sg.seg t k i).1.length ≤ 70000) := Lib.hid (by
                  have h1 := HSl.out i hle
                  obtain ⟨⟨d1, d2⟩, ⟨d3, d4⟩, _⟩ := HBd.out i
                  omega)
                have HZk : Hid ((Sg.seg t k i).2 = 0 → ∀ j, j < i + 1 → (Sg.seg t k j).2 = 0) := Lib.hid (fun h0 j hj => by
                  rcases (show j < i ∨ j = i by omega) with h | rfl
                  · exact HZ.out j h
                  · exact h0)
                have HSz := Lib.hid HL.out.size
                clear hle HU1
                generalize Sg.seg t k i = zz at *
                obtain ⟨zl, ze⟩ := zz
                unfold GotSp at HFr
                unfold GotSpans at HNr
                dsimp only at HFr HNr HN1 HU2 HG2k HSk HZk
                generalize Sg.sTo t i = x1 at *
                generalize Sg.sFr t k i = x2 at *
                generalize Sg.sDe t k i = x3 at *
                generalize Sg.sOf t k i = x4 at *
                have HT2 : Hid (L ++ zl = Sg.upTo' (Sg.seg t k) (i + 1)) := Lib.hid HU2.out.symm
                go_wp2_with fail
                refine (HW1.out _).mono ?_
                rintro e w4 ⟨rfl, rfl⟩
                go_wp2_with fail
                refine (HW2.out _).mono ?_
                rintro e w4 ⟨rfl, rfl⟩
                go_wp2_with fail
                refine (HW3.out _).mono ?_
                rintro e w4 ⟨rfl, rfl⟩
                go_wp2_with fail
                refine (HW4.out _).mono ?_
                rintro e w4 ⟨rfl, rfl⟩
                by_cases hz : x4 = 0
                · have hze := HN1.out hz
                  have HNr1 := Lib.hid (HNr.out hz)
                  subst hz
                  have HZ2 := Lib.hid (HZk.out hze)
                  clear HNr HFr HN1 HG2k HZk hze HW1 HW2 HW3 HW4
                  go_wp2_with fail
                  refine (HNr1.out _).mono ?_
                  rintro e w4 ⟨p4, c4, rfl, hr, lo⟩
                  have HR4 := Lib.hid hr
                  have HO4 := Lib.hid (OwnK.lo HO.out lo)
                  have HL4 := Lib.hid (HL.out.trans lo)
                  have HSz4 := Lib.hid HL4.out.size
                  clear hr lo HNr1
                  go_wp2_with (at_builtin; refine wpList_appK _ rfl (.tmp 128) (.tmp 132) _ rfl 63 4 32 _ Tryz.underlying22 api_info rfl (by omega) (by omega) encS_len encS_one w.heap.size (.slice q L.length d) L rfl HO4.out _ zl rfl HR4.out (by have := HLk.out; have := HSk.out; omega) (by have := HSz4.out; omega) ?_; intro q1 d1 w5 hown hlo; have HO5 := Lib.hid hown; have HL5 := Lib.hid (hlo w HL4.out (Nat.le_refl _)); clear hown hlo)
                  go_roundw
                  case rel => exact ⟨i + 1, L ++ zl, q1, d1, by omega, by go_num, by simp, HT2, HZ2, by simpa using HO5, HL5⟩
                  case measure => simp [intOf]; omega
                · have HFr1 := Lib.hid (HFr.out hz)
                  have hz2 : (x4 == 0) = false := by rw [beq_eq_false_iff_ne]; exact hz
                  clear HNr HFr HN1 HW1 HW2 HW3 HW4
                  by_cases he : ze = 0
                  · have HZ2 := Lib.hid (HZk.out he)
                    subst he
                    clear HG2k HZk
                    go_wp2_with fail
                    refine (HFr1.out _).mono ?_
                    rintro e w4 ⟨p4, c4, rfl, hr, lo⟩
                    have HR4 := Lib.hid hr
                    have HO4 := Lib.hid (OwnK.lo HO.out lo)
                    have HL4 := Lib.hid (HL.out.trans lo)
                    have HSz4 := Lib.hid HL4.out.size
                    clear hr lo HFr1
                    go_wp2_with (at_builtin; refine wpList_appK _ rfl (.tmp 146) (.tmp 147) _ rfl 63 4 32 _ Tryz.underlying22 api_info rfl (by omega) (by omega) encS_len encS_one w.heap.size (.slice q L.length d) L rfl HO4.out _ zl rfl HR4.out (by have := HLk.out; have := HSk.out; omega) (by have := HSz4.out; omega) ?_; intro q1 d1 w5 hown hlo; have HO5 := Lib.hid hown; have HL5 := Lib.hid (hlo w HL4.out (Nat.le_refl _)); clear hown hlo)
                    go_roundw
                    case rel => exact ⟨i + 1, L ++ zl, q1, d1, by omega, by go_num, by simp, HT2, HZ2, by simpa using HO5, HL5⟩
                    case measure => simp [intOf]; omega
                  · have HE := Lib.hid (HG2k.out he)
                    clear HG2k HZk
                    go_wp2_with fail
                    refine (HFr1.out _).mono ?_
                    rintro e w4 ⟨p4, c4, rfl, hr, lo⟩
                    have HL4 := Lib.hid (HL.out.trans lo)
                    clear hr lo HFr1
                    go_wp2_with fail
                    go_ret2
                    rw [HE.out]
                    exact GotSp.nil rfl HL4.out
              · obtain rfl : i = k := by omega
                have HE := Lib.hid (HG3.out HZ.out)
                rw [← HT.out] at HE
                go_wp2_with fail
                go_ret2
                rw [HE.out]
                exact ⟨q, d, rfl, OwnK.row encS_len HO.out, HL.out⟩
          · rw [decide_eq_false c5] at hE
            have HE := Lib.hid (HNo.out hE)
            clear hE
            generalize Sg.lastF (Sg.sTo t) k = la at *
            go_wp2_with fail
            go_ret2
            rw [HE.out]
            exact GotSp.nil rfl HL.out

/-- The document's Get. -/
theorem rget9_any (s : List UInt8) (w : World) (hl : s.length ≤ 100000) : Calls Tryz.prog 35 #[.string ⟨s.toArray⟩] w (GotSp (Sg.get s) w) := by
  by_cases c1 : s.length < 14
  · exact rget_more s w c1
  · by_cases c2 : Sg.word s 0 ≠ 4 ∨ Sg.word s 6 % 2 = 1 ∨ Sg.many s = 0
    · exact rget_form s w hl (by omega) c2
    · exact rget_rest s w hl (by omega) (by omega) (by omega) (by omega)
end Go.Proofs.YtppihpjcdieeoaaGreatDoor
