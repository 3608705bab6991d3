/-
  Facts that the walks rest on: SgRight, SgGet, SgGetW, GpFacts. No conditions beyond those stated.
-/
import Derived.Test.YtppihpjcdieeoaaGreatDoorPart06
import Derived.Test.YtppihpjcdieeoaaGreatDoorPart01
import Derived.Test.YtppihpjcdieeoaaGreatDoorChFacts
/-
  Contracts of the methods isRight and spans of segment's table: if the segments rise; the spans of one segment. Conditions: the table's numbers lie in memory, within 16 bits.
-/
namespace Sg
open Ch
def lastF (tt : Nat → Int) (i : Nat) : Int := if i = 0 then -1 else tt (i - 1)
def badF (tt fr tl : Nat → Int) (i : Nat) : Bool := decide (tt i < fr i) || decide (fr i ≤ lastF tt i) || decide (tl i % 2 = 1)
def okTo (tt fr tl : Nat → Int) (n : Nat) : Bool := (List.range n).all fun i => !(badF tt fr tl i)
def rightF (tt fr tl : Nat → Int) (n : Nat) : Bool := okTo tt fr tl n && decide (lastF tt n = 65535)
theorem okTo_step (tt fr tl : Nat → Int) (n : Nat) : okTo tt fr tl (n + 1) = (okTo tt fr tl n && !(badF tt fr tl n)) := by
  unfold okTo
  rw [List.range_succ, List.all_append]
  simp
theorem okTo_no {tt fr tl : Nat → Int} {n k : Nat} (hk : k < n) (h : badF tt fr tl k = true) : rightF tt fr tl n = false := by
  unfold rightF
  rw [Bool.and_eq_false_iff]
  left
  unfold okTo
  rw [List.all_eq_false]
  exact ⟨k, List.mem_range.2 hk, by rw [h]; simp⟩
def segF (tt fr de tl : Nat → Int) (m i : Nat) : List Span × Int :=
  if tl i = 0 then (nearL (fr i) (tt i) ((fr i + de i) % 65536), 0)
  else if (m : Int) < i + tl i / 2 + (tt i - fr i + 1) then ([], 4)
  else (spansL (fr i) ((List.range (tt i - fr i + 1).toNat).map fun j => gl1 (tl (i + (tl i / 2).toNat + j)) (de i)), 0)
end Sg
namespace Go.Proofs.YtppihpjcdieeoaaGreatDoor
open Go.RowKit

set_option maxRecDepth 100000 in
set_option maxHeartbeats 3200000 in
theorem isRight_any (b o0 o1 o2 o3 o4 n m : Nat) (tt fr tl : Nat → Int) (w : World) (hb : b < w.heap.size) (h1 : ∀ i, i < n → w.cell? ⟨b, o1 + i, none⟩ = some (.int .i64 (tt i))) (h2 : ∀ i, i < n → w.cell? ⟨b, o2 + i, none⟩ = some (.int .i64 (fr i)))
    (h4 : ∀ i, i < n → w.cell? ⟨b, o4 + i, none⟩ = some (.int .i64 (tl i))) (hl : ∀ i, i < n → 0 ≤ tl i ∧ tl i ≤ 65535) (hnm : n ≤ m) (hm : m ≤ 1000000) :
    Calls Tryz.prog 89 #[aggT5 b o0 o1 o2 o3 o4 n m] w fun e w' => e = .returned (.bool (Sg.rightF tt fr tl n)) ∧ Lo w w' := by
  have H1 := Lib.hid (fun i hi (W : World) (l : Lo w W) => (l.cell hb).trans (h1 i hi))
  have H2 := Lib.hid (fun i hi (W : World) (l : Lo w W) => (l.cell hb).trans (h2 i hi))
  have H4 := Lib.hid (fun i hi (W : World) (l : Lo w W) => (l.cell hb).trans (h4 i hi))
  have HBd := Lib.hid hl
  have HNo := Lib.hid (fun (k : Nat) (hk : k < n) (h : Sg.badF tt fr tl k = true) => Sg.okTo_no hk h)
  have HSt := Lib.hid (fun (k : Nat) => Sg.okTo_step tt fr tl k)
  have HEnd : Hid (Sg.okTo tt fr tl n = true → Sg.rightF tt fr tl n = decide (Sg.lastF tt n = 65535)) := Lib.hid (fun h => by unfold Sg.rightF; rw [h, Bool.true_and])
  have HLa : Hid (∀ k, Sg.lastF tt (k + 1) = tt k) := Lib.hid (fun k => by unfold Sg.lastF; rw [if_neg (by omega)]; rfl)
  have HZe : Hid (Sg.lastF tt 0 = -1) := Lib.hid rfl
  generalize Sg.rightF tt fr tl n = y at *
  clear hb h1 h2 h4 hl
  unfold aggT5
  have HT0 := Lib.hid (new_block w (.cells #[.slice (some ⟨b, o0, none⟩) 7 7, .slice (some ⟨b, o1, none⟩) n n, .slice (some ⟨b, o2, none⟩) n n, .slice (some ⟨b, o3, none⟩) n n, .slice (some ⟨b, o4, none⟩) m m] 106))
  have HL0 := Lib.hid ((Lo.refl w).alloc (.cells #[.slice (some ⟨b, o0, none⟩) 7 7, .slice (some ⟨b, o1, none⟩) n n, .slice (some ⟨b, o2, none⟩) n n, .slice (some ⟨b, o3, none⟩) n n, .slice (some ⟨b, o4, none⟩) m m] 106))
  go_enter Tryz.func89, Tryz.ntmps89
  go_wp2_with fail
  go_loopw [3, 4, 5, 9] (fun s3 _ _ s9 W => ∃ (k : Nat), k ≤ n ∧ s9 = .int .i64 k ∧ s3 = .int .i64 (Sg.lastF tt k) ∧ Hid (Sg.okTo tt fr tl k = true) ∧ Hid (W.heap[w.heap.size]? = some (.cells #[.slice (some ⟨b, o0, none⟩) 7 7, .slice (some ⟨b, o1, none⟩) n n, .slice (some ⟨b, o2, none⟩) n n, .slice (some ⟨b, o3, none⟩) n n, .slice (some ⟨b, o4, none⟩) m m] 106 (0, 0))) ∧ Hid (Lo w W)) (fun _ _ _ s9 _ => n - (intOf s9).toNat)
  case atStart => exact ⟨0, Nat.zero_le _, rfl, by rw [HZe.out], Lib.hid rfl, HT0, HL0⟩
  case round =>
    obtain ⟨k, hk, rfl, rfl, HK, HT, HL⟩ := hrel
    obtain ⟨⟨s0, s1, s2, s3, s4⟩, _⟩ := five_at HT.out
    by_cases hlt : k < n
    · have r1 := H1.out k hlt _ HL.out
      have r2 := H2.out k hlt _ HL.out
      have r4 := H4.out k hlt _ HL.out
      obtain ⟨bd0, bd1⟩ := HBd.out k hlt
      have HN1 := Lib.hid (HNo.out k hlt)
      have HS1 := Lib.hid (HSt.out k)
      have HLa1 := Lib.hid (HLa.out k)
      unfold Sg.badF at HN1 HS1
      generalize hla : Sg.lastF tt k = la at *
      generalize tt k = x1 at *
      generalize fr k = x2 at *
      generalize tl k = x4 at *
      by_cases c1 : x1 < x2
      · have HE : Hid (y = false) := Lib.hid (HN1.out (by simp; omega))
        clear hla
        go_wp2_with fail
        go_ret
        exact ⟨ret_bool (by rw [HE.out]), HL.out⟩
      · by_cases c2 : x2 ≤ la
        · have HE : Hid (y = false) := Lib.hid (HN1.out (by simp; omega))
          clear hla
          go_wp2_with fail
          go_ret
          exact ⟨ret_bool (by rw [HE.out]), HL.out⟩
        · by_cases c3 : x4 % 2 = 1
          · have HE : Hid (y = false) := Lib.hid (HN1.out (by simp; omega))
            clear hla
            go_wp2_with fail
            go_ret
            exact ⟨ret_bool (by rw [HE.out]), HL.out⟩
          · have HK2 : Hid (Sg.okTo tt fr tl (k + 1) = true) := Lib.hid (by rw [HS1.out, HK.out]; simp; omega)
            have c4 : x4 % 2 = 0 := by omega
            clear hla c3
            go_wp2_with fail
            go_roundw
            case rel => exact ⟨k + 1, by omega, by go_num, by rw [HLa1.out], HK2, HT, HL⟩
            case measure => simp [intOf]; omega
    · obtain rfl : k = n := by omega
      have HE := Lib.hid (HEnd.out HK.out)
      go_wp2_with fail
      go_ret
      exact ⟨ret_bool (by rw [HE.out]; rfl), HL.out⟩

set_option maxRecDepth 100000 in
set_option maxHeartbeats 3200000 in
theorem spans_one (b o0 o1 o2 o3 o4 n m i : Nat) (tt fr de tl : Nat → Int) (w : World) (hb : b < w.heap.size) (h1 : w.cell? ⟨b, o1 + i, none⟩ = some (.int .i64 (tt i))) (h2 : w.cell? ⟨b, o2 + i, none⟩ = some (.int .i64 (fr i)))
    (h3 : w.cell? ⟨b, o3 + i, none⟩ = some (.int .i64 (de i))) (h4 : ∀ j, j < m → w.cell? ⟨b, o4 + j, none⟩ = some (.int .i64 (tl j))) (hl : ∀ j, j < m → 0 ≤ tl j ∧ tl j ≤ 65535) (hnm : n ≤ m) (hm : m ≤ 100000) (hi : i < n)
    (q1 : fr i ≤ tt i) (q2 : 0 ≤ fr i) (q3 : tt i ≤ 65535) (q4 : 0 ≤ de i) (q5 : de i ≤ 65535) :
    Calls Tryz.prog 90 #[aggT5 b o0 o1 o2 o3 o4 n m, .int .i64 (i : Int)] w (GotSp (Sg.segF tt fr de tl m i) w) := by
  have h4i := h4 i (by omega)
  obtain ⟨e0, e1⟩ := hl i (by omega)
  have HW := Lib.hid (fun (W : World) => wrapped_any (fr i + de i) W)
  have HC := Lib.hid (fun (W : World) => counted_any (fr i) (tt i) ((fr i + de i) % 65536) W q2 (by omega) (by omega) q3 (by omega) (by omega))
  have HS0 := Lib.hid (fun (h : tl i = 0) => (show Sg.segF tt fr de tl m i = (Sg.nearL (fr i) (tt i) ((fr i + de i) % 65536), 0) by unfold Sg.segF; rw [if_pos h]))
  have HS1 := Lib.hid (fun (h : tl i ≠ 0) (h2 : (m : Int) < i + tl i / 2 + (tt i - fr i + 1)) => (show Sg.segF tt fr de tl m i = ([], 4) by unfold Sg.segF; rw [if_neg h, if_pos h2]))
  have HS2 := Lib.hid (fun (h : tl i ≠ 0) (h2 : ¬ (m : Int) < i + tl i / 2 + (tt i - fr i + 1)) => (show Sg.segF tt fr de tl m i = (Ch.spansL (fr i) ((List.range (tt i - fr i + 1).toNat).map fun j => Sg.gl1 (tl (i + (tl i / 2).toNat + j)) (de i)), 0) by unfold Sg.segF; rw [if_neg h, if_neg h2]))
  have HL := Lib.hid (fun (h2 : ¬ (m : Int) < i + tl i / 2 + (tt i - fr i + 1)) (W : World) (l : Lo w W) => (show Calls Tryz.prog 122 #[.int .i64 (fr i), .int .i64 (de i), .slice (some ⟨b, o4 + (i + (tl i / 2).toNat), none⟩) (tt i - fr i + 1).toNat (tt i - fr i + 1).toNat] W (GotSpans (Ch.spansL (fr i) ((List.range (tt i - fr i + 1).toNat).map fun j => Sg.gl1 (tl (i + (tl i / 2).toNat + j)) (de i))) W) by
    have e : (List.range (tt i - fr i + 1).toNat).map (fun j => Sg.gl1 (tl (i + (tl i / 2).toNat + j)) (de i)) = ((List.range (tt i - fr i + 1).toNat).map fun j => tl (i + (tl i / 2).toNat + j)).map fun x => Sg.gl1 x (de i) := by rw [List.map_map]; rfl
    have el : ((List.range (tt i - fr i + 1).toNat).map fun j => tl (i + (tl i / 2).toNat + j)).length = (tt i - fr i + 1).toNat := by simp
    rw [e]
    refine listed_any (fr i) (de i) _ _ W (.inr ⟨b, _, _, by rw [el], by rw [el]; omega, by rw [el]; omega, Nat.lt_of_lt_of_le hb l.size, fun j hj => ?_⟩) (by rw [el]; omega) q2 (by omega) q4 q5 (fun j hj => ?_)
    · rw [el] at hj
      rw [l.cell hb, Nat.add_assoc, h4 _ (by omega)]
      simp [List.getD, hj]
    · rw [el] at hj
      have := hl (i + (tl i / 2).toNat + j) (by omega)
      simpa [List.getD, hj] using this))
  generalize Sg.segF tt fr de tl m i = y at *
  generalize (List.range (tt i - fr i + 1).toNat).map (fun j => Sg.gl1 (tl (i + (tl i / 2).toNat + j)) (de i)) = gs at *
  clear h4 hl
  generalize tl i = x4 at *
  generalize de i = x3 at *
  generalize fr i = x2 at *
  generalize tt i = x1 at *
  unfold GotSpans at HC HL
  generalize Sg.nearL x2 x1 ((x2 + x3) % 65536) = near at *
  generalize (x2 + x3) % 65536 = g at *
  generalize Ch.spansL x2 gs = far at *
  have A1 := fun W (l : Lo w W) => (l.cell hb).trans h1
  have A2 := fun W (l : Lo w W) => (l.cell hb).trans h2
  have A3 := fun W (l : Lo w W) => (l.cell hb).trans h3
  have A4 := fun W (l : Lo w W) => (l.cell hb).trans h4i
  have l0 := (Lo.refl w).alloc (.cells #[.slice (some ⟨b, o0, none⟩) 7 7, .slice (some ⟨b, o1, none⟩) n n, .slice (some ⟨b, o2, none⟩) n n, .slice (some ⟨b, o3, none⟩) n n, .slice (some ⟨b, o4, none⟩) m m] 106)
  obtain ⟨⟨s0, s1, s2, s3, s4⟩, _⟩ := five_at (new_block w (.cells #[.slice (some ⟨b, o0, none⟩) 7 7, .slice (some ⟨b, o1, none⟩) n n, .slice (some ⟨b, o2, none⟩) n n, .slice (some ⟨b, o3, none⟩) n n, .slice (some ⟨b, o4, none⟩) m m] 106))
  have r1 := A1 _ l0
  have r2 := A2 _ l0
  have r3 := A3 _ l0
  have r4 := A4 _ l0
  have HL0 := Lib.hid l0
  clear l0 A1 A2 A3 A4 h1 h2 h3 h4i hb
  unfold aggT5
  by_cases hz : x4 = 0
  · have HE := Lib.hid (HS0.out hz)
    subst hz
    clear HS0 HS1 HS2 HL
    go_enter Tryz.func90, Tryz.ntmps90
    go_wp2_with fail
    go_quiet (fail)
    have HLn := Lib.hid (HL0.out.drewN nq)
    go_wp2_with fail
    refine (HW.out _).mono ?_
    rintro e w1 ⟨rfl, rfl⟩
    go_wp2_with fail
    refine (HC.out _).mono ?_
    rintro e w2 ⟨p, c, rfl, hr, lo⟩
    have HLn := Lib.hid (HLn.out.trans lo)
    have HR := Lib.hid hr
    clear lo hr HC
    go_wp2_with fail
    go_ret2
    rw [HE.out]
    exact ⟨p, c, rfl, HR.out, HLn.out⟩
  · by_cases hm2 : (m : Int) < i + x4 / 2 + (x1 - x2 + 1)
    · have HE := Lib.hid (HS1.out hz hm2)
      clear HS0 HS1 HS2 HL HC HW
      go_enter Tryz.func90, Tryz.ntmps90
      go_wp2_with fail
      go_quiet (fail)
      have HLn := Lib.hid (HL0.out.drewN nq)
      go_wp2_with fail
      go_ret2
      rw [HE.out]
      exact GotSp.nil rfl HLn.out
    · have HE := Lib.hid (HS2.out hz hm2)
      have HL1 := Lib.hid (HL.out hm2)
      have hq : x4 / 2 = ((x4 / 2).toNat : Int) := by omega
      have hc : x1 - x2 + 1 = ((x1 - x2 + 1).toNat : Int) := by omega
      generalize (x1 - x2 + 1).toNat = cn at *
      generalize (x4 / 2).toNat = h2 at *
      have hsl := fun W => slice_three b o4 m m (i + h2) cn (by omega) (by omega) W
      clear HS0 HS1 HS2 HL HC HW
      go_enter Tryz.func90, Tryz.ntmps90
      go_wp2_with fail
      go_quiet (fail)
      have HLn := Lib.hid (HL0.out.drewN nq)
      go_wp2_with fail
      refine (HL1.out _ HLn.out).mono ?_
      rintro e w2 ⟨p, c, rfl, hr, lo⟩
      have HLn := Lib.hid (HLn.out.trans lo)
      have HR := Lib.hid hr
      clear lo hr HL1
      go_wp2_with fail
      go_ret2
      rw [HE.out]
      exact ⟨p, c, rfl, HR.out, HLn.out⟩
end Go.Proofs.YtppihpjcdieeoaaGreatDoor
/-
  Contract of segment.Get. No conditions beyond those stated.
-/
namespace Sg
open Bn He Ch
def nTt (ns : List Int) (i : Nat) : Int := ns.getD (7 + i) 0
def nFr (ns : List Int) (n i : Nat) : Int := ns.getD (8 + n + i) 0
def nDe (ns : List Int) (n i : Nat) : Int := ns.getD (8 + 2 * n + i) 0
def nTl (ns : List Int) (n j : Nat) : Int := ns.getD (8 + 3 * n + j) 0
theorem nums_at (s : List UInt8) {j : Nat} (h : j < (nums s).length) : (nums s).getD j 0 = word (s.take (word s 2).toNat) (2 * j) := by
  rw [nums_len] at h
  unfold nums
  exact range_getD (fun i => word (s.take (word s 2).toNat) (2 * i)) _ j h
theorem nums_bound (s : List UInt8) (j : Nat) : 0 ≤ (nums s).getD j 0 ∧ (nums s).getD j 0 ≤ 65535 := by
  by_cases h : j < (nums s).length
  · rw [nums_at s h]; exact word_bound _ _
  · simp only [List.getD]
    rw [List.getElem?_eq_none (by omega)]
    simp
theorem near_nearL {fr tt delta : Int} (h0 : 0 ≤ fr) (h1 : fr ≤ 65535) (h3 : 0 ≤ delta) (h4 : delta ≤ 65535) : near fr tt delta = nearL fr tt ((fr + delta) % 65536) := by
  have hp : plane (fr + delta) = (fr + delta) % 65536 := by
    unfold plane
    by_cases h : 65536 ≤ fr + delta
    · rw [if_pos h]; omega
    · rw [if_neg h]; omega
  unfold near nearL
  rw [hp]
  by_cases h : (fr + delta) % 65536 + tt - fr ≤ 65535
  · rw [if_pos h, if_pos (by omega)]
  · rw [if_neg h, if_neg (by omega)]
    have e : fr + 65535 - (fr + delta) % 65536 = fr + 65536 - (fr + delta) % 65536 - 1 := by omega
    rw [e]
    congr 3
    omega
/-- What holds of a right subtable's numbers. -/
theorem table_facts {s : List UInt8} {m : Nat} (h : rerr s = 0) (hm : (nums s).length = 8 + 3 * many s + m) :
    many s ≤ m ∧ 1 ≤ many s ∧ m ≤ 40000 ∧
    (∀ i, i < many s → nTt (nums s) i = sTo (s.take (word s 2).toNat) i ∧ nFr (nums s) (many s) i = sFr (s.take (word s 2).toNat) (many s) i ∧ nDe (nums s) (many s) i = sDe (s.take (word s 2).toNat) (many s) i) ∧
    (∀ j, j < m → nTl (nums s) (many s) j = word (s.take (word s 2).toNat) (16 + 6 * many s + 2 * j)) ∧
    ((s.take (word s 2).toNat).length / 2 = 8 + 3 * many s + m) := by
  obtain ⟨_, _, h1, h2, h3, h4⟩ := get_rok h
  have hl := nums_len s
  refine ⟨by omega, h1, by omega, fun i hi => ⟨?_, ?_, ?_⟩, fun j hj => ?_, ?_⟩
  · unfold nTt sTo; rw [nums_at s (by omega)]; congr 1; omega
  · unfold nFr sFr; rw [nums_at s (by omega)]; congr 1; omega
  · unfold nDe sDe; rw [nums_at s (by omega)]; congr 1; omega
  · unfold nTl; rw [nums_at s (by omega)]; congr 1; omega
  · rw [List.length_take]; omega
theorem seg_segF {s : List UInt8} {m i : Nat} (h : rerr s = 0) (hm : (nums s).length = 8 + 3 * many s + m) (hi : i < many s) (hle : nFr (nums s) (many s) i ≤ nTt (nums s) i) (hev : nTl (nums s) (many s) i % 2 ≠ 1) :
    seg (s.take (word s 2).toNat) (many s) i = segF (nTt (nums s)) (nFr (nums s) (many s)) (nDe (nums s) (many s)) (nTl (nums s) (many s)) m i := by
  obtain ⟨f1, f2, f3, f4, f5, f6⟩ := table_facts h hm
  obtain ⟨e1, e2, e3⟩ := f4 i hi
  have e5 := f5 i (by omega)
  have bn := fun j => nums_bound s j
  have bTl : ∀ j, 0 ≤ nTl (nums s) (many s) j ∧ nTl (nums s) (many s) j ≤ 65535 := fun j => bn _
  have bFr : 0 ≤ nFr (nums s) (many s) i ∧ nFr (nums s) (many s) i ≤ 65535 := bn _
  have bDe : 0 ≤ nDe (nums s) (many s) i ∧ nDe (nums s) (many s) i ≤ 65535 := bn _
  have bTt : 0 ≤ nTt (nums s) i ∧ nTt (nums s) i ≤ 65535 := bn _
  have bi := bTl i
  have e4 : sOf (s.take (word s 2).toNat) (many s) i = nTl (nums s) (many s) i := by rw [e5]; rfl
  unfold seg segF
  rw [← e1, ← e2, ← e3, e4]
  by_cases hz : nTl (nums s) (many s) i = 0
  · rw [if_pos hz, if_pos hz, near_nearL bFr.1 bFr.2 bDe.1 bDe.2]
  · rw [if_neg hz, if_neg hz]
    unfold far
    rw [show word (s.take (word s 2).toNat) (16 + 6 * many s + 2 * i) = nTl (nums s) (many s) i from e5.symm]
    have hiff : (((s.take (word s 2).toNat).length : Int) < ((16 + 6 * many s + 2 * i : Nat) : Int) + nTl (nums s) (many s) i + 2 * (nTt (nums s) i - nFr (nums s) (many s) i) + 2) ↔ (m : Int) < i + nTl (nums s) (many s) i / 2 + (nTt (nums s) i - nFr (nums s) (many s) i + 1) := by omega
    by_cases hlt : (m : Int) < i + nTl (nums s) (many s) i / 2 + (nTt (nums s) i - nFr (nums s) (many s) i + 1)
    · rw [if_pos hlt, if_pos (hiff.2 hlt)]
    · rw [if_neg hlt, if_neg (fun hh => hlt (hiff.1 hh))]
      congr 1
      have hsl := spansL_eq (fun c => gl1 (word (s.take (word s 2).toNat) (16 + 6 * many s + 2 * i + (nTl (nums s) (many s) i).toNat + 2 * (c - nFr (nums s) (many s) i).toNat)) (nDe (nums s) (many s) i))
        ((List.range (nTt (nums s) i - nFr (nums s) (many s) i + 1).toNat).map fun j => gl1 (nTl (nums s) (many s) (i + (nTl (nums s) (many s) i / 2).toNat + j)) (nDe (nums s) (many s) i)) (nFr (nums s) (many s) i) (fun j hj => by
          rw [List.length_map, List.length_range] at hj
          rw [range_getD _ _ _ hj, f5 _ (by omega)]
          congr 2
          omega)
      rw [hsl, List.length_map, List.length_range]
theorem bad_badF {s : List UInt8} {m i : Nat} (h : rerr s = 0) (hm : (nums s).length = 8 + 3 * many s + m) (hi : i < many s) : bad (s.take (word s 2).toNat) (many s) i = badF (nTt (nums s)) (nFr (nums s) (many s)) (nTl (nums s) (many s)) i := by
  obtain ⟨f1, f2, f3, f4, f5, f6⟩ := table_facts h hm
  obtain ⟨e1, e2, e3⟩ := f4 i hi
  have e5 := f5 i (by omega)
  unfold bad badF last lastF
  have hla : (if i = 0 then -1 else sTo (s.take (word s 2).toNat) (i - 1)) = if i = 0 then -1 else nTt (nums s) (i - 1) := by
    by_cases h0 : i = 0
    · rw [if_pos h0, if_pos h0]
    · rw [if_neg h0, if_neg h0, (f4 (i - 1) (by omega)).1]
  rw [hla, ← e1, ← e2, e5]
  rfl
theorem right_body {s : List UInt8} {m : Nat} (h : rerr s = 0) (hm : (nums s).length = 8 + 3 * many s + m) :
    rightF (nTt (nums s)) (nFr (nums s) (many s)) (nTl (nums s) (many s)) (many s) = decide (¬ ((List.range (many s)).any (fun i => bad (s.take (word s 2).toNat) (many s) i) = true ∨ last (s.take (word s 2).toNat) (many s) ≠ 65535)) := by
  obtain ⟨f1, f2, f3, f4, f5, f6⟩ := table_facts h hm
  have e1 : okTo (nTt (nums s)) (nFr (nums s) (many s)) (nTl (nums s) (many s)) (many s) = !((List.range (many s)).any fun i => bad (s.take (word s 2).toNat) (many s) i) := by
    unfold okTo
    rw [List.not_any_eq_all_not]
    rw [Bool.eq_iff_iff, List.all_eq_true, List.all_eq_true]
    constructor
    · intro hh i hi
      have := hh i hi
      rw [← bad_badF h hm (List.mem_range.1 hi)] at this
      exact this
    · intro hh i hi
      have := hh i hi
      rw [← bad_badF h hm (List.mem_range.1 hi)]
      exact this
  have e2 : lastF (nTt (nums s)) (many s) = last (s.take (word s 2).toNat) (many s) := by
    unfold lastF last
    rw [if_neg (by omega), if_neg (by omega), (f4 (many s - 1) (by omega)).1]
  unfold rightF
  rw [e1, e2]
  generalize (List.range (many s)).any _ = A
  cases A <;> simp
/-- The spans of the first k segments. -/
def upTo (f : Nat → List Span × Int) (k : Nat) : List Span := (List.range k).flatMap fun i => (f i).1
theorem upTo_step (f : Nat → List Span × Int) (k : Nat) : upTo f (k + 1) = upTo f k ++ (f k).1 := by
  unfold upTo
  rw [List.range_succ, List.flatMap_append]
  simp
/-- What Get tells, segment by segment. -/
theorem get_table {s : List UInt8} {m : Nat} (h : rerr s = 0) (hm : (nums s).length = 8 + 3 * many s + m) (f : Nat → List Span × Int) (hf : f = segF (nTt (nums s)) (nFr (nums s) (many s)) (nDe (nums s) (many s)) (nTl (nums s) (many s)) m) :
    (rightF (nTt (nums s)) (nFr (nums s) (many s)) (nTl (nums s) (many s)) (many s) = false → get s = ([], 5)) ∧
    (rightF (nTt (nums s)) (nFr (nums s) (many s)) (nTl (nums s) (many s)) (many s) = true →
      (∀ i, i < many s → nFr (nums s) (many s) i ≤ nTt (nums s) i ∧ lastF (nTt (nums s)) i < nFr (nums s) (many s) i) ∧
      (∀ k, k < many s → (∀ i, i < k → (f i).2 = 0) → (f k).2 ≠ 0 → get s = ([], (f k).2)) ∧
      ((∀ i, i < many s → (f i).2 = 0) → get s = (upTo f (many s), 0))) := by
  have hg := (get_rok h).1
  rw [right_body h hm]
  constructor
  · intro hr
    rw [decide_eq_false_iff_not, Decidable.not_not] at hr
    rw [hg]
    unfold body
    rw [if_pos hr]
  · intro hr
    rw [decide_eq_true_eq] at hr
    have hb : ∀ i, i < many s → badF (nTt (nums s)) (nFr (nums s) (many s)) (nTl (nums s) (many s)) i = false := by
      intro i hi
      rw [← bad_badF h hm hi]
      cases e : bad (s.take (word s 2).toNat) (many s) i with
      | false => rfl
      | true => exact absurd (.inl (List.any_eq_true.2 ⟨i, List.mem_range.2 hi, e⟩)) hr
    have hb2 : ∀ i, i < many s → nFr (nums s) (many s) i ≤ nTt (nums s) i ∧ nTl (nums s) (many s) i % 2 ≠ 1 ∧ lastF (nTt (nums s)) i < nFr (nums s) (many s) i := by
      intro i hi
      have := hb i hi
      unfold badF at this
      simp only [Bool.or_eq_false_iff, decide_eq_false_iff_not] at this
      exact ⟨by omega, this.2, by omega⟩
    have hseg : ∀ i, i < many s → seg (s.take (word s 2).toNat) (many s) i = f i := fun i hi => by rw [hf]; exact seg_segF h hm hi (hb2 i hi).1 (hb2 i hi).2.1
    refine ⟨fun i hi => ⟨(hb2 i hi).1, (hb2 i hi).2.2⟩, fun k hk h0 hne => ?_, fun h0 => ?_⟩
    · have hs := Sf.scan_first (fun i => (seg (s.take (word s 2).toNat) (many s) i).2) (many s) 0 k (Nat.zero_le _) (by omega) (fun i _ hi => by
        show (seg _ _ i).2 = 0
        rw [hseg i (by omega)]; exact h0 i hi) (by show (seg _ _ k).2 ≠ 0; rw [hseg k hk]; exact hne)
      have hs2 : Sf.scan (fun i => (seg (s.take (word s 2).toNat) (many s) i).2) 0 (many s) = (f k).2 := by rw [hs, hseg k hk]
      rw [hg]
      unfold body
      rw [if_neg hr, hs2, if_pos hne]
    · have hs := Sf.scan_zero (fun i => (seg (s.take (word s 2).toNat) (many s) i).2) (many s) 0 (fun i _ hi => by
        show (seg _ _ i).2 = 0
        rw [hseg i (by omega)]; exact h0 i (by omega))
      rw [hg]
      unfold body
      rw [if_neg hr, hs, if_neg (by simp)]
      congr 1
      unfold upTo
      rw [List.flatMap_def, List.flatMap_def]
      congr 1
      apply List.map_congr_left
      intro i hi
      rw [hseg i (List.mem_range.1 hi)]
end Sg
/-
  Contract of segment.Get. No conditions beyond those stated.
-/
namespace Go.Proofs.YtppihpjcdieeoaaGreatDoor
open Go.RowKit

theorem near_len2 (a b c : Int) : (Sg.nearL a b c).length ≤ 2 := by
  unfold Sg.nearL
  by_cases h : b < a + 65536 - c
  · rw [if_pos h]; simp
  · rw [if_neg h]; simp
theorem segF_len {tt fr de tl : Nat → Int} {m i : Nat} (h : fr i ≤ tt i) : ((Sg.segF tt fr de tl m i).1.length : Int) ≤ tt i - fr i + 2 := by
  unfold Sg.segF
  by_cases hz : tl i = 0
  · rw [if_pos hz]
    show ((Sg.nearL (fr i) (tt i) ((fr i + de i) % 65536)).length : Int) ≤ _
    have := near_len2 (fr i) (tt i) ((fr i + de i) % 65536)
    omega
  · rw [if_neg hz]
    by_cases hm : (m : Int) < i + tl i / 2 + (tt i - fr i + 1)
    · rw [if_pos hm]; simp; omega
    · rw [if_neg hm]
      have := Ch.spansL_len ((List.range (tt i - fr i + 1).toNat).map fun j => Sg.gl1 (tl (i + (tl i / 2).toNat + j)) (de i)) (fr i)
      rw [List.length_map, List.length_range] at this
      show ((Ch.spansL (fr i) _).length : Int) ≤ _
      omega

theorem upTo_len {tt fr de tl : Nat → Int} {m n : Nat} (h : ∀ i, i < n → fr i ≤ tt i ∧ Sg.lastF tt i < fr i) : ∀ k, k ≤ n → ((Sg.upTo (Sg.segF tt fr de tl m) k).length : Int) ≤ Sg.lastF tt k + 1 + k
  | 0, _ => by simp [Sg.upTo, Sg.lastF]
  | k + 1, hk => by
    have ih := upTo_len (de := de) (tl := tl) (m := m) h k (by omega)
    obtain ⟨h1, h2⟩ := h k (by omega)
    have := segF_len (de := de) (tl := tl) (m := m) h1
    rw [Sg.upTo_step, List.length_append]
    have e : Sg.lastF tt (k + 1) = tt k := by unfold Sg.lastF; rw [if_neg (by omega)]; rfl
    rw [e]
    omega

set_option maxRecDepth 100000 in
set_option maxHeartbeats 3200000 in
theorem sget_ok (s : List UInt8) (w : World) (hl : s.length ≤ 9223372036854775807) (h : Sg.rerr s = 0) : Calls Tryz.prog 49 #[.string ⟨s.toArray⟩] w (GotSp (Sg.get s) w) := by
  have HRd := Lib.hid (read_any s w hl)
  unfold ReadTold at HRd
  have HRd2 : Hid (Calls Tryz.prog 88 #[.string ⟨s.toArray⟩] w (GotTab (Sg.nums s) (Sg.many s) w)) := Lib.hid (HRd.out.mono fun e w' hh => by
    rcases hh with ⟨h1, _⟩ | ⟨_, h2⟩
    · exact absurd h h1
    · exact h2)
  clear HRd
  unfold GotTab aggT5 at HRd2
  have HF := Lib.hid (fun m hm => Sg.get_table (m := m) h hm _ rfl)
  have HTb := Lib.hid (fun m hm => (show Sg.many s ≤ m ∧ 1 ≤ Sg.many s ∧ m ≤ 40000 from ⟨(Sg.table_facts (m := m) h hm).1, (Sg.table_facts (m := m) h hm).2.1, (Sg.table_facts (m := m) h hm).2.2.1⟩))
  have HBd := Lib.hid (fun j => Sg.nums_bound s j)
  generalize Sg.get s = y at *
  generalize Sg.nums s = ns at *
  generalize Sg.many s = n at *
  go_enter Tryz.func49, Tryz.ntmps49
  go_wp2_with fail
  refine HRd2.out.mono ?_
  rintro e w1 ⟨b, off, c, m, rfl, hrow, hm, lo⟩
  obtain ⟨f1, f2⟩ := HF.out m hm
  obtain ⟨t1, t2, t3⟩ := HTb.out m hm
  have HNo := Lib.hid f1
  have HYes := Lib.hid f2
  have hcell : ∀ j, j < 8 + 3 * n + m → w1.cell? ⟨b, off + j, none⟩ = some (.int .i64 (ns.getD j 0)) := fun j hj => by
    obtain ⟨b', o', e, hc⟩ := hrow.at_ (k := j) (by omega)
    injection e with e
    injection e with e1 e2
    subst e1 e2
    exact hc
  have hb : b < w1.heap.size := World.block_lt_of_cell? w1 _ (hcell 0 (by omega))
  have hc1 : ∀ i, i < n → w1.cell? ⟨b, off + 7 + i, none⟩ = some (.int .i64 (Sg.nTt ns i)) := fun i hi => by rw [Nat.add_assoc]; exact hcell _ (by omega)
  have hc2 : ∀ i, i < n → w1.cell? ⟨b, off + (8 + n) + i, none⟩ = some (.int .i64 (Sg.nFr ns n i)) := fun i hi => by rw [Nat.add_assoc]; exact hcell _ (by omega)
  have hc3 : ∀ i, i < n → w1.cell? ⟨b, off + (8 + 2 * n) + i, none⟩ = some (.int .i64 (Sg.nDe ns n i)) := fun i hi => by rw [Nat.add_assoc]; exact hcell _ (by omega)
  have hc4 : ∀ j, j < m → w1.cell? ⟨b, off + (8 + 3 * n) + j, none⟩ = some (.int .i64 (Sg.nTl ns n j)) := fun i hi => by rw [Nat.add_assoc]; exact hcell _ (by omega)
  have HR := Lib.hid (fun (W : World) (l : Lo w1 W) => isRight_any b off (off + 7) (off + (8 + n)) (off + (8 + 2 * n)) (off + (8 + 3 * n)) n m (Sg.nTt ns) (Sg.nFr ns n) (Sg.nTl ns n) W (Nat.lt_of_lt_of_le hb l.size) (fun i hi => (l.cell hb).trans (hc1 i hi)) (fun i hi => (l.cell hb).trans (hc2 i hi)) (fun i hi => (l.cell hb).trans (hc4 i (by omega))) (fun i _ => HBd.out _) t1 (by omega))
  have HS := Lib.hid (fun (i : Nat) (hi : i < n) (hle : Sg.nFr ns n i ≤ Sg.nTt ns i) (W : World) (l : Lo w1 W) => spans_one b off (off + 7) (off + (8 + n)) (off + (8 + 2 * n)) (off + (8 + 3 * n)) n m i (Sg.nTt ns) (Sg.nFr ns n) (Sg.nDe ns n) (Sg.nTl ns n) W (Nat.lt_of_lt_of_le hb l.size) ((l.cell hb).trans (hc1 i hi)) ((l.cell hb).trans (hc2 i hi)) ((l.cell hb).trans (hc3 i hi)) (fun j hj => (l.cell hb).trans (hc4 j hj)) (fun i _ => HBd.out _) t1 (by omega) hi hle (HBd.out _).1 (HBd.out _).2 (HBd.out _).1 (HBd.out _).2)
  have HLen := Lib.hid (fun hh k hk => upTo_len (tt := Sg.nTt ns) (fr := Sg.nFr ns n) (de := Sg.nDe ns n) (tl := Sg.nTl ns n) (m := m) (n := n) hh k hk)
  have HLa : Hid (∀ k, Sg.lastF (Sg.nTt ns) k ≤ 65535) := Lib.hid (fun k => by
    unfold Sg.lastF
    by_cases h : k = 0
    · rw [if_pos h]; omega
    · rw [if_neg h]; exact (HBd.out _).2)
  have HSl : Hid (∀ i, Sg.nFr ns n i ≤ Sg.nTt ns i → ((Sg.segF (Sg.nTt ns) (Sg.nFr ns n) (Sg.nDe ns n) (Sg.nTl ns n) m i).1.length : Int) ≤ 65537) := Lib.hid (fun i hi => by
    have h1 := segF_len (de := Sg.nDe ns n) (tl := Sg.nTl ns n) (m := m) hi
    have h2 := HBd.out (8 + n + i)
    have h3 := HBd.out (7 + i)
    unfold Sg.nTt Sg.nFr at *
    omega)
  generalize hf : Sg.segF (Sg.nTt ns) (Sg.nFr ns n) (Sg.nDe ns n) (Sg.nTl ns n) m = f at *
  have HUp := Lib.hid (fun k => Sg.upTo_step f k)
  unfold aggT5 at HR HS
  generalize off + (8 + n) = o2 at *
  generalize off + (8 + 2 * n) = o3 at *
  generalize off + (8 + 3 * n) = o4 at *
  have HT := Lib.hid (new_block w1 (.cells #[.slice (some ⟨b, off, none⟩) 7 7, .slice (some ⟨b, off + 7, none⟩) n n, .slice (some ⟨b, o2, none⟩) n n, .slice (some ⟨b, o3, none⟩) n n, .slice (some ⟨b, o4, none⟩) m m] 106))
  have HL := Lib.hid (lo.alloc (.cells #[.slice (some ⟨b, off, none⟩) 7 7, .slice (some ⟨b, off + 7, none⟩) n n, .slice (some ⟨b, o2, none⟩) n n, .slice (some ⟨b, o3, none⟩) n n, .slice (some ⟨b, o4, none⟩) m m] 106))
  have HL1 := Lib.hid ((Lo.refl w1).alloc (.cells #[.slice (some ⟨b, off, none⟩) 7 7, .slice (some ⟨b, off + 7, none⟩) n n, .slice (some ⟨b, o2, none⟩) n n, .slice (some ⟨b, o3, none⟩) n n, .slice (some ⟨b, o4, none⟩) m m] 106))
  have HR1 := Lib.hid (HR.out _ HL1.out)
  clear f1 f2 hrow hcell hb hc1 hc2 hc3 hc4 hm HBd HF HTb hf HR lo h
  cases hr : Sg.rightF (Sg.nTt ns) (Sg.nFr ns n) (Sg.nTl ns n) n with
  | false =>
    have HE := Lib.hid (HNo.out hr)
    rw [hr] at HR1
    clear hr HNo HYes HS HLen HSl HLa HUp
    obtain ⟨⟨s0, s1, s2, s3, s4⟩, _⟩ := five_at HT.out
    go_wp2_with fail
    refine HR1.out.mono ?_
    rintro e w2 ⟨rfl, lo⟩
    have HL := Lib.hid (HL.out.trans lo)
    clear lo HR1
    go_wp2_with fail
    go_ret2
    rw [HE.out]
    exact GotSp.nil rfl HL.out
  | true =>
    obtain ⟨g1, g2, g3⟩ := HYes.out hr
    have HG1 := Lib.hid g1
    have HG2 := Lib.hid g2
    have HG3 := Lib.hid g3
    have HLen1 := Lib.hid (HLen.out g1)
    rw [hr] at HR1
    clear hr HNo HYes g1 g2 g3 HLen
    obtain ⟨⟨s0, s1, s2, s3, s4⟩, _⟩ := five_at HT.out
    go_wp2_with fail
    refine HR1.out.mono ?_
    rintro e w2 ⟨rfl, lo⟩
    have HLb := Lib.hid (HL.out.trans lo)
    have HL1b := Lib.hid (HL1.out.trans lo)
    have HTb := Lib.hid (lo_block lo HT.out)
    clear lo HR1 s0 s1 s2 s3 s4
    obtain ⟨⟨s0, s1, s2, s3, s4⟩, _⟩ := five_at HTb.out
    go_wp2_with fail
    clear s0 s1 s2 s3 s4
    go_loopw [6, 7, 8, 9, 24] (fun s6 _ _ _ s24 W => ∃ (k : Nat) (L : List Ch.Span) (q : Option Addr) (d : Nat), k ≤ n ∧ s24 = .int .i64 k ∧ s6 = .slice q L.length d ∧ Hid (L = Sg.upTo f k) ∧ Hid (∀ i, i < k → (f i).2 = 0) ∧ Hid (OwnK encS 63 4 W w2.heap.size (.slice q L.length d) L) ∧ Hid (Lo w2 W)) (fun _ _ _ _ s24 _ => n - (intOf s24).toNat)
    case atStart => exact ⟨0, [], none, 0, Nat.zero_le _, rfl, rfl, Lib.hid rfl, Lib.hid (fun i hi => by omega), Lib.hid (OwnK.none _ _ _ _ _), Lib.hid (Lo.refl _)⟩
    case round =>
      obtain ⟨k, L, q, d, hk, rfl, rfl, HT2, HZ, HO, HL2⟩ := hrel
      by_cases hlt : k < n
      · obtain ⟨hle, _⟩ := HG1.out k hlt
        have HSk := Lib.hid (HS.out k hlt hle _ (HL1b.out.trans HL2.out))
        have HUk := Lib.hid (HUp.out k)
        have HG2k := Lib.hid (HG2.out k hlt HZ.out)
        have HLk : Hid (L.length ≤ 200000) := Lib.hid (by
          have h1 := HLen1.out k hk
          have h2 := HLa.out k
          rw [HT2.out]; omega)
        have HSlk := Lib.hid (HSl.out k hle)
        have HZk : Hid ((f k).2 = 0 → ∀ i, i < k + 1 → (f i).2 = 0) := Lib.hid (fun h0 i hi => by
          rcases (show i < k ∨ i = k by omega) with h | rfl
          · exact HZ.out i h
          · exact h0)
        rw [← HT2.out] at HUk
        obtain ⟨⟨s0, s1, s2, s3, s4⟩, _⟩ := five_at (lo_block HL2.out HTb.out)
        clear hle HT2
        generalize f k = z at *
        obtain ⟨zl, ze⟩ := z
        unfold GotSp at HSk
        dsimp only at HSk HUk HG2k HSlk HZk
        by_cases h0 : ze = 0
        · have HZ2 := Lib.hid (HZk.out h0)
          subst h0
          clear HZk HG2k
          have HT3 : Hid (L ++ zl = Sg.upTo f (k + 1)) := Lib.hid HUk.out.symm
          clear HUk
          go_wp2_with fail
          refine HSk.out.mono ?_
          rintro e w3 ⟨p, c3, rfl, hr, lo⟩
          have HRw := Lib.hid hr
          have HO3 := Lib.hid (OwnK.lo HO.out lo)
          have HL4 := Lib.hid (HL2.out.trans lo)
          have HSz := Lib.hid HL4.out.size
          clear hr lo HSk s0 s1 s2 s3 s4
          go_wp2_with (at_builtin; refine wpList_appK _ rfl (.tmp 36) (.tmp 37) _ rfl 63 4 32 _ Tryz.underlying22 api_info rfl (by omega) (by omega) encS_len encS_one w2.heap.size (.slice q L.length d) L rfl HO3.out _ zl rfl HRw.out (by have := HLk.out; have := HSlk.out; omega) (by have := HSz.out; omega) ?_; intro q1 d1 w4 hown hlo; have HO4 := Lib.hid hown; have HL6 := Lib.hid (hlo w2 HL4.out (Nat.le_refl _)); clear hown hlo)
          go_roundw
          case rel => exact ⟨k + 1, L ++ zl, q1, d1, by omega, by go_num, by simp, HT3, HZ2, by simpa using HO4, HL6⟩
          case measure => simp [intOf]; omega
        · have HE := Lib.hid (HG2k.out h0)
          clear HZk HG2k
          go_wp2_with fail
          refine HSk.out.mono ?_
          rintro e w3 ⟨p, c3, rfl, hr, lo⟩
          have HL4 := Lib.hid (HL2.out.trans lo)
          clear hr lo HSk s0 s1 s2 s3 s4
          go_wp2_with fail
          go_ret2
          rw [HE.out]
          exact GotSp.nil rfl (HLb.out.trans HL4.out)
      · obtain rfl : k = n := by omega
        have HE := Lib.hid (HG3.out HZ.out)
        rw [← HT2.out] at HE
        go_wp2_with fail
        go_ret2
        rw [HE.out]
        exact ⟨q, d, rfl, OwnK.row encS_len HO.out, HLb.out.trans HL2.out⟩

set_option maxRecDepth 100000 in
set_option maxHeartbeats 800000 in
/-- segment.Get. -/
theorem sget_any (s : List UInt8) (w : World) (hl : s.length ≤ 9223372036854775807) : Calls Tryz.prog 49 #[.string ⟨s.toArray⟩] w (GotSp (Sg.get s) w) := by
  by_cases h : Sg.rerr s = 0
  · exact sget_ok s w hl h
  · have HE := Lib.hid (Sg.get_rerr h)
    have HRd : Hid (Calls Tryz.prog 88 #[.string ⟨s.toArray⟩] w fun e w' => e = noTab (Sg.rerr s) ∧ Lo w w') := Lib.hid ((read_any s w hl).mono fun e w' hh => by
      rcases hh with ⟨_, h1⟩ | ⟨h1, _⟩
      · exact h1
      · exact absurd h1 h)
    unfold noTab at HRd
    generalize Sg.get s = y at *
    generalize Sg.rerr s = k at *
    go_enter Tryz.func49, Tryz.ntmps49
    go_wp2_with fail
    refine HRd.out.mono ?_
    rintro e w1 ⟨rfl, lo⟩
    have HL := Lib.hid (lo.alloc (.cells #[.slice none 0 0, .slice none 0 0, .slice none 0 0, .slice none 0 0, .slice none 0 0] 106))
    clear lo HRd
    go_wp2_with fail
    go_ret2
    rw [HE.out]
    exact GotSp.nil rfl HL.out
end Go.Proofs.YtppihpjcdieeoaaGreatDoor
/-
  Facts on spans parted one after another (layer 10), with nothing of the program. No conditions beyond those stated.
-/
namespace Gp
open Bn He Ch Sg
/-- A span's first runes, a span each that has a glyph. -/
def cutTo (step : Int) (x : Span) (k : Nat) : List Span := (spansOf (look [x]) x.fr k).map (setSt step)
theorem part_keep {step : Int} {x : Span} (h : x.st = step ∨ x.fr = x.to) : part step x = if hasGl x = true then [setSt step x] else [] := by
  unfold part; rw [if_pos h]
theorem part_cut {step : Int} {x : Span} (h : ¬ (x.st = step ∨ x.fr = x.to)) : part step x = cutTo step x (x.to - x.fr + 1).toNat := by
  unfold part cutTo; rw [if_neg h]
theorem cut_none (step : Int) (x : Span) : cutTo step x 0 = [] := rfl
theorem look_one {x : Span} {k : Nat} (h : x.fr + k ≤ x.to) : look [x] (x.fr + k) = x.gl + x.st * k := by
  rw [look, if_pos ⟨by omega, h⟩]
  unfold glyphOf
  rw [show x.fr + (k : Int) - x.fr = k by omega]
theorem cut_step {step : Int} {x : Span} {k : Nat} (h : x.fr + k ≤ x.to) : cutTo step x (k + 1) = cutTo step x k ++ (if x.gl + x.st * k = 0 then [] else [⟨x.fr + k, x.fr + k, x.gl + x.st * k, step⟩]) := by
  unfold cutTo
  rw [spansOf_append, List.map_append, spansOf, spansOf, List.append_nil, look_one h]
  by_cases e : x.gl + x.st * k = 0
  · rw [if_pos e, if_pos e]; rfl
  · rw [if_neg e, if_neg e]; rfl
theorem cut_len (step : Int) (x : Span) (k : Nat) : (cutTo step x k).length ≤ k := by
  unfold cutTo; rw [List.length_map]; exact spansOf_len _ k _
theorem cut_le (step : Int) (x : Span) {k n : Nat} (h : k ≤ n) : (cutTo step x k).length ≤ (cutTo step x n).length := by
  obtain ⟨m, rfl⟩ := Nat.exists_eq_add_of_le h
  unfold cutTo
  rw [spansOf_append, List.map_append, List.length_append]
  omega
theorem parts_step {step : Int} {l : List Span} {k : Nat} (h : k < l.length) : parts step (l.take (k + 1)) = parts step (l.take k) ++ part step (l.getD k zs) := by
  unfold parts
  rw [take_snoc h, List.flatMap_append]
  simp
theorem parts_all (step : Int) (l : List Span) : parts step (l.take l.length) = parts step l := by rw [List.take_length]
theorem parts_le (step : Int) (l : List Span) (k : Nat) : (parts step (l.take k)).length ≤ (parts step l).length := by
  have h : parts step l = parts step (l.take k) ++ parts step (l.drop k) := by
    unfold parts
    rw [← List.flatMap_append, List.take_append_drop]
  rw [h, List.length_append]
  omega
theorem split_arg {l : List Span} {step : Int} (h : isL l = false ∨ step < 0 ∨ 1 < step) : split l step = ([], 1) := by
  unfold split; rw [if_pos h]
theorem split_long {l : List Span} {step : Int} (h : isL l = true) (h0 : 0 ≤ step) (h1 : step ≤ 1) (hl : 65536 < (parts step l).length) : split l step = ([], 7) := by
  unfold split; rw [if_neg (by rw [h]; simp; omega), if_pos hl]
theorem split_done {l : List Span} {step : Int} (h : isL l = true) (h0 : 0 ≤ step) (h1 : step ≤ 1) (hl : ¬ 65536 < (parts step l).length) : split l step = (parts step l, 0) := by
  unfold split; rw [if_neg (by rw [h]; simp; omega), if_neg hl]
/-- Too many within a span: too many in all. -/
theorem split_stop {l : List Span} {step : Int} {i k : Nat} (h : isL l = true) (h0 : 0 ≤ step) (h1 : step ≤ 1) (hi : i < l.length) (hc : ¬ ((l.getD i zs).st = step ∨ (l.getD i zs).fr = (l.getD i zs).to)) (hk : (k : Int) ≤ (l.getD i zs).to - (l.getD i zs).fr + 1)
    (hl : 65536 < (parts step (l.take i) ++ cutTo step (l.getD i zs) k).length) : split l step = ([], 7) := by
  refine split_long h h0 h1 ?_
  refine Nat.lt_of_lt_of_le ?_ (parts_le step l (i + 1))
  rw [parts_step hi, part_cut hc, List.length_append]
  rw [List.length_append] at hl
  have := cut_le step (l.getD i zs) (k := k) (n := ((l.getD i zs).to - (l.getD i zs).fr + 1).toNat) (by omega)
  omega
/-- The bytes ahead of the groups. -/
def front (n : Nat) (format : Int) : List UInt8 := bytes format 2 ++ [0, 0] ++ bytes ((16 + 12 * n : Nat) : Int) 4 ++ [0, 0, 0, 0] ++ bytes ((n : Nat) : Int) 4
theorem file_front (x : List Span) (format : Int) : file x format = front x.length format ++ flat 4 (nums x) := rfl
theorem nums_step {x : List Span} {k : Nat} (h : k < x.length) : nums (x.take (k + 1)) = nums (x.take k) ++ [(x.getD k zs).fr, (x.getD k zs).to, (x.getD k zs).gl] := by
  rw [take_snoc h]
  generalize x.getD k zs = y
  generalize x.take k = A
  induction A with
  | nil => rfl
  | cons a r ih => rw [List.cons_append, nums, nums, ih]; rfl
theorem file_step {x : List Span} {k : Nat} (h : k < x.length) (A : List UInt8) : A ++ flat 4 (nums (x.take k)) ++ bytes (x.getD k zs).fr 4 ++ bytes (x.getD k zs).to 4 ++ bytes (x.getD k zs).gl 4 = A ++ flat 4 (nums (x.take (k + 1))) := by
  rw [nums_step h, flat_append]
  simp [flat, List.append_assoc]
theorem row_bound (s : List UInt8) (p : Nat) : 0 ≤ long s p := long_bound s p
theorem rows_step (s : List UInt8) (k : Nat) : (List.range (k + 1)).map (row s) = (List.range k).map (row s) ++ [row s k] := by
  rw [List.range_succ, List.map_append]; rfl
end Gp
