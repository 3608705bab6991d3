/-
  Contracts of the methods isRight and spans of segment's table: if the segments rise; the spans of one segment. Conditions: the table's numbers lie in memory, within 16 bits.
-/
import Derived.Test.YtfnpindohoflaaaSgRead
import Derived.Test.YtfnpindohoflaaaSgUsed
namespace Sg
open Ch
def lastF (tt : Nat → Int) (i : Nat) : Int := if i = 0 then -1 else tt (i - 1)
def badF (tt fr tl : Nat → Int) (i : Nat) : Bool := decide (tt i < fr i) || decide (fr i ≤ lastF tt i) || decide (tl i % 2 = 1)
def okTo (tt fr tl : Nat → Int) (n : Nat) : Bool := (List.range n).all fun i => !(badF tt fr tl i)
def rightF (tt fr tl : Nat → Int) (n : Nat) : Bool := okTo tt fr tl n && decide (lastF tt n = 65535)
theorem okTo_step (tt fr tl : Nat → Int) (n : Nat) : okTo tt fr tl (n + 1) = (okTo tt fr tl n && !(badF tt fr tl n)) := by
  unfold okTo
  rw [List.range_succ, List.all_append]
  simp
theorem okTo_no {tt fr tl : Nat → Int} {n k : Nat} (hk : k < n) (h : badF tt fr tl k = true) : rightF tt fr tl n = false := by
  unfold rightF
  rw [Bool.and_eq_false_iff]
  left
  unfold okTo
  rw [List.all_eq_false]
  exact ⟨k, List.mem_range.2 hk, by rw [h]; simp⟩
def segF (tt fr de tl : Nat → Int) (m i : Nat) : List Span × Int :=
  if tl i = 0 then (nearL (fr i) (tt i) ((fr i + de i) % 65536), 0)
  else if (m : Int) < i + tl i / 2 + (tt i - fr i + 1) then ([], 4)
  else (spansL (fr i) ((List.range (tt i - fr i + 1).toNat).map fun j => gl1 (tl (i + (tl i / 2).toNat + j)) (de i)), 0)
end Sg
namespace Go.Proofs.Ytfnpindohoflaaa
open Go.RowKit

set_option maxRecDepth 100000 in
set_option maxHeartbeats 3200000 in
theorem isRight_any (b o0 o1 o2 o3 o4 n m : Nat) (tt fr tl : Nat → Int) (w : World) (hb : b < w.heap.size) (h1 : ∀ i, i < n → w.cell? ⟨b, o1 + i, none⟩ = some (.int .i64 (tt i))) (h2 : ∀ i, i < n → w.cell? ⟨b, o2 + i, none⟩ = some (.int .i64 (fr i)))
    (h4 : ∀ i, i < n → w.cell? ⟨b, o4 + i, none⟩ = some (.int .i64 (tl i))) (hl : ∀ i, i < n → 0 ≤ tl i ∧ tl i ≤ 65535) (hnm : n ≤ m) (hm : m ≤ 1000000) :
    Calls Try.prog 21 #[aggT5 b o0 o1 o2 o3 o4 n m] w fun e w' => e = .returned (.bool (Sg.rightF tt fr tl n)) ∧ Lo w w' := by
  have H1 := Lib.hid (fun i hi (W : World) (l : Lo w W) => (l.cell hb).trans (h1 i hi))
  have H2 := Lib.hid (fun i hi (W : World) (l : Lo w W) => (l.cell hb).trans (h2 i hi))
  have H4 := Lib.hid (fun i hi (W : World) (l : Lo w W) => (l.cell hb).trans (h4 i hi))
  have HBd := Lib.hid hl
  have HNo := Lib.hid (fun (k : Nat) (hk : k < n) (h : Sg.badF tt fr tl k = true) => Sg.okTo_no hk h)
  have HSt := Lib.hid (fun (k : Nat) => Sg.okTo_step tt fr tl k)
  have HEnd : Hid (Sg.okTo tt fr tl n = true → Sg.rightF tt fr tl n = decide (Sg.lastF tt n = 65535)) := Lib.hid (fun h => by unfold Sg.rightF; rw [h, Bool.true_and])
  have HLa : Hid (∀ k, Sg.lastF tt (k + 1) = tt k) := Lib.hid (fun k => by unfold Sg.lastF; rw [if_neg (by omega)]; rfl)
  have HZe : Hid (Sg.lastF tt 0 = -1) := Lib.hid rfl
  generalize Sg.rightF tt fr tl n = y at *
  clear hb h1 h2 h4 hl
  unfold aggT5
  have HT0 := Lib.hid (new_block w (.cells #[.slice (some ⟨b, o0, none⟩) 7 7, .slice (some ⟨b, o1, none⟩) n n, .slice (some ⟨b, o2, none⟩) n n, .slice (some ⟨b, o3, none⟩) n n, .slice (some ⟨b, o4, none⟩) m m] 44))
  have HL0 := Lib.hid ((Lo.refl w).alloc (.cells #[.slice (some ⟨b, o0, none⟩) 7 7, .slice (some ⟨b, o1, none⟩) n n, .slice (some ⟨b, o2, none⟩) n n, .slice (some ⟨b, o3, none⟩) n n, .slice (some ⟨b, o4, none⟩) m m] 44))
  go_enter Try.func21, Try.ntmps21
  go_wp2_with fail
  go_loopw [3, 4, 5, 9] (fun s3 _ _ s9 W => ∃ (k : Nat), k ≤ n ∧ s9 = .int .i64 k ∧ s3 = .int .i64 (Sg.lastF tt k) ∧ Hid (Sg.okTo tt fr tl k = true) ∧ Hid (W.heap[w.heap.size]? = some (.cells #[.slice (some ⟨b, o0, none⟩) 7 7, .slice (some ⟨b, o1, none⟩) n n, .slice (some ⟨b, o2, none⟩) n n, .slice (some ⟨b, o3, none⟩) n n, .slice (some ⟨b, o4, none⟩) m m] 44 (0, 0))) ∧ Hid (Lo w W)) (fun _ _ _ s9 _ => n - (intOf s9).toNat)
  case atStart => exact ⟨0, Nat.zero_le _, rfl, by rw [HZe.out], Lib.hid rfl, HT0, HL0⟩
  case round =>
    obtain ⟨k, hk, rfl, rfl, HK, HT, HL⟩ := hrel
    obtain ⟨⟨s0, s1, s2, s3, s4⟩, _⟩ := five_at HT.out
    by_cases hlt : k < n
    · have r1 := H1.out k hlt _ HL.out
      have r2 := H2.out k hlt _ HL.out
      have r4 := H4.out k hlt _ HL.out
      obtain ⟨bd0, bd1⟩ := HBd.out k hlt
      have HN1 := Lib.hid (HNo.out k hlt)
      have HS1 := Lib.hid (HSt.out k)
      have HLa1 := Lib.hid (HLa.out k)
      unfold Sg.badF at HN1 HS1
      generalize hla : Sg.lastF tt k = la at *
      generalize tt k = x1 at *
      generalize fr k = x2 at *
      generalize tl k = x4 at *
      by_cases c1 : x1 < x2
      · have HE : Hid (y = false) := Lib.hid (HN1.out (by simp; omega))
        clear hla
        go_wp2_with fail
        go_ret
        exact ⟨ret_bool (by rw [HE.out]), HL.out⟩
      · by_cases c2 : x2 ≤ la
        · have HE : Hid (y = false) := Lib.hid (HN1.out (by simp; omega))
          clear hla
          go_wp2_with fail
          go_ret
          exact ⟨ret_bool (by rw [HE.out]), HL.out⟩
        · by_cases c3 : x4 % 2 = 1
          · have HE : Hid (y = false) := Lib.hid (HN1.out (by simp; omega))
            clear hla
            go_wp2_with fail
            go_ret
            exact ⟨ret_bool (by rw [HE.out]), HL.out⟩
          · have HK2 : Hid (Sg.okTo tt fr tl (k + 1) = true) := Lib.hid (by rw [HS1.out, HK.out]; simp; omega)
            have c4 : x4 % 2 = 0 := by omega
            clear hla c3
            go_wp2_with fail
            go_roundw
            case rel => exact ⟨k + 1, by omega, by go_num, by rw [HLa1.out], HK2, HT, HL⟩
            case measure => simp [intOf]; omega
    · obtain rfl : k = n := by omega
      have HE := Lib.hid (HEnd.out HK.out)
      go_wp2_with fail
      go_ret
      exact ⟨ret_bool (by rw [HE.out]; rfl), HL.out⟩

set_option maxRecDepth 100000 in
set_option maxHeartbeats 3200000 in
theorem spans_one (b o0 o1 o2 o3 o4 n m i : Nat) (tt fr de tl : Nat → Int) (w : World) (hb : b < w.heap.size) (h1 : w.cell? ⟨b, o1 + i, none⟩ = some (.int .i64 (tt i))) (h2 : w.cell? ⟨b, o2 + i, none⟩ = some (.int .i64 (fr i)))
    (h3 : w.cell? ⟨b, o3 + i, none⟩ = some (.int .i64 (de i))) (h4 : ∀ j, j < m → w.cell? ⟨b, o4 + j, none⟩ = some (.int .i64 (tl j))) (hl : ∀ j, j < m → 0 ≤ tl j ∧ tl j ≤ 65535) (hnm : n ≤ m) (hm : m ≤ 100000) (hi : i < n)
    (q1 : fr i ≤ tt i) (q2 : 0 ≤ fr i) (q3 : tt i ≤ 65535) (q4 : 0 ≤ de i) (q5 : de i ≤ 65535) :
    Calls Try.prog 22 #[aggT5 b o0 o1 o2 o3 o4 n m, .int .i64 (i : Int)] w (GotSp (Sg.segF tt fr de tl m i) w) := by
  have h4i := h4 i (by omega)
  obtain ⟨e0, e1⟩ := hl i (by omega)
  have HW := Lib.hid (fun (W : World) => wrapped_any (fr i + de i) W)
  have HC := Lib.hid (fun (W : World) => counted_any (fr i) (tt i) ((fr i + de i) % 65536) W q2 (by omega) (by omega) q3 (by omega) (by omega))
  have HS0 := Lib.hid (fun (h : tl i = 0) => (show Sg.segF tt fr de tl m i = (Sg.nearL (fr i) (tt i) ((fr i + de i) % 65536), 0) by unfold Sg.segF; rw [if_pos h]))
  have HS1 := Lib.hid (fun (h : tl i ≠ 0) (h2 : (m : Int) < i + tl i / 2 + (tt i - fr i + 1)) => (show Sg.segF tt fr de tl m i = ([], 4) by unfold Sg.segF; rw [if_neg h, if_pos h2]))
  have HS2 := Lib.hid (fun (h : tl i ≠ 0) (h2 : ¬ (m : Int) < i + tl i / 2 + (tt i - fr i + 1)) => (show Sg.segF tt fr de tl m i = (Ch.spansL (fr i) ((List.range (tt i - fr i + 1).toNat).map fun j => Sg.gl1 (tl (i + (tl i / 2).toNat + j)) (de i)), 0) by unfold Sg.segF; rw [if_neg h, if_neg h2]))
  have HL := Lib.hid (fun (h2 : ¬ (m : Int) < i + tl i / 2 + (tt i - fr i + 1)) (W : World) (l : Lo w W) => (show Calls Try.prog 50 #[.int .i64 (fr i), .int .i64 (de i), .slice (some ⟨b, o4 + (i + (tl i / 2).toNat), none⟩) (tt i - fr i + 1).toNat (tt i - fr i + 1).toNat] W (GotSpans (Ch.spansL (fr i) ((List.range (tt i - fr i + 1).toNat).map fun j => Sg.gl1 (tl (i + (tl i / 2).toNat + j)) (de i))) W) by
    have e : (List.range (tt i - fr i + 1).toNat).map (fun j => Sg.gl1 (tl (i + (tl i / 2).toNat + j)) (de i)) = ((List.range (tt i - fr i + 1).toNat).map fun j => tl (i + (tl i / 2).toNat + j)).map fun x => Sg.gl1 x (de i) := by rw [List.map_map]; rfl
    have el : ((List.range (tt i - fr i + 1).toNat).map fun j => tl (i + (tl i / 2).toNat + j)).length = (tt i - fr i + 1).toNat := by simp
    rw [e]
    refine listed_any (fr i) (de i) _ _ W (.inr ⟨b, _, _, by rw [el], by rw [el]; omega, by rw [el]; omega, Nat.lt_of_lt_of_le hb l.size, fun j hj => ?_⟩) (by rw [el]; omega) q2 (by omega) q4 q5 (fun j hj => ?_)
    · rw [el] at hj
      rw [l.cell hb, Nat.add_assoc, h4 _ (by omega)]
      simp [List.getD, hj]
    · rw [el] at hj
      have := hl (i + (tl i / 2).toNat + j) (by omega)
      simpa [List.getD, hj] using this))
  generalize Sg.segF tt fr de tl m i = y at *
  generalize (List.range (tt i - fr i + 1).toNat).map (fun j => Sg.gl1 (tl (i + (tl i / 2).toNat + j)) (de i)) = gs at *
  clear h4 hl
  generalize tl i = x4 at *
  generalize de i = x3 at *
  generalize fr i = x2 at *
  generalize tt i = x1 at *
  unfold GotSpans at HC HL
  generalize Sg.nearL x2 x1 ((x2 + x3) % 65536) = near at *
  generalize (x2 + x3) % 65536 = g at *
  generalize Ch.spansL x2 gs = far at *
  have A1 := fun W (l : Lo w W) => (l.cell hb).trans h1
  have A2 := fun W (l : Lo w W) => (l.cell hb).trans h2
  have A3 := fun W (l : Lo w W) => (l.cell hb).trans h3
  have A4 := fun W (l : Lo w W) => (l.cell hb).trans h4i
  have l0 := (Lo.refl w).alloc (.cells #[.slice (some ⟨b, o0, none⟩) 7 7, .slice (some ⟨b, o1, none⟩) n n, .slice (some ⟨b, o2, none⟩) n n, .slice (some ⟨b, o3, none⟩) n n, .slice (some ⟨b, o4, none⟩) m m] 44)
  obtain ⟨⟨s0, s1, s2, s3, s4⟩, _⟩ := five_at (new_block w (.cells #[.slice (some ⟨b, o0, none⟩) 7 7, .slice (some ⟨b, o1, none⟩) n n, .slice (some ⟨b, o2, none⟩) n n, .slice (some ⟨b, o3, none⟩) n n, .slice (some ⟨b, o4, none⟩) m m] 44))
  have r1 := A1 _ l0
  have r2 := A2 _ l0
  have r3 := A3 _ l0
  have r4 := A4 _ l0
  have HL0 := Lib.hid l0
  clear l0 A1 A2 A3 A4 h1 h2 h3 h4i hb
  unfold aggT5
  by_cases hz : x4 = 0
  · have HE := Lib.hid (HS0.out hz)
    subst hz
    clear HS0 HS1 HS2 HL
    go_enter Try.func22, Try.ntmps22
    go_wp2_with fail
    go_quiet (fail)
    have HLn := Lib.hid (HL0.out.drewN nq)
    go_wp2_with fail
    refine (HW.out _).mono ?_
    rintro e w1 ⟨rfl, rfl⟩
    go_wp2_with fail
    refine (HC.out _).mono ?_
    rintro e w2 ⟨p, c, rfl, hr, lo⟩
    have HLn := Lib.hid (HLn.out.trans lo)
    have HR := Lib.hid hr
    clear lo hr HC
    go_wp2_with fail
    go_ret2
    rw [HE.out]
    exact ⟨p, c, rfl, HR.out, HLn.out⟩
  · by_cases hm2 : (m : Int) < i + x4 / 2 + (x1 - x2 + 1)
    · have HE := Lib.hid (HS1.out hz hm2)
      clear HS0 HS1 HS2 HL HC HW
      go_enter Try.func22, Try.ntmps22
      go_wp2_with fail
      go_quiet (fail)
      have HLn := Lib.hid (HL0.out.drewN nq)
      go_wp2_with fail
      go_ret2
      rw [HE.out]
      exact GotSp.nil rfl HLn.out
    · have HE := Lib.hid (HS2.out hz hm2)
      have HL1 := Lib.hid (HL.out hm2)
      have hq : x4 / 2 = ((x4 / 2).toNat : Int) := by omega
      have hc : x1 - x2 + 1 = ((x1 - x2 + 1).toNat : Int) := by omega
      generalize (x1 - x2 + 1).toNat = cn at *
      generalize (x4 / 2).toNat = h2 at *
      have hsl := fun W => slice_three b o4 m m (i + h2) cn (by omega) (by omega) W
      clear HS0 HS1 HS2 HL HC HW
      go_enter Try.func22, Try.ntmps22
      go_wp2_with fail
      go_quiet (fail)
      have HLn := Lib.hid (HL0.out.drewN nq)
      go_wp2_with fail
      refine (HL1.out _ HLn.out).mono ?_
      rintro e w2 ⟨p, c, rfl, hr, lo⟩
      have HLn := Lib.hid (HLn.out.trans lo)
      have HR := Lib.hid hr
      clear lo hr HL1
      go_wp2_with fail
      go_ret2
      rw [HE.out]
      exact ⟨p, c, rfl, HR.out, HLn.out⟩
end Go.Proofs.Ytfnpindohoflaaa
