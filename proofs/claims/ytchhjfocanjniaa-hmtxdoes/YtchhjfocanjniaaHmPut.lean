/-
  The contract of hmtx.Put: it answers what the plain function on bytes says. No conditions beyond those stated.
-/
import Derived.Test.YtchhjfocanjniaaHmGet
namespace Go.Proofs.Ytchhjfocanjniaa
open Go.RowKit

/-- A text, a number and an error, told. -/
def strNumErr (a : List UInt8 × Nat × Int) : Ending := .returned (.tuple #[.string ⟨a.1.toArray⟩, .int .i64 a.2.1, .int .i64 a.2.2])

set_option maxHeartbeats 800000 in
theorem hput_arg (v : Value) (l : List Hm.Metric) (w : World) (hr : MRow w v l) (h : l.length < 1 ∨ 65535 < l.length) :
    Calls Try.prog 8 #[v] w fun e w' => e = strNumErr ([], 0, 1) ∧ Lo w w' := by
  obtain ⟨p, c, rfl, hlen⟩ := RowK.form hr
  generalize l.length = n at *
  clear hr
  by_cases h1 : n < 1
  · obtain rfl : n = 0 := by omega
    go_enter Try.func8, Try.ntmps8
    go_wp2_with fail
    refine bodyPost_ret (v := .tuple #[.string ⟨#[]⟩, .int .i64 0, .int .i64 1]) ?_ rfl ⟨rfl, Lo.refl _⟩
    simp [results, Try.results8, go_sem]
  · have h2 : 65535 < n := by omega
    have h3 : (65535 : Int) < (n : Int) := by omega
    go_enter Try.func8, Try.ntmps8
    go_wp2_with fail
    refine bodyPost_ret (v := .tuple #[.string ⟨#[]⟩, .int .i64 0, .int .i64 1]) ?_ rfl ⟨rfl, Lo.refl _⟩
    simp [results, Try.results8, go_sem]

theorem RowK.two {w : World} {b off n c k : Nat} {l : List Hm.Metric} (h : MRow w (.slice (some ⟨b, off, none⟩) n c) l) (hn : l.length = n) (hk1 : 1 ≤ k) (hk : k ≤ n) :
    MRow w (.slice (some ⟨b, off, none⟩) k c) (l.take k) ∧ MRow w (.slice (if c = k then some ⟨b, off, none⟩ else some ⟨b, off + k * 2, none⟩) (n - k) (c - k)) (l.drop k) ∧ k ≤ c := by
  subst hn
  rcases h with ⟨_, _, _, _, h⟩ | ⟨b', off', cap, he, h2, h2b, h3, h4⟩
  · rw [h] at hk; simp at hk; omega
  · injection he with hp hn hc
    simp only [Option.some.injEq, Addr.mk.injEq, and_true] at hp
    obtain ⟨rfl, rfl⟩ := hp
    subst hc
    have ht : (l.take k).length = k := by rw [List.length_take]; omega
    refine ⟨.inr ⟨b, off, c, by rw [ht], by omega, by omega, h3, fun i x hx j hj => ?_⟩, ?_, by omega⟩
    · have hi : i < k := by have := (List.getElem?_eq_some_iff.1 hx).1; omega
      exact h4 i x (by rwa [List.getElem?_take_of_lt hi] at hx) j hj
    · by_cases hcc : c = k
      · rw [if_pos hcc]
        have : l.drop k = [] := List.drop_of_length_le (by omega)
        rw [this, show l.length - k = 0 by omega]
        exact RowK.nil_at _ _
      · rw [if_neg hcc]
        refine .inr ⟨b, off + k * 2, c - k, by rw [List.length_drop], by rw [List.length_drop]; omega, by rw [List.length_drop]; omega, h3, fun i x hx j hj => ?_⟩
        rw [List.getElem?_drop] at hx
        have := h4 (k + i) x hx j hj
        rwa [show off + (k + i) * 2 + j = off + k * 2 + i * 2 + j by omega] at this

set_option maxRecDepth 100000 in
set_option maxHeartbeats 4000000 in
theorem hput_some (v : Value) (l : List Hm.Metric) (w : World) (hr : MRow w v l) (h1 : 1 ≤ l.length) (h2' : l.length ≤ 40000) :
    Calls Try.prog 8 #[v] w fun e w' => e = strNumErr (Hm.put l) ∧ Lo w w' := by
  have h2 : l.length ≤ 65535 := by omega
  have hby := Hm.put_by h1 h2
  have hlb := Hm.least_bounds h1
  have HFew := Lib.hid (fewest_any v l w hr h1 h2)
  obtain ⟨p, c, rfl, hlen⟩ := RowK.form hr
  obtain ⟨b, off, rfl, _⟩ := RowK.at_ hr (at0_some (i := 0) (by omega))
  have HNum := Lib.hid (@Hm.put_num l)
  have HNil := Lib.hid (@Hm.put_refused l)
  generalize hn : l.length = n at *
  obtain ⟨R1, R2, hkc⟩ := RowK.two hr hn hlb.1 hlb.2
  have hnc : n ≤ c := by
    rcases hr with ⟨_, _, he, _, h⟩ | ⟨_, _, cap, he, _, h2b, _⟩
    · rw [h] at hn; simp at hn; omega
    · injection he with _ _ hc; omega
  have HFv := Lib.hid (fun W (h : MRow W (.slice (some ⟨b, off, none⟩) (Hm.least l) c) (l.take (Hm.least l))) => fullValues_any _ _ W h (by rw [List.length_take]; omega))
  have HSv := Lib.hid (fun W (vs : Value) (h : MRow W vs (l.drop (Hm.least l))) => sideValues_any vs _ W h (by rw [List.length_drop]; omega))
  have HSz := Lib.hid (fun W => hsizes_any n (Hm.least l) W hlb.2 h2)
  have hL1 : (Hm.fv (l.take (Hm.least l))).length = 2 * Hm.least l := by rw [Hm.fv_len, List.length_take]; omega
  have hL2 : (Hm.sv (l.drop (Hm.least l))).length = n - Hm.least l := by rw [Hm.sv_len, List.length_drop]; omega
  unfold RowTold at HFv HSv
  rw [hL1] at HFv
  rw [hL2] at HSv
  have HJ0 := Lib.hid (fun (B : Nat) (u v : Value) (W : World) h1 h2 h3 h4 h5 => joinedInt_any B u v (Hm.fv (l.take (Hm.least l))) (Hm.sv (l.drop (Hm.least l))) W h1 h2 h3 h4 h5 (by omega))
  rw [hL1, hL2] at HJ0
  have HP0 := Lib.hid (fun (u v : Value) (W : World) h1 h2 => put_any (Hm.sz n (Hm.least l)) (Hm.fv (l.take (Hm.least l)) ++ Hm.sv (l.drop (Hm.least l))) u v W h1 h2 (by rw [Hm.sz_len hlb.2]; omega))
  rw [hby.1] at HP0
  unfold strErr at HP0
  simp only at HP0
  have HEq := Lib.hid hby.2
  clear hby
  have hs1 := fun W => slice_upto_met b off n c (Hm.least l) (Hm.least l : Int) rfl hkc W
  have hs2 := fun W => slice_from_met b off n c (Hm.least l) (Hm.least l : Int) rfl hlb.2 W
  generalize (if c = Hm.least l then some (⟨b, off, none⟩ : Addr) else some ⟨b, off + Hm.least l * 2, none⟩) = pd at *
  unfold strNumErr
  generalize hfv : Hm.fv (l.take (Hm.least l)) = A at *
  generalize hsv : Hm.sv (l.drop (Hm.least l)) = B at *
  generalize hsz : Hm.sz n (Hm.least l) = Z at *
  generalize hk : Hm.least l = k at *
  generalize (Hm.put l).1 = y1 at *
  generalize (Hm.put l).2.1 = y2 at *
  generalize (Hm.put l).2.2 = y3 at *
  obtain ⟨hk1, hk2⟩ := hlb
  have HR1 := Lib.hid R1
  have HR2 := Lib.hid R2
  clear hr hn R1 R2 hfv hsv hsz hk hlen h2
  go_enter Try.func8, Try.ntmps8
  go_wp2_with fail
  refine HFew.out.mono ?_
  rintro e w1 ⟨rfl, lo⟩
  have HL := Lib.hid lo
  have HR1 := Lib.hid (RowK.lo HR1.out lo)
  have HR2 := Lib.hid (RowK.lo HR2.out lo)
  clear lo HFew
  have CFv : Hid (∀ W, Hid (Lo w1 W) → Calls Try.prog 23 #[.slice (some ⟨b, off, none⟩) k c] W fun e w' => ∃ p c, e = .returned (.slice p (2 * k) c) ∧ Hid (Row w' (.slice p (2 * k) c) A) ∧ Hid (Lo w1 w') ∧ Lo W w') := Lib.hid (fun W hW => by
    refine (HFv.out W (RowK.lo HR1.out hW.out)).mono ?_
    rintro e w' ⟨p, c, rfl, hr, lo⟩
    exact ⟨p, c, rfl, Lib.hid hr, Lib.hid (hW.out.trans lo), lo⟩)
  have CSv : Hid (∀ W, Hid (Lo w1 W) → Calls Try.prog 24 #[.slice pd (n - k) (c - k)] W fun e w' => ∃ p c, e = .returned (.slice p (n - k) c) ∧ Hid (Row w' (.slice p (n - k) c) B) ∧ Hid (Lo w1 w') ∧ Lo W w') := Lib.hid (fun W hW => by
    refine (HSv.out W _ (RowK.lo HR2.out hW.out)).mono ?_
    rintro e w' ⟨p, c, rfl, hr, lo⟩
    exact ⟨p, c, rfl, Lib.hid hr, Lib.hid (hW.out.trans lo), lo⟩)
  have CSz : Hid (∀ W, Hid (Lo w1 W) → Calls Try.prog 15 #[.int .i64 n, .int .i64 k] W fun e w' => ∃ p c, e = .returned (.slice p (n + k) c) ∧ Hid (Row w' (.slice p (n + k) c) Z) ∧ Hid (Lo w1 w') ∧ Lo W w') := Lib.hid (fun W hW => by
    refine (HSz.out W).mono ?_
    rintro e w' ⟨p, c, rfl, hr, lo⟩
    exact ⟨p, c, rfl, Lib.hid hr, Lib.hid (hW.out.trans lo), lo⟩)
  have CJ : Hid (∀ (W : World) (u v : Value), Hid (Lo w1 W) → Row W u A → Row W v B → Calls Try.prog 22 #[.slice (some ⟨W.heap.size, 0, none⟩) 2 2] (W.alloc (.cells #[u, v] 37)) fun e w' => ∃ p c, e = .returned (.slice p (2 * k + (n - k)) c) ∧ Hid (Row w' (.slice p (2 * k + (n - k)) c) (A ++ B)) ∧ Hid (Lo w1 w') ∧ Lo W w') := Lib.hid (fun W u v hW r1 r2 => by
    refine (HJ0.out W.heap.size u v _ (r1.lo ((Lo.refl _).alloc _)) (r2.lo ((Lo.refl _).alloc _)) (two_new _ _ _ _).1 (two_new _ _ _ _).2 (by simp)).mono ?_
    rintro e w' ⟨p, c, rfl, hown, lo⟩
    exact ⟨p, c, rfl, Lib.hid (Own.row hown), Lib.hid (hW.out.trans (((Lo.refl _).alloc _).trans lo)), ((Lo.refl _).alloc _).trans lo⟩)
  have CP : Hid (∀ (W : World) (u v : Value), Hid (Lo w1 W) → Row W u Z → Row W v (A ++ B) → Calls Try.prog 21 #[u, v] W fun e w' => e = .returned (.tuple #[.string ⟨y1.toArray⟩, .int .i64 y3]) ∧ Hid (Lo w1 w')) := Lib.hid (fun W u v hW r1 r2 => by
    refine (HP0.out u v W r1 r2).mono ?_
    rintro e w' ⟨rfl, lo⟩
    exact ⟨rfl, Lib.hid (hW.out.trans lo)⟩)
  clear HFv HSv HSz HJ0 HP0 HR1 HR2
  go_wp2_with fail
  go_region_held3 (fun W => Hid (Lo w1 W)) (first | assumption | exact Lib.hid ((Lo.refl _).drew) | exact Lib.hid (Lo.alloc (Hid.out (by assumption)) _))
    (first
      | (go_at_call 15; refine (CSz.out _ (by assumption)).mono ?_; rintro e wZ ⟨pZ, cZ, rfl, HRZ, HLZ, loZ⟩)
      | (go_at_call 23; refine (CFv.out _ (by assumption)).mono ?_; rintro e wA ⟨pA, cA, rfl, HRA, HLA, loA⟩)
      | (go_at_call 24; refine (CSv.out _ (by assumption)).mono ?_; rintro e wB ⟨pB, cB, rfl, HRB, HLB, loB⟩)
      | (go_at_call 22; refine (CJ.out _ (.slice pA (2 * k) cA) (.slice pB (n - k) cB) (by assumption) (Row.lo HRA.out (by (repeat (first | exact Lo.refl _ | refine Lo.alloc ?_ _ | refine Lo.drew ?_ | refine Lo.trans ?_ (by with_reducible assumption))))) (Row.lo HRB.out (by (repeat (first | exact Lo.refl _ | refine Lo.alloc ?_ _ | refine Lo.drew ?_ | refine Lo.trans ?_ (by with_reducible assumption)))))).mono ?_; rintro e wJ ⟨pJ, cJ, rfl, HRJ, HLJ, loJ⟩)
      | (go_at_call 21; refine (CP.out _ _ _ (by assumption) (Row.lo HRZ.out (by (repeat (first | exact Lo.refl _ | refine Lo.alloc ?_ _ | refine Lo.drew ?_ | refine Lo.trans ?_ (by with_reducible assumption))))) (Row.lo HRJ.out (by (repeat (first | exact Lo.refl _ | refine Lo.alloc ?_ _ | refine Lo.drew ?_ | refine Lo.trans ?_ (by with_reducible assumption)))))).mono ?_; rintro e wP ⟨rfl, HLP⟩))
  all_goals
    have HL9 := Lib.hid (HL.out.trans HLP.out)
    clear CFv CSv CSz CJ CP hs1 hs2 HL HLP
    by_cases h0 : y3 = 0
    · have HY := Lib.hid (HEq.out h0)
      obtain rfl := HY.out
      subst h0
      clear HNum HEq HNil
      go_wp2_with fail
      refine bodyPost_ret (v := .tuple #[.string ⟨y1.toArray⟩, .int .i64 y2, .int .i64 0]) ?_ rfl ⟨rfl, HL9.out⟩
      simp [results, Try.results8, go_sem]
    · obtain ⟨rfl, rfl⟩ := HNil.out h0
      have hb : (y3 != 0) = true := by simpa using h0
      clear HNum HEq HNil
      go_wp2_with fail
      refine bodyPost_ret (v := .tuple #[.string ⟨#[]⟩, .int .i64 0, .int .i64 y3]) ?_ rfl ⟨rfl, HL9.out⟩
      simp [results, Try.results8, go_sem]

/-- hmtx.Put. -/
theorem hput_any (v : Value) (l : List Hm.Metric) (w : World) (hr : MRow w v l) (h2 : l.length ≤ 40000) :
    Calls Try.prog 8 #[v] w fun e w' => e = strNumErr (Hm.put l) ∧ Lo w w' := by
  rcases Nat.lt_or_ge l.length 1 with h | h
  · rw [Hm.put_arg (.inl h)]; exact hput_arg v l w hr (.inl h)
  · exact hput_some v l w hr h h2
end Go.Proofs.Ytchhjfocanjniaa
