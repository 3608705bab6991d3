/-
  The contract of hmtx.Get: it answers what the plain function on bytes says. No conditions beyond those stated.
-/
import Derived.Test.YtchhjfocanjniaaHmMore
namespace Go.Proofs.Ytchhjfocanjniaa
open Go.RowKit

/-- A row of two parts, cut. -/
theorem Row.two {w : World} {p : Option Addr} {n c : Nat} {l1 l2 : List Int} (h : Row w (.slice p n c) (l1 ++ l2)) (h1 : 0 < l1.length) :
    ∃ b off, p = some ⟨b, off, none⟩ ∧ n = l1.length + l2.length ∧ n ≤ c ∧ Row w (.slice (some ⟨b, off, none⟩) l1.length c) l1 ∧ Row w (.slice (some ⟨b, off + l1.length, none⟩) l2.length (c - l1.length)) l2 := by
  rcases h with ⟨_, _, _, _, h⟩ | ⟨b, off, cap, he, h2, h2b, h3, h4⟩
  · rw [List.append_eq_nil_iff] at h
    rw [h.1] at h1; simp at h1
  · injection he with hp hn hc
    subst hp hc
    rw [List.length_append] at h2 h2b h4
    refine ⟨b, off, rfl, by rw [hn, List.length_append], by rw [hn, List.length_append]; exact h2b, ?_, ?_⟩
    · refine .inr ⟨b, off, c, rfl, by omega, by omega, h3, fun i hi => ?_⟩
      rw [h4 i (by omega)]
      simp [List.getD, List.getElem?_append_left hi]
    · refine .inr ⟨b, off + l1.length, c - l1.length, rfl, by omega, by omega, h3, fun i hi => ?_⟩
      rw [Nat.add_assoc, h4 (l1.length + i) (by omega)]
      simp [List.getD, List.getElem?_append_right]
theorem RowK.nil_at {w : World} (p : Addr) (c : Nat) : MRow w (.slice (some p) 0 c) [] := .inl ⟨_, _, rfl, (fun h => by cases h), rfl⟩
theorem Row.nil_at {w : World} (p : Addr) (c : Nat) : Row w (.slice (some p) 0 c) [] := .inl ⟨_, _, rfl, (fun h => by cases h), rfl⟩

theorem int_elem : Try.prog.elem 37 = 3 := by kernel_rfl
theorem met_elem : Try.prog.elem 22 = 34 := by kernel_rfl
theorem slice_from (b off N c k : Nat) (K : Int) (hK : K = k) (h : k ≤ N) (W : World) :
    (Instr.slice 37 (.slice (some ⟨b, off, none⟩) N c) (some (.int .i64 K)) none none).run Try.prog W = .ok (.slice (if c = k then some ⟨b, off, none⟩ else some ⟨b, off + k, none⟩) (N - k) (c - k)) W := by
  subst hK
  rw [run_slice_l (P := Try.prog) W 37 (some ⟨b, off, none⟩) N c (by rw [int_elem]; exact Try.underlying37) .i64 (k : Int) (by omega) (by omega)]
  have hs : (sizeOf (Try.prog.elem 37)).run Try.prog W = .ok 1 W := by rw [int_elem]; kernel_rfl
  rw [hs, Int.toNat_natCast]
  by_cases hk : k = 0
  · subst hk; simp [Result.andThen, sliced, Addr.add]
  · simp [Result.andThen, sliced, Addr.add, hk]
theorem slice_upto_met (b off N c k : Nat) (K : Int) (hK : K = k) (h : k ≤ c) (W : World) :
    (Instr.slice 22 (.slice (some ⟨b, off, none⟩) N c) none (some (.int .i64 K)) none).run Try.prog W = .ok (.slice (some ⟨b, off, none⟩) k c) W := by
  subst hK
  rw [run_slice_h (P := Try.prog) W 22 (some ⟨b, off, none⟩) N c (by rw [met_elem]; exact Try.underlying22) .i64 (k : Int) (by omega) (by omega)]
  have hs : (sizeOf (Try.prog.elem 22)).run Try.prog W = .ok 2 W := by rw [met_elem]; kernel_rfl
  rw [hs, Int.toNat_natCast]
  simp [Result.andThen, sliced, Addr.add]
theorem slice_from_met (b off N c k : Nat) (K : Int) (hK : K = k) (h : k ≤ N) (W : World) :
    (Instr.slice 22 (.slice (some ⟨b, off, none⟩) N c) (some (.int .i64 K)) none none).run Try.prog W = .ok (.slice (if c = k then some ⟨b, off, none⟩ else some ⟨b, off + k * 2, none⟩) (N - k) (c - k)) W := by
  subst hK
  rw [run_slice_l (P := Try.prog) W 22 (some ⟨b, off, none⟩) N c (by rw [met_elem]; exact Try.underlying22) .i64 (k : Int) (by omega) (by omega)]
  have hs : (sizeOf (Try.prog.elem 22)).run Try.prog W = .ok 2 W := by rw [met_elem]; kernel_rfl
  rw [hs, Int.toNat_natCast]
  by_cases hk : k = 0
  · subst hk; simp [Result.andThen, sliced, Addr.add]
  · have hk2 : ¬ k * 2 = 0 := by omega
    simp [Result.andThen, sliced, Addr.add, hk2]

/-- Metrics and an error, told. -/
def GotMet (a : List Hm.Metric × Int) (w : World) (e : Ending) (w' : World) : Prop := ∃ p c, e = .returned (.tuple #[.slice p a.1.length c, .int .i64 a.2]) ∧ MRow w' (.slice p a.1.length c) a.1 ∧ Lo w w'
theorem GotMet.nil {w w' : World} {k : Int} {e : Ending} (he : e = .returned (.tuple #[.slice none 0 0, .int .i64 k])) (h : Lo w w') : GotMet ([], k) w e w' := by
  subst he
  exact ⟨none, 0, rfl, .inl ⟨_, _, rfl, fun _ => rfl, rfl⟩, h⟩

set_option maxHeartbeats 800000 in
theorem hget_arg (s : ByteArray) (g m : Int) (w : World) (h : g < 1 ∨ 65535 < g ∨ m < 1 ∨ g < m) :
    Calls Try.prog 6 #[.string s, .int .i64 g, .int .i64 m] w (GotMet ([], 1) w) := by
  by_cases h1 : g < 1
  · go_enter Try.func6, Try.ntmps6
    go_wp2_with fail
    go_ret2
    exact GotMet.nil rfl (Lo.refl _)
  · by_cases h2 : 65535 < g
    · go_enter Try.func6, Try.ntmps6
      go_wp2_with fail
      go_ret2
      exact GotMet.nil rfl (Lo.refl _)
    · by_cases h3 : m < 1
      · go_enter Try.func6, Try.ntmps6
        go_wp2_with fail
        go_ret2
        exact GotMet.nil rfl (Lo.refl _)
      · have h4 : g < m := by omega
        go_enter Try.func6, Try.ntmps6
        go_wp2_with fail
        go_ret2
        exact GotMet.nil rfl (Lo.refl _)

set_option maxHeartbeats 800000 in
theorem hget_more (s : List UInt8) (g m : Nat) (w : World) (hg : g ≤ 65535) (h1 : 1 ≤ m) (h2 : m ≤ g) (hs : s.length < 4 * m + 2 * (g - m)) (hl : s.length ≤ 9223372036854775807) :
    Calls Try.prog 6 #[.string ⟨s.toArray⟩, .int .i64 g, .int .i64 m] w (GotMet ([], 4) w) := by
  have HZ := Lib.hid (fun W => hsizes_any g m W h2 hg)
  have hb := ((Hm.get_by s hg h1 h2).1 hs).1
  have HG := Lib.hid (fun (W : World) (v : Value) (h : Row W v (Hm.sz g m)) => get_any s 0 v (Hm.sz g m) W h (by rw [Hm.sz_len h2]; omega) hl (by omega))
  rw [hb] at HG
  clear hb hs
  go_enter Try.func6, Try.ntmps6
  go_wp2_with fail
  refine (HZ.out _).mono ?_
  rintro e w1 ⟨p, c, rfl, hrow, lo⟩
  have HL := Lib.hid lo
  have HR := Lib.hid hrow
  clear lo hrow HZ
  go_wp2_with fail
  refine (HG.out _ _ HR.out).mono ?_
  rintro e w2 ⟨p2, c2, rfl, hrow, lo⟩
  have HL2 := Lib.hid (HL.out.trans lo)
  clear lo hrow HG HL
  go_wp2_with fail
  go_ret2
  exact GotMet.nil rfl HL2.out

abbrev FullAt (b o : Nat) (adv : Int) (w0 W : World) : Prop := W.cell? ⟨b, o, none⟩ = some (.int .i64 adv) ∧ Hid (b < W.heap.size) ∧ Hid (Lo w0 W)
theorem FullAt.lo {b o : Nat} {adv : Int} {w0 W W' : World} (h : FullAt b o adv w0 W) (l : Lo W W') : FullAt b o adv w0 W' :=
  ⟨(l.cell h.2.1.out).trans h.1, Lib.hid (Nat.lt_of_lt_of_le h.2.1.out l.size), Lib.hid (h.2.2.out.trans l)⟩
theorem FullAt.alloc {b o : Nat} {adv : Int} {w0 W : World} (h : FullAt b o adv w0 W) (x : Obj) : FullAt b o adv w0 (W.alloc x) := h.lo ((Lo.refl W).alloc x)
theorem FullAt.drew {b o : Nat} {adv : Int} {w0 W : World} (h : FullAt b o adv w0 W) : FullAt b o adv w0 W.drew := h.lo (Lo.refl W).drew

set_option maxRecDepth 100000 in
set_option maxHeartbeats 4000000 in
theorem hget_ok (s : List UInt8) (g m : Nat) (w : World) (hg : g ≤ 65535) (h1 : 1 ≤ m) (h2 : m ≤ g) (hs : 4 * m + 2 * (g - m) ≤ s.length) (hl : s.length ≤ 9223372036854775807) :
    Calls Try.prog 6 #[.string ⟨s.toArray⟩, .int .i64 g, .int .i64 m] w (GotMet (Hm.fullOf s m ++ Hm.side (Hm.at0 (Hm.fullOf s m) (m - 1)).1 (Hm.sideOf s m (g - m)), 0) w) := by
  have HZ := Lib.hid (fun W => hsizes_any g m W h2 hg)
  have hb := ((Hm.get_by s hg h1 h2).2 hs).1
  have HG := Lib.hid (fun (W : World) (v : Value) (h : Row W v (Hm.sz g m)) => get_any s 0 v (Hm.sz g m) W h (by rw [Hm.sz_len h2]; omega) hl (by omega))
  rw [hb] at HG
  clear hb hs
  have hF := Hm.fullOf_len s m
  have hS := Hm.sideOf_len s m (g - m)
  have hd : g - m ≤ 65535 := by omega
  generalize Hm.fullOf s m = F at *
  generalize Hm.sideOf s m (g - m) = S at *
  generalize g - m = d at *
  have HF := Lib.hid hF
  have HS := Lib.hid hS
  generalize hadv : (Hm.at0 F (m - 1)).1 = adv at *
  have HA := Lib.hid hadv
  clear hF hS hadv
  go_enter Try.func6, Try.ntmps6
  go_wp2_with fail
  refine (HZ.out _).mono ?_
  rintro e w1 ⟨p, c, rfl, hrow, lo⟩
  have HL := Lib.hid lo
  have HR := Lib.hid hrow
  clear lo hrow HZ
  go_wp2_with fail
  refine (HG.out _ _ HR.out).mono ?_
  rintro e w2 ⟨p2, c2, rfl, hrow, lo⟩
  have HL2 := Lib.hid (HL.out.trans lo)
  clear lo HG HL HR
  dsimp only at hrow ⊢
  obtain ⟨b, off, rfl, hN, hNc, r1, r2⟩ := Row.two hrow (by rw [Hm.fv_len, HF.out]; omega)
  rw [Hm.fv_len, HF.out] at r1 r2 hN
  rw [HS.out] at r2 hN
  generalize (Hm.fv F ++ S).length = N at *
  clear hrow
  have HR1 := Lib.hid r1
  have HR2 := Lib.hid r2
  have HN := Lib.hid hN
  have hN2 : 2 * m ≤ N := by omega
  have hc2 : 2 * m ≤ c2 := by omega
  clear r1 r2 hN
  have i1 : (2 * (m : Int)) ≤ (c2 : Int) := by omega
  have i2 : (0 : Int) ≤ 2 * (m : Int) := by omega
  have i3 : (2 * (m : Int)).toNat = 2 * m := by omega
  have i4 : ¬ c2 = 0 := by omega
  have HM := Lib.hid (fun W (h : Row W (.slice (some ⟨b, off, none⟩) (2 * m) c2) (Hm.fv F)) => fullMetrics_any _ F W h (by rw [HF.out]; omega))
  unfold MetTold at HM
  rw [HF.out] at HM
  go_wp2_with fail
  refine (HM.out _ HR1.out).mono ?_
  rintro e w3 ⟨pf, cf, rfl, hrow, lo⟩
  have HL3 := Lib.hid (HL2.out.trans lo)
  have HR2 := Lib.hid (HR2.out.lo lo)
  have HRF := Lib.hid hrow
  obtain ⟨b2, off2, rfl, k1, k2⟩ := MRow.at2 hrow (at0_some (i := m - 1) (by rw [HF.out]; omega))
  rw [HA.out] at k1
  have kb := World.block_lt_of_cell? w3 _ k1
  have H0 : Hid (∀ W, Lo w3 W → FullAt b2 (off2 + (m - 1) * 2) adv w3 W) := Lib.hid (fun W lo => FullAt.lo (W := w3) ⟨k1, Lib.hid kb, Lib.hid (Lo.refl _)⟩ lo)
  clear lo hrow k1 k2 kb HL2 HM HR1 i1 i4
  have j1 : IntKind.i64.wrap (2 * (m : Int)) = 2 * (m : Int) := IntWalk.i64_in _ (by omega)
  have j2 : IntKind.i64.wrap ((m : Int) - 1) = (m : Int) - 1 := IntWalk.i64_in _ (by omega)
  have j3 : (0 : Int) ≤ (m : Int) - 1 := by omega
  have j3' : (1 : Int) ≤ (m : Int) := by omega
  have j4 : (m : Int) - 1 < (m : Int) := by omega
  have j5 : ((m : Int) - 1).toNat = m - 1 := by omega
  have j6 : 2 * (m : Int) ≤ (N : Int) := by omega
  obtain ⟨vs, hvs, HVS⟩ : ∃ vs : Value, (∀ W, (Instr.slice 37 (.slice (some ⟨b, off, none⟩) N c2) (some (.int .i64 (2 * (m : Int)))) none none).run Try.prog W = .ok vs W) ∧ Hid (Row w3 vs S) := by
    refine ⟨_, slice_from b off N c2 (2 * m) _ (by omega) hN2, Lib.hid ?_⟩
    have hr := HR2.out
    by_cases hcc : c2 = 2 * m
    · rw [if_pos hcc]
      have hd0 : d = 0 := by have := HN.out; omega
      have hS0 : S = [] := List.eq_nil_of_length_eq_zero (by rw [HS.out]; exact hd0)
      rw [hS0, show N - 2 * m = 0 by omega]
      exact Row.nil_at _ _
    · rw [if_neg hcc, show N - 2 * m = d by have := HN.out; omega]; exact hr
  have HSide : Hid (∀ W, FullAt b2 (off2 + (m - 1) * 2) adv w3 W → Calls Try.prog 18 #[vs, .int .i64 adv] W fun e w' => ∃ p c, e = .returned (.slice p d c) ∧ FullAt b2 (off2 + (m - 1) * 2) adv w3 w' ∧ Hid (MRow w' (.slice p d c) (Hm.side adv S))) := Lib.hid (fun W hW => by
    refine (sideMetrics_any adv vs S W (HVS.out.lo hW.2.2.out) (by rw [HS.out]; omega)).mono ?_
    rintro e w' ⟨p, c, rfl, hr, lo⟩
    rw [Hm.side_len, HS.out] at hr ⊢
    exact ⟨p, c, rfl, hW.lo lo, Lib.hid hr⟩)
  have HJ : Hid (∀ (W : World) (p : Option Addr) (c : Nat), FullAt b2 (off2 + (m - 1) * 2) adv w3 W → Hid (MRow W (.slice p d c) (Hm.side adv S)) → Calls Try.prog 17 #[.slice (some ⟨W.heap.size, 0, none⟩) 2 2] (W.alloc (.cells #[.slice (some ⟨b2, off2, none⟩) m cf, .slice p d c] 22)) fun e w' => ∃ p c, e = .returned (.slice p (m + d) c) ∧ FullAt b2 (off2 + (m - 1) * 2) adv w3 w' ∧ Hid (MRow w' (.slice p (m + d) c) (F ++ Hm.side adv S))) := Lib.hid (fun W p c hW hr => by
    refine (joinedMet_any W.heap.size _ _ F (Hm.side adv S) _ (RowK.lo HRF.out (hW.2.2.out.trans ((Lo.refl _).alloc _))) (RowK.lo hr.out ((Lo.refl _).alloc _)) (two_new _ _ _ _).1 (two_new _ _ _ _).2 (by simp) (by rw [HF.out, Hm.side_len, HS.out]; omega)).mono ?_
    rintro e w' ⟨p, c, rfl, hown, lo⟩
    rw [HF.out, Hm.side_len, HS.out] at hown ⊢
    exact ⟨p, c, rfl, hW.lo (((Lo.refl _).alloc _).trans lo), Lib.hid (OwnK.row encM_len hown)⟩)
  clear HR2 HRF
  go_wp2_with fail
  go_region_held3 (fun W => FullAt b2 (off2 + (m - 1) * 2) adv w3 W) (first | assumption | exact H0.out _ ((Lo.refl _).drew) | exact FullAt.alloc (by assumption) _)
    (first
      | (go_at_call 18; refine (HSide.out _ (by assumption)).mono ?_; rintro e wS ⟨pS, cS, rfl, hSS, HRS⟩)
      | (go_at_call 17; refine (HJ.out wS pS cS (by assumption) (by assumption)).mono ?_; rintro e wJ ⟨pJ, cJ, rfl, hSJ, HRJ⟩))
  all_goals
    have HLJ := Lib.hid (HL3.out.trans hSJ.2.2.out)
    clear HSide HJ hSJ hSS H0 hvs j1 j2 j5 i3
    go_wp2_with fail
    go_ret2
    refine ⟨pJ, cJ, ?_, ?_, HLJ.out⟩
    · rw [List.length_append, HF.out, Hm.side_len, HS.out]; rfl
    · rw [List.length_append, HF.out, Hm.side_len, HS.out]; exact HRJ.out

/-- hmtx.Get. -/
theorem hget_any (s : List UInt8) (g m : Int) (w : World) (hl : s.length ≤ 9223372036854775807) :
    Calls Try.prog 6 #[.string ⟨s.toArray⟩, .int .i64 g, .int .i64 m] w (GotMet (Hm.get s g m) w) := by
  by_cases h : g < 1 ∨ 65535 < g ∨ m < 1 ∨ g < m
  · rw [Hm.get_arg s h]; exact hget_arg _ g m w h
  · obtain ⟨g', rfl⟩ := Int.eq_ofNat_of_zero_le (show 0 ≤ g by omega)
    obtain ⟨m', rfl⟩ := Int.eq_ofNat_of_zero_le (show 0 ≤ m by omega)
    rcases Nat.lt_or_ge s.length (4 * m' + 2 * (g' - m')) with hs | hs
    · rw [((Hm.get_by s (by omega) (by omega) (by omega)).1 hs).2]
      exact hget_more s g' m' w (by omega) (by omega) (by omega) hs hl
    · rw [((Hm.get_by s (by omega) (by omega) (by omega)).2 hs).2]
      exact hget_ok s g' m' w (by omega) (by omega) (by omega) hs hl
end Go.Proofs.Ytchhjfocanjniaa
