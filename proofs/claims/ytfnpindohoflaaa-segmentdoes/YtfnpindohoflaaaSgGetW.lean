/-
  Contract of segment.Get. No conditions beyond those stated.
-/
import Derived.Test.YtfnpindohoflaaaSgGet
namespace Go.Proofs.Ytfnpindohoflaaa
open Go.RowKit

theorem near_len2 (a b c : Int) : (Sg.nearL a b c).length ≤ 2 := by
  unfold Sg.nearL
  by_cases h : b < a + 65536 - c
  · rw [if_pos h]; simp
  · rw [if_neg h]; simp
theorem segF_len {tt fr de tl : Nat → Int} {m i : Nat} (h : fr i ≤ tt i) : ((Sg.segF tt fr de tl m i).1.length : Int) ≤ tt i - fr i + 2 := by
  unfold Sg.segF
  by_cases hz : tl i = 0
  · rw [if_pos hz]
    show ((Sg.nearL (fr i) (tt i) ((fr i + de i) % 65536)).length : Int) ≤ _
    have := near_len2 (fr i) (tt i) ((fr i + de i) % 65536)
    omega
  · rw [if_neg hz]
    by_cases hm : (m : Int) < i + tl i / 2 + (tt i - fr i + 1)
    · rw [if_pos hm]; simp; omega
    · rw [if_neg hm]
      have := Ch.spansL_len ((List.range (tt i - fr i + 1).toNat).map fun j => Sg.gl1 (tl (i + (tl i / 2).toNat + j)) (de i)) (fr i)
      rw [List.length_map, List.length_range] at this
      show ((Ch.spansL (fr i) _).length : Int) ≤ _
      omega

theorem upTo_len {tt fr de tl : Nat → Int} {m n : Nat} (h : ∀ i, i < n → fr i ≤ tt i ∧ Sg.lastF tt i < fr i) : ∀ k, k ≤ n → ((Sg.upTo (Sg.segF tt fr de tl m) k).length : Int) ≤ Sg.lastF tt k + 1 + k
  | 0, _ => by simp [Sg.upTo, Sg.lastF]
  | k + 1, hk => by
    have ih := upTo_len (de := de) (tl := tl) (m := m) h k (by omega)
    obtain ⟨h1, h2⟩ := h k (by omega)
    have := segF_len (de := de) (tl := tl) (m := m) h1
    rw [Sg.upTo_step, List.length_append]
    have e : Sg.lastF tt (k + 1) = tt k := by unfold Sg.lastF; rw [if_neg (by omega)]; rfl
    rw [e]
    omega

set_option maxRecDepth 100000 in
set_option maxHeartbeats 3200000 in
theorem sget_ok (s : List UInt8) (w : World) (hl : s.length ≤ 9223372036854775807) (h : Sg.rerr s = 0) : Calls Try.prog 9 #[.string ⟨s.toArray⟩] w (GotSp (Sg.get s) w) := by
  have HRd := Lib.hid (read_any s w hl)
  unfold ReadTold at HRd
  have HRd2 : Hid (Calls Try.prog 20 #[.string ⟨s.toArray⟩] w (GotTab (Sg.nums s) (Sg.many s) w)) := Lib.hid (HRd.out.mono fun e w' hh => by
    rcases hh with ⟨h1, _⟩ | ⟨_, h2⟩
    · exact absurd h h1
    · exact h2)
  clear HRd
  unfold GotTab aggT5 at HRd2
  have HF := Lib.hid (fun m hm => Sg.get_table (m := m) h hm _ rfl)
  have HTb := Lib.hid (fun m hm => (show Sg.many s ≤ m ∧ 1 ≤ Sg.many s ∧ m ≤ 40000 from ⟨(Sg.table_facts (m := m) h hm).1, (Sg.table_facts (m := m) h hm).2.1, (Sg.table_facts (m := m) h hm).2.2.1⟩))
  have HBd := Lib.hid (fun j => Sg.nums_bound s j)
  generalize Sg.get s = y at *
  generalize Sg.nums s = ns at *
  generalize Sg.many s = n at *
  go_enter Try.func9, Try.ntmps9
  go_wp2_with fail
  refine HRd2.out.mono ?_
  rintro e w1 ⟨b, off, c, m, rfl, hrow, hm, lo⟩
  obtain ⟨f1, f2⟩ := HF.out m hm
  obtain ⟨t1, t2, t3⟩ := HTb.out m hm
  have HNo := Lib.hid f1
  have HYes := Lib.hid f2
  have hcell : ∀ j, j < 8 + 3 * n + m → w1.cell? ⟨b, off + j, none⟩ = some (.int .i64 (ns.getD j 0)) := fun j hj => by
    obtain ⟨b', o', e, hc⟩ := hrow.at_ (k := j) (by omega)
    injection e with e
    injection e with e1 e2
    subst e1 e2
    exact hc
  have hb : b < w1.heap.size := World.block_lt_of_cell? w1 _ (hcell 0 (by omega))
  have hc1 : ∀ i, i < n → w1.cell? ⟨b, off + 7 + i, none⟩ = some (.int .i64 (Sg.nTt ns i)) := fun i hi => by rw [Nat.add_assoc]; exact hcell _ (by omega)
  have hc2 : ∀ i, i < n → w1.cell? ⟨b, off + (8 + n) + i, none⟩ = some (.int .i64 (Sg.nFr ns n i)) := fun i hi => by rw [Nat.add_assoc]; exact hcell _ (by omega)
  have hc3 : ∀ i, i < n → w1.cell? ⟨b, off + (8 + 2 * n) + i, none⟩ = some (.int .i64 (Sg.nDe ns n i)) := fun i hi => by rw [Nat.add_assoc]; exact hcell _ (by omega)
  have hc4 : ∀ j, j < m → w1.cell? ⟨b, off + (8 + 3 * n) + j, none⟩ = some (.int .i64 (Sg.nTl ns n j)) := fun i hi => by rw [Nat.add_assoc]; exact hcell _ (by omega)
  have HR := Lib.hid (fun (W : World) (l : Lo w1 W) => isRight_any b off (off + 7) (off + (8 + n)) (off + (8 + 2 * n)) (off + (8 + 3 * n)) n m (Sg.nTt ns) (Sg.nFr ns n) (Sg.nTl ns n) W (Nat.lt_of_lt_of_le hb l.size) (fun i hi => (l.cell hb).trans (hc1 i hi)) (fun i hi => (l.cell hb).trans (hc2 i hi)) (fun i hi => (l.cell hb).trans (hc4 i (by omega))) (fun i _ => HBd.out _) t1 (by omega))
  have HS := Lib.hid (fun (i : Nat) (hi : i < n) (hle : Sg.nFr ns n i ≤ Sg.nTt ns i) (W : World) (l : Lo w1 W) => spans_one b off (off + 7) (off + (8 + n)) (off + (8 + 2 * n)) (off + (8 + 3 * n)) n m i (Sg.nTt ns) (Sg.nFr ns n) (Sg.nDe ns n) (Sg.nTl ns n) W (Nat.lt_of_lt_of_le hb l.size) ((l.cell hb).trans (hc1 i hi)) ((l.cell hb).trans (hc2 i hi)) ((l.cell hb).trans (hc3 i hi)) (fun j hj => (l.cell hb).trans (hc4 j hj)) (fun i _ => HBd.out _) t1 (by omega) hi hle (HBd.out _).1 (HBd.out _).2 (HBd.out _).1 (HBd.out _).2)
  have HLen := Lib.hid (fun hh k hk => upTo_len (tt := Sg.nTt ns) (fr := Sg.nFr ns n) (de := Sg.nDe ns n) (tl := Sg.nTl ns n) (m := m) (n := n) hh k hk)
  have HLa : Hid (∀ k, Sg.lastF (Sg.nTt ns) k ≤ 65535) := Lib.hid (fun k => by
    unfold Sg.lastF
    by_cases h : k = 0
    · rw [if_pos h]; omega
    · rw [if_neg h]; exact (HBd.out _).2)
  have HSl : Hid (∀ i, Sg.nFr ns n i ≤ Sg.nTt ns i → ((Sg.segF (Sg.nTt ns) (Sg.nFr ns n) (Sg.nDe ns n) (Sg.nTl ns n) m i).1.length : Int) ≤ 65537) := Lib.hid (fun i hi => by
    have h1 := segF_len (de := Sg.nDe ns n) (tl := Sg.nTl ns n) (m := m) hi
    have h2 := HBd.out (8 + n + i)
    have h3 := HBd.out (7 + i)
    unfold Sg.nTt Sg.nFr at *
    omega)
  generalize hf : Sg.segF (Sg.nTt ns) (Sg.nFr ns n) (Sg.nDe ns n) (Sg.nTl ns n) m = f at *
  have HUp := Lib.hid (fun k => Sg.upTo_step f k)
  unfold aggT5 at HR HS
  generalize off + (8 + n) = o2 at *
  generalize off + (8 + 2 * n) = o3 at *
  generalize off + (8 + 3 * n) = o4 at *
  have HT := Lib.hid (new_block w1 (.cells #[.slice (some ⟨b, off, none⟩) 7 7, .slice (some ⟨b, off + 7, none⟩) n n, .slice (some ⟨b, o2, none⟩) n n, .slice (some ⟨b, o3, none⟩) n n, .slice (some ⟨b, o4, none⟩) m m] 44))
  have HL := Lib.hid (lo.alloc (.cells #[.slice (some ⟨b, off, none⟩) 7 7, .slice (some ⟨b, off + 7, none⟩) n n, .slice (some ⟨b, o2, none⟩) n n, .slice (some ⟨b, o3, none⟩) n n, .slice (some ⟨b, o4, none⟩) m m] 44))
  have HL1 := Lib.hid ((Lo.refl w1).alloc (.cells #[.slice (some ⟨b, off, none⟩) 7 7, .slice (some ⟨b, off + 7, none⟩) n n, .slice (some ⟨b, o2, none⟩) n n, .slice (some ⟨b, o3, none⟩) n n, .slice (some ⟨b, o4, none⟩) m m] 44))
  have HR1 := Lib.hid (HR.out _ HL1.out)
  clear f1 f2 hrow hcell hb hc1 hc2 hc3 hc4 hm HBd HF HTb hf HR lo h
  cases hr : Sg.rightF (Sg.nTt ns) (Sg.nFr ns n) (Sg.nTl ns n) n with
  | false =>
    have HE := Lib.hid (HNo.out hr)
    rw [hr] at HR1
    clear hr HNo HYes HS HLen HSl HLa HUp
    obtain ⟨⟨s0, s1, s2, s3, s4⟩, _⟩ := five_at HT.out
    go_wp2_with fail
    refine HR1.out.mono ?_
    rintro e w2 ⟨rfl, lo⟩
    have HL := Lib.hid (HL.out.trans lo)
    clear lo HR1
    go_wp2_with fail
    go_ret2
    rw [HE.out]
    exact GotSp.nil rfl HL.out
  | true =>
    obtain ⟨g1, g2, g3⟩ := HYes.out hr
    have HG1 := Lib.hid g1
    have HG2 := Lib.hid g2
    have HG3 := Lib.hid g3
    have HLen1 := Lib.hid (HLen.out g1)
    rw [hr] at HR1
    clear hr HNo HYes g1 g2 g3 HLen
    obtain ⟨⟨s0, s1, s2, s3, s4⟩, _⟩ := five_at HT.out
    go_wp2_with fail
    refine HR1.out.mono ?_
    rintro e w2 ⟨rfl, lo⟩
    have HLb := Lib.hid (HL.out.trans lo)
    have HL1b := Lib.hid (HL1.out.trans lo)
    have HTb := Lib.hid (lo_block lo HT.out)
    clear lo HR1 s0 s1 s2 s3 s4
    obtain ⟨⟨s0, s1, s2, s3, s4⟩, _⟩ := five_at HTb.out
    go_wp2_with fail
    clear s0 s1 s2 s3 s4
    go_loopw [6, 7, 8, 9, 24] (fun s6 _ _ _ s24 W => ∃ (k : Nat) (L : List Ch.Span) (q : Option Addr) (d : Nat), k ≤ n ∧ s24 = .int .i64 k ∧ s6 = .slice q L.length d ∧ Hid (L = Sg.upTo f k) ∧ Hid (∀ i, i < k → (f i).2 = 0) ∧ Hid (OwnK encS 41 4 W w2.heap.size (.slice q L.length d) L) ∧ Hid (Lo w2 W)) (fun _ _ _ _ s24 _ => n - (intOf s24).toNat)
    case atStart => exact ⟨0, [], none, 0, Nat.zero_le _, rfl, rfl, Lib.hid rfl, Lib.hid (fun i hi => by omega), Lib.hid (OwnK.none _ _ _ _ _), Lib.hid (Lo.refl _)⟩
    case round =>
      obtain ⟨k, L, q, d, hk, rfl, rfl, HT2, HZ, HO, HL2⟩ := hrel
      by_cases hlt : k < n
      · obtain ⟨hle, _⟩ := HG1.out k hlt
        have HSk := Lib.hid (HS.out k hlt hle _ (HL1b.out.trans HL2.out))
        have HUk := Lib.hid (HUp.out k)
        have HG2k := Lib.hid (HG2.out k hlt HZ.out)
        have HLk : Hid (L.length ≤ 200000) := Lib.hid (by
          have h1 := HLen1.out k hk
          have h2 := HLa.out k
          rw [HT2.out]; omega)
        have HSlk := Lib.hid (HSl.out k hle)
        have HZk : Hid ((f k).2 = 0 → ∀ i, i < k + 1 → (f i).2 = 0) := Lib.hid (fun h0 i hi => by
          rcases (show i < k ∨ i = k by omega) with h | rfl
          · exact HZ.out i h
          · exact h0)
        rw [← HT2.out] at HUk
        obtain ⟨⟨s0, s1, s2, s3, s4⟩, _⟩ := five_at (lo_block HL2.out HTb.out)
        clear hle HT2
        generalize f k = z at *
        obtain ⟨zl, ze⟩ := z
        unfold GotSp at HSk
        dsimp only at HSk HUk HG2k HSlk HZk
        by_cases h0 : ze = 0
        · have HZ2 := Lib.hid (HZk.out h0)
          subst h0
          clear HZk HG2k
          have HT3 : Hid (L ++ zl = Sg.upTo f (k + 1)) := Lib.hid HUk.out.symm
          clear HUk
          go_wp2_with fail
          refine HSk.out.mono ?_
          rintro e w3 ⟨p, c3, rfl, hr, lo⟩
          have HRw := Lib.hid hr
          have HO3 := Lib.hid (OwnK.lo HO.out lo)
          have HL4 := Lib.hid (HL2.out.trans lo)
          have HSz := Lib.hid HL4.out.size
          clear hr lo HSk s0 s1 s2 s3 s4
          go_wp2_with (at_builtin; refine wpList_appK _ rfl (.tmp 36) (.tmp 37) _ rfl 41 4 32 _ Try.underlying22 api_info rfl (by omega) (by omega) encS_len encS_one w2.heap.size (.slice q L.length d) L rfl HO3.out _ zl rfl HRw.out (by have := HLk.out; have := HSlk.out; omega) (by have := HSz.out; omega) ?_; intro q1 d1 w4 hown hlo; have HO4 := Lib.hid hown; have HL6 := Lib.hid (hlo w2 HL4.out (Nat.le_refl _)); clear hown hlo)
          go_roundw
          case rel => exact ⟨k + 1, L ++ zl, q1, d1, by omega, by go_num, by simp, HT3, HZ2, by simpa using HO4, HL6⟩
          case measure => simp [intOf]; omega
        · have HE := Lib.hid (HG2k.out h0)
          clear HZk HG2k
          go_wp2_with fail
          refine HSk.out.mono ?_
          rintro e w3 ⟨p, c3, rfl, hr, lo⟩
          have HL4 := Lib.hid (HL2.out.trans lo)
          clear hr lo HSk s0 s1 s2 s3 s4
          go_wp2_with fail
          go_ret2
          rw [HE.out]
          exact GotSp.nil rfl (HLb.out.trans HL4.out)
      · obtain rfl : k = n := by omega
        have HE := Lib.hid (HG3.out HZ.out)
        rw [← HT2.out] at HE
        go_wp2_with fail
        go_ret2
        rw [HE.out]
        exact ⟨q, d, rfl, OwnK.row encS_len HO.out, HLb.out.trans HL2.out⟩

set_option maxRecDepth 100000 in
set_option maxHeartbeats 800000 in
/-- segment.Get. -/
theorem sget_any (s : List UInt8) (w : World) (hl : s.length ≤ 9223372036854775807) : Calls Try.prog 9 #[.string ⟨s.toArray⟩] w (GotSp (Sg.get s) w) := by
  by_cases h : Sg.rerr s = 0
  · exact sget_ok s w hl h
  · have HE := Lib.hid (Sg.get_rerr h)
    have HRd : Hid (Calls Try.prog 20 #[.string ⟨s.toArray⟩] w fun e w' => e = noTab (Sg.rerr s) ∧ Lo w w') := Lib.hid ((read_any s w hl).mono fun e w' hh => by
      rcases hh with ⟨_, h1⟩ | ⟨h1, _⟩
      · exact h1
      · exact absurd h1 h)
    unfold noTab at HRd
    generalize Sg.get s = y at *
    generalize Sg.rerr s = k at *
    go_enter Try.func9, Try.ntmps9
    go_wp2_with fail
    refine HRd.out.mono ?_
    rintro e w1 ⟨rfl, lo⟩
    have HL := Lib.hid (lo.alloc (.cells #[.slice none 0 0, .slice none 0 0, .slice none 0 0, .slice none 0 0, .slice none 0 0] 44))
    clear lo HRd
    go_wp2_with fail
    go_ret2
    rw [HE.out]
    exact GotSp.nil rfl HL.out
end Go.Proofs.Ytfnpindohoflaaa
