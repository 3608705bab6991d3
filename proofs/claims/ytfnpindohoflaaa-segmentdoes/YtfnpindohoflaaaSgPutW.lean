/-
  Contract of segment.Put. No conditions beyond those stated.
-/
import Derived.Test.YtfnpindohoflaaaSgBuild
import Derived.Test.YtfnpindohoflaaaSgLay
import Derived.Test.YtfnpindohoflaaaSgHead
import Derived.Test.YtfnpindohoflaaaBnPut
namespace Go.Proofs.Ytfnpindohoflaaa
open Go.RowKit

theorem lay_stage {K : List Ch.Span} {k : Nat} (hk : k < K.length) (hok : Ch.okSpan (K.getD k Ch.zs) = true) (hto : (K.getD k Ch.zs).to ≤ 65535) :
    lay1 (K.getD k Ch.zs) K.length k (K.length + Sg.glyphs (K.take k)) (Sg.stage K k) = Sg.stage K (k + 1) := by
  obtain ⟨a1, a2, a3, a4, a5, a6, a7, a8⟩ := (Ch.okSpan_iff _).1 hok
  have e1 := Sg.at1_zs hk
  have wt := Sg.w_to K k hk
  have wf := Sg.w_fr K k hk
  have wd := Sg.w_de K k hk
  have wo := Sg.w_of K k hk
  have wr := fun t ht => Sg.w_rest K k t hk ht
  have hst := Sg.glyphs_step hk
  have htk := Sg.glyphs_take K (k + 1)
  have hlen := Sg.words_len K
  unfold Sg.behind at wr
  unfold Sg.offs Sg.behind at wo
  rw [e1] at wt wf wd wo wr
  have hde := fun h => Sg.delta_mod (x := K.getD k Ch.zs) h a6 a7 a1 (by omega)
  have hde0 : Sg.isRow (K.getD k Ch.zs) = true → Sg.delta (K.getD k Ch.zs) = 0 := fun h => by unfold Sg.delta; rw [if_pos h]
  have hwid : Sg.isRow (K.getD k Ch.zs) = false → Sg.wid (K.getD k Ch.zs) = 0 := fun h => by unfold Sg.wid; rw [if_neg (by rw [h]; simp)]
  have hd0 : ∀ j, Sg.done K k j ↔ (j < 7 ∨ (7 ≤ j ∧ j < 7 + k) ∨ (8 + K.length ≤ j ∧ j < 8 + K.length + k) ∨ (8 + 2 * K.length ≤ j ∧ j < 8 + 2 * K.length + k) ∨ (8 + 3 * K.length ≤ j ∧ j < 8 + 3 * K.length + k) ∨ (8 + 4 * K.length ≤ j ∧ j < 8 + 4 * K.length + Sg.glyphs (K.take k))) := fun j => Iff.rfl
  have hd1 : ∀ j, Sg.done K (k + 1) j ↔ (j < 7 ∨ (7 ≤ j ∧ j < 7 + (k + 1)) ∨ (8 + K.length ≤ j ∧ j < 8 + K.length + (k + 1)) ∨ (8 + 2 * K.length ≤ j ∧ j < 8 + 2 * K.length + (k + 1)) ∨ (8 + 3 * K.length ≤ j ∧ j < 8 + 3 * K.length + (k + 1)) ∨ (8 + 4 * K.length ≤ j ∧ j < 8 + 4 * K.length + Sg.glyphs (K.take (k + 1)))) := fun j => Iff.rfl
  unfold Sg.stage lay1
  generalize Sg.words K = W at *
  generalize K.getD k Ch.zs = x at *
  generalize K.length = n at *
  generalize Sg.glyphs (K.take (k + 1)) = g1 at *
  generalize Sg.glyphs (K.take k) = g0 at *
  cases hr : Sg.isRow x with
  | true =>
    rw [if_pos rfl]
    rw [hr, if_pos rfl] at wo
    rw [hde0 hr] at wd
    dsimp only
    rw [Sg.tab_set, Sg.tab_set, Sg.tab_set, Sg.tab_splice _ _ (by omega)]
    refine Sg.tab_congr fun j hj => ?_
    by_cases c1 : 8 + 3 * n + (n + g0) ≤ j ∧ j < 8 + 3 * n + (n + g0) + Sg.wid x
    · rw [if_pos c1, if_pos ((hd1 j).2 (by omega))]
      have := wr (j - (8 + 4 * n + g0)) (by omega)
      rw [show 8 + 4 * n + g0 + (j - (8 + 4 * n + g0)) = j by omega] at this
      exact this.symm
    · rw [if_neg c1]
      by_cases c2 : j = 8 + 3 * n + k
      · subst c2
        rw [if_pos rfl, if_pos ((hd1 _).2 (by omega)), wo]
        omega
      · rw [if_neg c2]
        by_cases c3 : j = 7 + k
        · subst c3
          rw [if_pos rfl, if_pos ((hd1 _).2 (by omega)), wt]
        · rw [if_neg c3]
          by_cases c4 : j = 8 + n + k
          · subst c4
            rw [if_pos rfl, if_pos ((hd1 _).2 (by omega)), wf]
          · rw [if_neg c4]
            by_cases c5 : j = 8 + 2 * n + k
            · subst c5
              rw [if_pos ((hd1 _).2 (by omega)), wd, if_neg (fun h => by have := (hd0 _).1 h; omega)]
            · by_cases c6 : Sg.done K k j
              · rw [if_pos c6, if_pos ((hd1 _).2 (by have := (hd0 _).1 c6; omega))]
              · rw [if_neg c6, if_neg (fun h => c6 ((hd0 _).2 (by have := (hd1 _).1 h; omega)))]
  | false =>
    rw [if_neg (by simp)]
    rw [hr, if_neg (by simp)] at wo
    rw [hde hr] at wd
    have hw0 := hwid hr
    rw [Sg.tab_set, Sg.tab_set, Sg.tab_set]
    refine Sg.tab_congr fun j hj => ?_
    by_cases c2 : j = 8 + 2 * n + k
    · subst c2
      rw [if_pos rfl, if_pos ((hd1 _).2 (by omega)), wd]
    · rw [if_neg c2]
      by_cases c3 : j = 7 + k
      · subst c3
        rw [if_pos rfl, if_pos ((hd1 _).2 (by omega)), wt]
      · rw [if_neg c3]
        by_cases c4 : j = 8 + n + k
        · subst c4
          rw [if_pos rfl, if_pos ((hd1 _).2 (by omega)), wf]
        · rw [if_neg c4]
          by_cases c5 : j = 8 + 3 * n + k
          · subst c5
            rw [if_pos ((hd1 _).2 (by omega)), wo, if_neg (fun h => by have := (hd0 _).1 h; omega)]
          · by_cases c6 : Sg.done K k j
            · rw [if_pos c6, if_pos ((hd1 _).2 (by have := (hd0 _).1 c6; omega))]
            · rw [if_neg c6, if_neg (fun h => c6 ((hd0 _).2 (by have := (hd1 _).1 h; omega)))]

theorem rest_mem : ∀ (K : List Ch.Span) (v : Int), v ∈ Sg.rest K → ∃ x ∈ K, v = x.gl
  | [], v, h => by simp [Sg.rest] at h
  | x :: r, v, h => by
    rw [Sg.rest, List.mem_append] at h
    rcases h with h | h
    · exact ⟨x, by simp, (List.mem_replicate.1 h).2⟩
    · obtain ⟨y, hy, e⟩ := rest_mem r v h
      exact ⟨y, by simp [hy], e⟩
theorem words_in {K : List Ch.Span} (G : Sg.Good K) : ∀ v ∈ Sg.words K, 0 ≤ v ∧ v ≤ 65535 := by
  have hok : ∀ x ∈ K, Ch.okSpan x = true := fun x hx => (Ch.chain_mem G.chain x hx).1
  have hone := G.one
  have hsize := G.size
  obtain ⟨t, e1, e2, e3, e4, e5⟩ := Sg.pow2_is (n := K.length) (by omega) (by omega)
  intro v hv
  unfold Sg.words at hv
  simp only [List.mem_append, List.mem_map, List.mem_range, List.mem_singleton] at hv
  rcases hv with (((((hv | ⟨x, hx, rfl⟩) | rfl) | ⟨x, hx, rfl⟩) | ⟨x, hx, rfl⟩) | ⟨j, hj, rfl⟩) | hv
  · unfold Sg.hd at hv
    rw [e1] at hv
    simp only [List.mem_cons, List.not_mem_nil, or_false] at hv
    omega
  · obtain ⟨a1, a2, _⟩ := (Ch.okSpan_iff x).1 (hok x hx)
    have := G.upto x hx
    omega
  · omega
  · obtain ⟨a1, a2, _⟩ := (Ch.okSpan_iff x).1 (hok x hx)
    have := G.upto x hx
    omega
  · obtain ⟨a1, a2, a3, a4, a5, a6, a7, a8⟩ := (Ch.okSpan_iff x).1 (hok x hx)
    have := G.upto x hx
    unfold Sg.delta
    by_cases h : Sg.isRow x = true
    · rw [if_pos h]; omega
    · rw [if_neg h]; exact (Sg.plane_back a6 a7 a1 (by omega)).2
  · have := Sg.behind_le hj
    unfold Sg.offs
    by_cases h : Sg.isRow (Sg.at1 K j) = true
    · rw [if_pos h]; omega
    · rw [if_neg h]; omega
  · obtain ⟨x, hx, rfl⟩ := rest_mem K v hv
    obtain ⟨a1, a2, a3, a4, a5, a6, a7, a8⟩ := (Ch.okSpan_iff x).1 (hok x hx)
    omega
theorem words_put {K : List Ch.Span} (G : Sg.Good K) : Bn.put (List.replicate (Sg.words K).length 2) (Sg.words K) = (Sg.file K, 0) := by
  rw [Gl.put_rep (by decide) (fun v hv => He.fits2 (words_in G v hv).1 (words_in G v hv).2)]
  rfl

set_option maxRecDepth 100000 in
set_option maxHeartbeats 3200000 in
theorem sput_ok (v : Value) (l : List Ch.Span) (w : World) (h : SRow w v l) (hm : (Sg.manyOf l).2.2 = 0) : Calls Try.prog 11 #[v] w fun e w' => e = strErr (Sg.put l) ∧ Lo w w' := by
  have HF := Lib.hid (fitted_any v l w h)
  have hfit : Sg.fit l = (Sg.whole l, Sg.glyphs (Sg.whole l), 0) := by unfold Sg.fit; rw [if_pos hm]
  have hput : Sg.put l = (Sg.file (Sg.whole l), 0) := by unfold Sg.put; rw [if_neg (by rw [hm]; simp)]
  have G := Sg.good_whole hm
  rw [hfit] at HF
  rw [hput]
  clear hfit hput
  generalize Sg.whole l = K at *
  have hone := G.one
  have hsize := G.size
  have hwl := Sg.words_len K
  have HLn := Lib.hid (fun W => length_any K.length (Sg.glyphs K) W (by omega) (by omega))
  have hmk := fun W => repeat_made 0 (8 + 4 * K.length + Sg.glyphs K) (by omega) W
  have HC := Lib.hid (fun (B : Nat) (W : World) => cut_any B 0 (8 + 3 * K.length + (K.length + Sg.glyphs K)) K.length (K.length + Sg.glyphs K) W hone (by omega) (Nat.le_refl _) (by omega))
  have HH := Lib.hid (fun (B : Nat) (w0 W : World) h0 hB (hA : ArrAt W B 3 (List.replicate (8 + 4 * K.length + Sg.glyphs K) 0)) => fillHead_any K.length (Sg.glyphs K) B 3 _ w0 W h0 hB hA (by rw [List.length_replicate]; omega) hone (by omega) (by omega))
  rw [← Sg.stage_zero] at HH
  have HBd := Lib.hid (fun (B : Nat) (w0 W : World) h0 hB (hA : ArrAt W B 3 (Sg.stage K 0)) => builder_any B 3 K.length (K.length + Sg.glyphs K) (Sg.stage K 0) w0 W h0 hB hA)
  have HSp := Lib.hid (fun (k : Nat) (hk : k < K.length) => (show Ch.okSpan (K.getD k Ch.zs) = true ∧ (K.getD k Ch.zs).to ≤ 65535 from ⟨(Ch.chain_mem G.chain _ (Ch.getD_mem hk)).1, G.upto _ (Ch.getD_mem hk)⟩))
  have HLay := Lib.hid (fun (k : Nat) (hk : k < K.length) => lay_stage hk (HSp.out k hk).1 (HSp.out k hk).2)
  have HTk := Lib.hid (fun (k : Nat) (hk : k < K.length) => (show Sg.glyphs (K.take k) + Sg.wid (K.getD k Ch.zs) ≤ Sg.glyphs K by rw [← Sg.glyphs_step hk]; exact Sg.glyphs_take K (k + 1)))
  have HStp := Lib.hid (fun (k : Nat) (hk : k < K.length) => Sg.glyphs_step hk)
  have HSl := Lib.hid (fun (k : Nat) => Sg.stage_len K k)
  have HAd := Lib.hid (fun (k : Nat) (hk : k < K.length) (T I X : Nat) (B : Nat) (w0 W : World) hst => add_any (HSp.out k hk).1 B 3 T I X K.length (K.length + Sg.glyphs K) k (K.length + Sg.glyphs (K.take k)) (Sg.stage K k) w0 W hk (by have := HTk.out k hk; omega) (by rw [Sg.stage_len]; omega) (by omega) (by omega) hst)
  have HEnd : Hid (Sg.stage K K.length = Sg.words K) := Lib.hid (Sg.stage_end K)
  have HM := Lib.hid (fun W => srepeated_any 2 (8 + 4 * K.length + Sg.glyphs K) W (by omega))
  have HP := Lib.hid (fun (v u : Value) (W : World) (hv : Row W v (List.replicate (8 + 4 * K.length + Sg.glyphs K) 2)) (hu : Row W u (Sg.words K)) => (show Calls Try.prog 19 #[v, u] W fun e w' => e = strErr (Sg.file K, 0) ∧ Lo W w' by
    rw [← words_put G, ← hwl.symm] at *
    exact put_any _ _ v u W (by rw [hwl]; exact hv) hu (by rw [List.length_replicate]; omega)))
  have eN : 8 + 3 * K.length + (K.length + Sg.glyphs K) = 8 + 4 * K.length + Sg.glyphs K := by omega
  simp only [Nat.zero_add, eN] at HC
  have hdiv : ((16 + 8 * K.length + 2 * Sg.glyphs K : Nat) : Int) / 2 = ((8 + 4 * K.length + Sg.glyphs K : Nat) : Int) := by omega
  have HTk0 : Hid (Sg.glyphs (K.take 0) = 0) := Lib.hid rfl
  have HNb : Hid (8 + 4 * K.length + Sg.glyphs K ≤ 100000) := Lib.hid (by omega)
  have hnb : K.length ≤ 10000 := by omega
  clear eN G hwl hm HTk
  unfold GotFit at HF
  unfold aggT5 at HC
  dsimp only at HF
  generalize 8 + 4 * K.length + Sg.glyphs K = N at *
  generalize 16 + 8 * K.length + 2 * Sg.glyphs K = z at *
  generalize Sg.glyphs K = g at *
  generalize hn : K.length = n at *
  have HN := Lib.hid hn
  clear hn h
  go_enter Try.func11, Try.ntmps11
  go_wp2_with fail
  refine HF.out.mono ?_
  rintro e w2 ⟨q, d, rfl, hrow, lo⟩
  have HL := Lib.hid lo
  have HK := Lib.hid hrow
  clear lo hrow HF
  go_wp2_with fail
  refine (HLn.out _).mono ?_
  rintro e w3 ⟨rfl, rfl⟩
  have HA3 : Hid (ArrAt (w2.alloc (.cells (fill 0 N 0).toArray 3)) w2.heap.size 3 (List.replicate N 0)) := Lib.hid (by
    unfold ArrAt
    rw [new_block, fill_zero, List.map_replicate])
  have HL3 := Lib.hid ((Lo.refl w2).alloc (.cells (fill 0 N 0).toArray 3))
  have hBlt : w2.heap.size < (w2.alloc (.cells (fill 0 N 0).toArray 3)).heap.size := by simp
  generalize hB : w2.heap.size = B at *
  go_wp2_with fail
  refine (HC.out B _).mono ?_
  rintro e w4 ⟨rfl, lo⟩
  have hTb : B < w4.heap.size := Nat.lt_of_lt_of_le hBlt lo.size
  have HL5 := Lib.hid ((HL3.out.trans lo).alloc (.cells #[.slice (some ⟨B, 0, none⟩) 7 7, .slice (some ⟨B, 7, none⟩) n n, .slice (some ⟨B, 8 + n, none⟩) n n, .slice (some ⟨B, 8 + 2 * n, none⟩) n n, .slice (some ⟨B, 8 + 3 * n, none⟩) (n + g) (n + g)] 44))
  have HA5 := Lib.hid ((HA3.out.lo lo).lo ((Lo.refl w4).alloc (.cells #[.slice (some ⟨B, 0, none⟩) 7 7, .slice (some ⟨B, 7, none⟩) n n, .slice (some ⟨B, 8 + n, none⟩) n n, .slice (some ⟨B, 8 + 2 * n, none⟩) n n, .slice (some ⟨B, 8 + 3 * n, none⟩) (n + g) (n + g)] 44)))
  have hnb := new_block w4 (.cells #[.slice (some ⟨B, 0, none⟩) 7 7, .slice (some ⟨B, 7, none⟩) n n, .slice (some ⟨B, 8 + n, none⟩) n n, .slice (some ⟨B, 8 + 2 * n, none⟩) n n, .slice (some ⟨B, 8 + 3 * n, none⟩) (n + g) (n + g)] 44)
  have hsz4 : (w4.alloc (.cells #[.slice (some ⟨B, 0, none⟩) 7 7, .slice (some ⟨B, 7, none⟩) n n, .slice (some ⟨B, 8 + n, none⟩) n n, .slice (some ⟨B, 8 + 2 * n, none⟩) n n, .slice (some ⟨B, 8 + 3 * n, none⟩) (n + g) (n + g)] 44)).heap.size = w4.heap.size + 1 := by simp
  have HNB := Lib.hid hnb
  obtain ⟨⟨s0, s1, s2, s3, s4⟩, _⟩ := five_at hnb
  have HH1 := Lib.hid (HH.out B w2 _ HL5.out (Nat.le_of_eq hB) HA5.out)
  clear hnb lo HC HH
  go_wp2_with fail
  refine HH1.out.mono ?_
  rintro e w6 ⟨rfl, hA6, hL6, hO6⟩
  have HT6 := Lib.hid ((hO6 w4.heap.size (by omega) (by omega)).trans HNB.out)
  have HBd1 := Lib.hid (HBd.out B w2 w6 hL6 (Nat.le_of_eq hB) hA6)
  clear hA6 hL6 hO6 HH1 HNB s0 s1 s2 s3 s4
  obtain ⟨⟨s0, s1, s2, s3, s4⟩, _⟩ := five_at HT6.out
  go_wp2_with fail
  refine HBd1.out.mono ?_
  rintro e w7 ⟨T, I, X, rfl, hst⟩
  have HSt := Lib.hid hst
  clear hst HBd1 s0 s1 s2 s3 s4 HT6
  go_wp2_with fail
  go_loopw [12, 43] (fun _ s43 W => ∃ k : Nat, k ≤ n ∧ s43 = .int .i64 k ∧ Hid (St B 3 (Sg.stage K k) T I X (.slice (some ⟨B, 0, none⟩) 7 7) (.slice (some ⟨B, 7, none⟩) n n) (.slice (some ⟨B, 8 + n, none⟩) n n) (.slice (some ⟨B, 8 + 2 * n, none⟩) n n) (.slice (some ⟨B, 8 + 3 * n, none⟩) (n + g) (n + g)) (k : Int) ((n + Sg.glyphs (K.take k) : Nat) : Int) w2 W)) (fun _ s43 _ => n - (intOf s43).toNat)
  case atStart => exact ⟨0, Nat.zero_le _, rfl, Lib.hid (by rw [HTk0.out]; exact HSt.out)⟩
  case round =>
    obtain ⟨k, hk, rfl, HS1⟩ := hrel
    by_cases hlt : k < n
    · have hk' : k < K.length := by rw [HN.out]; exact hlt
      obtain ⟨b, off, rfl, r0, r1, r2, r3⟩ := SRow.at4 (RowK.lo HK.out HS1.out.lo) (Ch.getD_some hk')
      clear hk'
      have HLk := Lib.hid (HLay.out k hlt)
      have HStk := Lib.hid (HStp.out k hlt)
      have HS2 := Lib.hid (HS1.out.to ((Lo.refl wr).alloc (.cells #[.int .i64 (K.getD k Ch.zs).fr, .int .i64 (K.getD k Ch.zs).to, .int .i64 (K.getD k Ch.zs).gl, .int .i64 (K.getD k Ch.zs).st] 41)))
      have HA1 := Lib.hid (HAd.out k hlt T I X B w2 _ HS2.out)
      rw [HLk.out] at HA1
      unfold aggS at HA1
      generalize K.getD k Ch.zs = x at *
      go_wp2_with fail
      refine HA1.out.mono ?_
      rintro e w8 ⟨rfl, hst⟩
      have HS3 := Lib.hid hst
      clear hst HA1 HS2 r0 r1 r2 r3
      go_wp2_with fail
      go_roundw
      case rel => exact ⟨k + 1, by omega, by go_num, Lib.hid (by rw [HStk.out, ← Nat.add_assoc]; exact HS3.out)⟩
      case measure => simp [intOf]; omega
    · obtain rfl : k = n := by omega
      go_wp2_with fail
      refine (HM.out _).mono ?_
      rintro e w8 ⟨p8, c8, rfl, hr8, lo⟩
      have HA8 := Lib.hid (HS1.out.arr.lo lo)
      have HL8 := Lib.hid (HS1.out.lo.trans lo)
      have HR8 := Lib.hid hr8
      clear lo hr8
      have HW8 : Hid (Row w8 (.slice (some ⟨B, 0, none⟩) N N) (Sg.words K)) := Lib.hid (by
        have h1 := HA8.out.row (n := N) (cap := N) (by rw [HSl.out]; exact Nat.le_refl _) (Nat.le_refl _) (by have := HNb.out; omega)
        rwa [List.take_of_length_le (by rw [HSl.out]; exact Nat.le_refl _), HEnd.out] at h1)
      have HP1 := Lib.hid (HP.out _ _ w8 HR8.out HW8.out)
      unfold strErr at HP1
      dsimp only at HP1
      clear HP HM HR8 HA8
      go_wp2_with fail
      refine HP1.out.mono ?_
      rintro e w9 ⟨rfl, lo⟩
      have HL9 := Lib.hid (HL.out.trans (HL8.out.trans lo))
      clear lo HP1
      go_wp2_with fail
      go_ret2
      exact ⟨rfl, HL9.out⟩

set_option maxRecDepth 100000 in
set_option maxHeartbeats 800000 in
/-- segment.Put. -/
theorem sput_any (v : Value) (l : List Ch.Span) (w : World) (h : SRow w v l) : Calls Try.prog 11 #[v] w fun e w' => e = strErr (Sg.put l) ∧ Lo w w' := by
  by_cases hm : (Sg.manyOf l).2.2 = 0
  · exact sput_ok v l w h hm
  · have HF := Lib.hid (fitted_any v l w h)
    have hfit : Sg.fit l = ([], 0, (Sg.manyOf l).2.2) := by unfold Sg.fit; rw [if_neg hm]
    have hput : Sg.put l = ([], (Sg.manyOf l).2.2) := by unfold Sg.put; rw [if_pos hm]
    rw [hfit] at HF
    rw [hput]
    clear hfit hput h
    generalize (Sg.manyOf l).2.2 = k at *
    unfold GotFit at HF
    unfold strErr
    dsimp only at HF ⊢
    go_enter Try.func11, Try.ntmps11
    go_wp2_with fail
    refine HF.out.mono ?_
    rintro e w2 ⟨q, d, rfl, _, lo⟩
    have HL := Lib.hid lo
    clear lo HF
    go_wp2_with fail
    go_ret2
    exact ⟨rfl, HL.out⟩
end Go.Proofs.Ytfnpindohoflaaa
