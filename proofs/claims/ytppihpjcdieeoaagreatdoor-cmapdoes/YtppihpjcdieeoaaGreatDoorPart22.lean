/-
  Facts that the walks rest on: SgPutW, GrPut, ChLook. No conditions beyond those stated.
-/
import Derived.Test.YtppihpjcdieeoaaGreatDoorPart20
import Derived.Test.YtppihpjcdieeoaaGreatDoorPart21
import Derived.Test.YtppihpjcdieeoaaGreatDoorPart19
import Derived.Test.YtppihpjcdieeoaaGreatDoorGrSplit
import Derived.Test.YtppihpjcdieeoaaGreatDoorPart08
import Derived.Test.YtppihpjcdieeoaaGreatDoorPart18
import Derived.Test.YtppihpjcdieeoaaGreatDoorPart10
import Derived.Deep.RegionWith
/-
  Contract of segment.Put. No conditions beyond those stated.
-/
namespace Go.Proofs.YtppihpjcdieeoaaGreatDoor
open Go.RowKit

theorem lay_stage {K : List Ch.Span} {k : Nat} (hk : k < K.length) (hok : Ch.okSpan (K.getD k Ch.zs) = true) (hto : (K.getD k Ch.zs).to ≤ 65535) :
    lay1 (K.getD k Ch.zs) K.length k (K.length + Sg.glyphs (K.take k)) (Sg.stage K k) = Sg.stage K (k + 1) := by
  obtain ⟨a1, a2, a3, a4, a5, a6, a7, a8⟩ := (Ch.okSpan_iff _).1 hok
  have e1 := Sg.at1_zs hk
  have wt := Sg.w_to K k hk
  have wf := Sg.w_fr K k hk
  have wd := Sg.w_de K k hk
  have wo := Sg.w_of K k hk
  have wr := fun t ht => Sg.w_rest K k t hk ht
  have hst := Sg.glyphs_step hk
  have htk := Sg.glyphs_take K (k + 1)
  have hlen := Sg.words_len K
  unfold Sg.behind at wr
  unfold Sg.offs Sg.behind at wo
  rw [e1] at wt wf wd wo wr
  have hde := fun h => Sg.delta_mod (x := K.getD k Ch.zs) h a6 a7 a1 (by omega)
  have hde0 : Sg.isRow (K.getD k Ch.zs) = true → Sg.delta (K.getD k Ch.zs) = 0 := fun h => by unfold Sg.delta; rw [if_pos h]
  have hwid : Sg.isRow (K.getD k Ch.zs) = false → Sg.wid (K.getD k Ch.zs) = 0 := fun h => by unfold Sg.wid; rw [if_neg (by rw [h]; simp)]
  have hd0 : ∀ j, Sg.done K k j ↔ (j < 7 ∨ (7 ≤ j ∧ j < 7 + k) ∨ (8 + K.length ≤ j ∧ j < 8 + K.length + k) ∨ (8 + 2 * K.length ≤ j ∧ j < 8 + 2 * K.length + k) ∨ (8 + 3 * K.length ≤ j ∧ j < 8 + 3 * K.length + k) ∨ (8 + 4 * K.length ≤ j ∧ j < 8 + 4 * K.length + Sg.glyphs (K.take k))) := fun j => Iff.rfl
  have hd1 : ∀ j, Sg.done K (k + 1) j ↔ (j < 7 ∨ (7 ≤ j ∧ j < 7 + (k + 1)) ∨ (8 + K.length ≤ j ∧ j < 8 + K.length + (k + 1)) ∨ (8 + 2 * K.length ≤ j ∧ j < 8 + 2 * K.length + (k + 1)) ∨ (8 + 3 * K.length ≤ j ∧ j < 8 + 3 * K.length + (k + 1)) ∨ (8 + 4 * K.length ≤ j ∧ j < 8 + 4 * K.length + Sg.glyphs (K.take (k + 1)))) := fun j => Iff.rfl
  unfold Sg.stage lay1
  generalize Sg.words K = W at *
  generalize K.getD k Ch.zs = x at *
  generalize K.length = n at *
  generalize Sg.glyphs (K.take (k + 1)) = g1 at *
  generalize Sg.glyphs (K.take k) = g0 at *
  cases hr : Sg.isRow x with
  | true =>
    rw [if_pos rfl]
    rw [hr, if_pos rfl] at wo
    rw [hde0 hr] at wd
    dsimp only
    rw [Sg.tab_set, Sg.tab_set, Sg.tab_set, Sg.tab_splice _ _ (by omega)]
    refine Sg.tab_congr fun j hj => ?_
    by_cases c1 : 8 + 3 * n + (n + g0) ≤ j ∧ j < 8 + 3 * n + (n + g0) + Sg.wid x
    · rw [if_pos c1, if_pos ((hd1 j).2 (by omega))]
      have := wr (j - (8 + 4 * n + g0)) (by omega)
      rw [show 8 + 4 * n + g0 + (j - (8 + 4 * n + g0)) = j by omega] at this
      exact this.symm
    · rw [if_neg c1]
      by_cases c2 : j = 8 + 3 * n + k
      · subst c2
        rw [if_pos rfl, if_pos ((hd1 _).2 (by omega)), wo]
        omega
      · rw [if_neg c2]
        by_cases c3 : j = 7 + k
        · subst c3
          rw [if_pos rfl, if_pos ((hd1 _).2 (by omega)), wt]
        · rw [if_neg c3]
          by_cases c4 : j = 8 + n + k
          · subst c4
            rw [if_pos rfl, if_pos ((hd1 _).2 (by omega)), wf]
          · rw [if_neg c4]
            by_cases c5 : j = 8 + 2 * n + k
            · subst c5
              rw [if_pos ((hd1 _).2 (by omega)), wd, if_neg (fun h => by have := (hd0 _).1 h; omega)]
            · by_cases c6 : Sg.done K k j
              · rw [if_pos c6, if_pos ((hd1 _).2 (by have := (hd0 _).1 c6; omega))]
              · rw [if_neg c6, if_neg (fun h => c6 ((hd0 _).2 (by have := (hd1 _).1 h; omega)))]
  | false =>
    rw [if_neg (by simp)]
    rw [hr, if_neg (by simp)] at wo
    rw [hde hr] at wd
    have hw0 := hwid hr
    rw [Sg.tab_set, Sg.tab_set, Sg.tab_set]
    refine Sg.tab_congr fun j hj => ?_
    by_cases c2 : j = 8 + 2 * n + k
    · subst c2
      rw [if_pos rfl, if_pos ((hd1 _).2 (by omega)), wd]
    · rw [if_neg c2]
      by_cases c3 : j = 7 + k
      · subst c3
        rw [if_pos rfl, if_pos ((hd1 _).2 (by omega)), wt]
      · rw [if_neg c3]
        by_cases c4 : j = 8 + n + k
        · subst c4
          rw [if_pos rfl, if_pos ((hd1 _).2 (by omega)), wf]
        · rw [if_neg c4]
          by_cases c5 : j = 8 + 3 * n + k
          · subst c5
            rw [if_pos ((hd1 _).2 (by omega)), wo, if_neg (fun h => by have := (hd0 _).1 h; omega)]
          · by_cases c6 : Sg.done K k j
            · rw [if_pos c6, if_pos ((hd1 _).2 (by have := (hd0 _).1 c6; omega))]
            · rw [if_neg c6, if_neg (fun h => c6 ((hd0 _).2 (by have := (hd1 _).1 h; omega)))]

theorem rest_mem : ∀ (K : List Ch.Span) (v : Int), v ∈ Sg.rest K → ∃ x ∈ K, v = x.gl
  | [], v, h => by simp [Sg.rest] at h
  | x :: r, v, h => by
    rw [Sg.rest, List.mem_append] at h
    rcases h with h | h
    · exact ⟨x, by simp, (List.mem_replicate.1 h).2⟩
    · obtain ⟨y, hy, e⟩ := rest_mem r v h
      exact ⟨y, by simp [hy], e⟩
theorem words_in {K : List Ch.Span} (G : Sg.Good K) : ∀ v ∈ Sg.words K, 0 ≤ v ∧ v ≤ 65535 := by
  have hok : ∀ x ∈ K, Ch.okSpan x = true := fun x hx => (Ch.chain_mem G.chain x hx).1
  have hone := G.one
  have hsize := G.size
  obtain ⟨t, e1, e2, e3, e4, e5⟩ := Sg.pow2_is (n := K.length) (by omega) (by omega)
  intro v hv
  unfold Sg.words at hv
  simp only [List.mem_append, List.mem_map, List.mem_range, List.mem_singleton] at hv
  rcases hv with (((((hv | ⟨x, hx, rfl⟩) | rfl) | ⟨x, hx, rfl⟩) | ⟨x, hx, rfl⟩) | ⟨j, hj, rfl⟩) | hv
  · unfold Sg.hd at hv
    rw [e1] at hv
    simp only [List.mem_cons, List.not_mem_nil, or_false] at hv
    omega
  · obtain ⟨a1, a2, _⟩ := (Ch.okSpan_iff x).1 (hok x hx)
    have := G.upto x hx
    omega
  · omega
  · obtain ⟨a1, a2, _⟩ := (Ch.okSpan_iff x).1 (hok x hx)
    have := G.upto x hx
    omega
  · obtain ⟨a1, a2, a3, a4, a5, a6, a7, a8⟩ := (Ch.okSpan_iff x).1 (hok x hx)
    have := G.upto x hx
    unfold Sg.delta
    by_cases h : Sg.isRow x = true
    · rw [if_pos h]; omega
    · rw [if_neg h]; exact (Sg.plane_back a6 a7 a1 (by omega)).2
  · have := Sg.behind_le hj
    unfold Sg.offs
    by_cases h : Sg.isRow (Sg.at1 K j) = true
    · rw [if_pos h]; omega
    · rw [if_neg h]; omega
  · obtain ⟨x, hx, rfl⟩ := rest_mem K v hv
    obtain ⟨a1, a2, a3, a4, a5, a6, a7, a8⟩ := (Ch.okSpan_iff x).1 (hok x hx)
    omega
theorem words_put {K : List Ch.Span} (G : Sg.Good K) : Bn.put (List.replicate (Sg.words K).length 2) (Sg.words K) = (Sg.file K, 0) := by
  rw [Gl.put_rep (by decide) (fun v hv => He.fits2 (words_in G v hv).1 (words_in G v hv).2)]
  rfl

set_option maxRecDepth 100000 in
set_option maxHeartbeats 3200000 in
theorem sput_ok (v : Value) (l : List Ch.Span) (w : World) (h : SRow w v l) (hm : (Sg.manyOf l).2.2 = 0) : Calls Tryz.prog 50 #[v] w fun e w' => e = strErr (Sg.put l) ∧ Lo w w' := by
  have HF := Lib.hid (fitted_any v l w h)
  have hfit : Sg.fit l = (Sg.whole l, Sg.glyphs (Sg.whole l), 0) := by unfold Sg.fit; rw [if_pos hm]
  have hput : Sg.put l = (Sg.file (Sg.whole l), 0) := by unfold Sg.put; rw [if_neg (by rw [hm]; simp)]
  have G := Sg.good_whole hm
  rw [hfit] at HF
  rw [hput]
  clear hfit hput
  generalize Sg.whole l = K at *
  have hone := G.one
  have hsize := G.size
  have hwl := Sg.words_len K
  have HLn := Lib.hid (fun W => length_any K.length (Sg.glyphs K) W (by omega) (by omega))
  have hmk := fun W => repeat_made 0 (8 + 4 * K.length + Sg.glyphs K) (by omega) W
  have HC := Lib.hid (fun (B : Nat) (W : World) => cut_any B 0 (8 + 3 * K.length + (K.length + Sg.glyphs K)) K.length (K.length + Sg.glyphs K) W hone (by omega) (Nat.le_refl _) (by omega))
  have HH := Lib.hid (fun (B : Nat) (w0 W : World) h0 hB (hA : ArrAt W B 3 (List.replicate (8 + 4 * K.length + Sg.glyphs K) 0)) => fillHead_any K.length (Sg.glyphs K) B 3 _ w0 W h0 hB hA (by rw [List.length_replicate]; omega) hone (by omega) (by omega))
  rw [← Sg.stage_zero] at HH
  have HBd := Lib.hid (fun (B : Nat) (w0 W : World) h0 hB (hA : ArrAt W B 3 (Sg.stage K 0)) => builder_any B 3 K.length (K.length + Sg.glyphs K) (Sg.stage K 0) w0 W h0 hB hA)
  have HSp := Lib.hid (fun (k : Nat) (hk : k < K.length) => (show Ch.okSpan (K.getD k Ch.zs) = true ∧ (K.getD k Ch.zs).to ≤ 65535 from ⟨(Ch.chain_mem G.chain _ (Ch.getD_mem hk)).1, G.upto _ (Ch.getD_mem hk)⟩))
  have HLay := Lib.hid (fun (k : Nat) (hk : k < K.length) => lay_stage hk (HSp.out k hk).1 (HSp.out k hk).2)
  have HTk := Lib.hid (fun (k : Nat) (hk : k < K.length) => (show Sg.glyphs (K.take k) + Sg.wid (K.getD k Ch.zs) ≤ Sg.glyphs K by rw [← Sg.glyphs_step hk]; exact Sg.glyphs_take K (k + 1)))
  have HStp := Lib.hid (fun (k : Nat) (hk : k < K.length) => Sg.glyphs_step hk)
  have HSl := Lib.hid (fun (k : Nat) => Sg.stage_len K k)
  have HAd := Lib.hid (fun (k : Nat) (hk : k < K.length) (T I X : Nat) (B : Nat) (w0 W : World) hst => add_any (HSp.out k hk).1 B 3 T I X K.length (K.length + Sg.glyphs K) k (K.length + Sg.glyphs (K.take k)) (Sg.stage K k) w0 W hk (by have := HTk.out k hk; omega) (by rw [Sg.stage_len]; omega) (by omega) (by omega) hst)
  have HEnd : Hid (Sg.stage K K.length = Sg.words K) := Lib.hid (Sg.stage_end K)
  have HM := Lib.hid (fun W => srepeated_any 2 (8 + 4 * K.length + Sg.glyphs K) W (by omega))
  have HP := Lib.hid (fun (v u : Value) (W : World) (hv : Row W v (List.replicate (8 + 4 * K.length + Sg.glyphs K) 2)) (hu : Row W u (Sg.words K)) => (show Calls Tryz.prog 37 #[v, u] W fun e w' => e = strErr (Sg.file K, 0) ∧ Lo W w' by
    rw [← words_put G, ← hwl.symm] at *
    exact put_any _ _ v u W (by rw [hwl]; exact hv) hu (by rw [List.length_replicate]; omega)))
  have eN : 8 + 3 * K.length + (K.length + Sg.glyphs K) = 8 + 4 * K.length + Sg.glyphs K := by omega
  simp only [Nat.zero_add, eN] at HC
  have hdiv : ((16 + 8 * K.length + 2 * Sg.glyphs K : Nat) : Int) / 2 = ((8 + 4 * K.length + Sg.glyphs K : Nat) : Int) := by omega
  have HTk0 : Hid (Sg.glyphs (K.take 0) = 0) := Lib.hid rfl
  have HNb : Hid (8 + 4 * K.length + Sg.glyphs K ≤ 100000) := Lib.hid (by omega)
  have hnb : K.length ≤ 10000 := by omega
  clear eN G hwl hm HTk
  unfold GotFit at HF
  unfold aggT5 at HC
  dsimp only at HF
  generalize 8 + 4 * K.length + Sg.glyphs K = N at *
  generalize 16 + 8 * K.length + 2 * Sg.glyphs K = z at *
  generalize Sg.glyphs K = g at *
  generalize hn : K.length = n at *
  have HN := Lib.hid hn
  clear hn h
  go_enter Tryz.func50, Tryz.ntmps50
  go_wp2_with fail
  refine HF.out.mono ?_
  rintro e w2 ⟨q, d, rfl, hrow, lo⟩
  have HL := Lib.hid lo
  have HK := Lib.hid hrow
  clear lo hrow HF
  go_wp2_with fail
  refine (HLn.out _).mono ?_
  rintro e w3 ⟨rfl, rfl⟩
  have HA3 : Hid (ArrAt (w2.alloc (.cells (fill 0 N 0).toArray 3)) w2.heap.size 3 (List.replicate N 0)) := Lib.hid (by
    unfold ArrAt
    rw [new_block, fill_zero, List.map_replicate])
  have HL3 := Lib.hid ((Lo.refl w2).alloc (.cells (fill 0 N 0).toArray 3))
  have hBlt : w2.heap.size < (w2.alloc (.cells (fill 0 N 0).toArray 3)).heap.size := by simp
  generalize hB : w2.heap.size = B at *
  go_wp2_with fail
  refine (HC.out B _).mono ?_
  rintro e w4 ⟨rfl, lo⟩
  have hTb : B < w4.heap.size := Nat.lt_of_lt_of_le hBlt lo.size
  have HL5 := Lib.hid ((HL3.out.trans lo).alloc (.cells #[.slice (some ⟨B, 0, none⟩) 7 7, .slice (some ⟨B, 7, none⟩) n n, .slice (some ⟨B, 8 + n, none⟩) n n, .slice (some ⟨B, 8 + 2 * n, none⟩) n n, .slice (some ⟨B, 8 + 3 * n, none⟩) (n + g) (n + g)] 106))
  have HA5 := Lib.hid ((HA3.out.lo lo).lo ((Lo.refl w4).alloc (.cells #[.slice (some ⟨B, 0, none⟩) 7 7, .slice (some ⟨B, 7, none⟩) n n, .slice (some ⟨B, 8 + n, none⟩) n n, .slice (some ⟨B, 8 + 2 * n, none⟩) n n, .slice (some ⟨B, 8 + 3 * n, none⟩) (n + g) (n + g)] 106)))
  have hnb := new_block w4 (.cells #[.slice (some ⟨B, 0, none⟩) 7 7, .slice (some ⟨B, 7, none⟩) n n, .slice (some ⟨B, 8 + n, none⟩) n n, .slice (some ⟨B, 8 + 2 * n, none⟩) n n, .slice (some ⟨B, 8 + 3 * n, none⟩) (n + g) (n + g)] 106)
  have hsz4 : (w4.alloc (.cells #[.slice (some ⟨B, 0, none⟩) 7 7, .slice (some ⟨B, 7, none⟩) n n, .slice (some ⟨B, 8 + n, none⟩) n n, .slice (some ⟨B, 8 + 2 * n, none⟩) n n, .slice (some ⟨B, 8 + 3 * n, none⟩) (n + g) (n + g)] 106)).heap.size = w4.heap.size + 1 := by simp
  have HNB := Lib.hid hnb
  obtain ⟨⟨s0, s1, s2, s3, s4⟩, _⟩ := five_at hnb
  have HH1 := Lib.hid (HH.out B w2 _ HL5.out (Nat.le_of_eq hB) HA5.out)
  clear hnb lo HC HH
  go_wp2_with fail
  refine HH1.out.mono ?_
  rintro e w6 ⟨rfl, hA6, hL6, hO6⟩
  have HT6 := Lib.hid ((hO6 w4.heap.size (by omega) (by omega)).trans HNB.out)
  have HBd1 := Lib.hid (HBd.out B w2 w6 hL6 (Nat.le_of_eq hB) hA6)
  clear hA6 hL6 hO6 HH1 HNB s0 s1 s2 s3 s4
  obtain ⟨⟨s0, s1, s2, s3, s4⟩, _⟩ := five_at HT6.out
  go_wp2_with fail
  refine HBd1.out.mono ?_
  rintro e w7 ⟨T, I, X, rfl, hst⟩
  have HSt := Lib.hid hst
  clear hst HBd1 s0 s1 s2 s3 s4 HT6
  go_wp2_with fail
  go_loopw [12, 43] (fun _ s43 W => ∃ k : Nat, k ≤ n ∧ s43 = .int .i64 k ∧ Hid (St B 3 (Sg.stage K k) T I X (.slice (some ⟨B, 0, none⟩) 7 7) (.slice (some ⟨B, 7, none⟩) n n) (.slice (some ⟨B, 8 + n, none⟩) n n) (.slice (some ⟨B, 8 + 2 * n, none⟩) n n) (.slice (some ⟨B, 8 + 3 * n, none⟩) (n + g) (n + g)) (k : Int) ((n + Sg.glyphs (K.take k) : Nat) : Int) w2 W)) (fun _ s43 _ => n - (intOf s43).toNat)
  case atStart => exact ⟨0, Nat.zero_le _, rfl, Lib.hid (by rw [HTk0.out]; exact HSt.out)⟩
  case round =>
    obtain ⟨k, hk, rfl, HS1⟩ := hrel
    by_cases hlt : k < n
    · have hk' : k < K.length := by rw [HN.out]; exact hlt
      obtain ⟨b, off, rfl, r0, r1, r2, r3⟩ := SRow.at4 (RowK.lo HK.out HS1.out.lo) (Ch.getD_some hk')
      clear hk'
      have HLk := Lib.hid (HLay.out k hlt)
      have HStk := Lib.hid (HStp.out k hlt)
      have HS2 := Lib.hid (HS1.out.to ((Lo.refl wr).alloc (.cells #[.int .i64 (K.getD k Ch.zs).fr, .int .i64 (K.getD k Ch.zs).to, .int .i64 (K.getD k Ch.zs).gl, .int .i64 (K.getD k Ch.zs).st] 63)))
      have HA1 := Lib.hid (HAd.out k hlt T I X B w2 _ HS2.out)
      rw [HLk.out] at HA1
      unfold aggS at HA1
      generalize K.getD k Ch.zs = x at *
      go_wp2_with fail
      refine HA1.out.mono ?_
      rintro e w8 ⟨rfl, hst⟩
      have HS3 := Lib.hid hst
      clear hst HA1 HS2 r0 r1 r2 r3
      go_wp2_with fail
      go_roundw
      case rel => exact ⟨k + 1, by omega, by go_num, Lib.hid (by rw [HStk.out, ← Nat.add_assoc]; exact HS3.out)⟩
      case measure => simp [intOf]; omega
    · obtain rfl : k = n := by omega
      go_wp2_with fail
      refine (HM.out _).mono ?_
      rintro e w8 ⟨p8, c8, rfl, hr8, lo⟩
      have HA8 := Lib.hid (HS1.out.arr.lo lo)
      have HL8 := Lib.hid (HS1.out.lo.trans lo)
      have HR8 := Lib.hid hr8
      clear lo hr8
      have HW8 : Hid (Row w8 (.slice (some ⟨B, 0, none⟩) N N) (Sg.words K)) := Lib.hid (by
        have h1 := HA8.out.row (n := N) (cap := N) (by rw [HSl.out]; exact Nat.le_refl _) (Nat.le_refl _) (by have := HNb.out; omega)
        rwa [List.take_of_length_le (by rw [HSl.out]; exact Nat.le_refl _), HEnd.out] at h1)
      have HP1 := Lib.hid (HP.out _ _ w8 HR8.out HW8.out)
      unfold strErr at HP1
      dsimp only at HP1
      clear HP HM HR8 HA8
      go_wp2_with fail
      refine HP1.out.mono ?_
      rintro e w9 ⟨rfl, lo⟩
      have HL9 := Lib.hid (HL.out.trans (HL8.out.trans lo))
      clear lo HP1
      go_wp2_with fail
      go_ret2
      exact ⟨rfl, HL9.out⟩

set_option maxRecDepth 100000 in
set_option maxHeartbeats 800000 in
/-- segment.Put. -/
theorem sput_any (v : Value) (l : List Ch.Span) (w : World) (h : SRow w v l) : Calls Tryz.prog 50 #[v] w fun e w' => e = strErr (Sg.put l) ∧ Lo w w' := by
  by_cases hm : (Sg.manyOf l).2.2 = 0
  · exact sput_ok v l w h hm
  · have HF := Lib.hid (fitted_any v l w h)
    have hfit : Sg.fit l = ([], 0, (Sg.manyOf l).2.2) := by unfold Sg.fit; rw [if_neg hm]
    have hput : Sg.put l = ([], (Sg.manyOf l).2.2) := by unfold Sg.put; rw [if_pos hm]
    rw [hfit] at HF
    rw [hput]
    clear hfit hput h
    generalize (Sg.manyOf l).2.2 = k at *
    unfold GotFit at HF
    unfold strErr
    dsimp only at HF ⊢
    go_enter Tryz.func50, Tryz.ntmps50
    go_wp2_with fail
    refine HF.out.mono ?_
    rintro e w2 ⟨q, d, rfl, _, lo⟩
    have HL := Lib.hid lo
    clear lo HF
    go_wp2_with fail
    go_ret2
    exact ⟨rfl, HL.out⟩
end Go.Proofs.YtppihpjcdieeoaaGreatDoor
/-
  The contract of group.Put. No conditions beyond those stated.
-/
namespace Gp
open Bn He Ch Sg
theorem nums_mem : ∀ (K : List Span) (v : Int), v ∈ nums K → ∃ x ∈ K, v = x.fr ∨ v = x.to ∨ v = x.gl
  | [], v, h => by simp [nums] at h
  | x :: r, v, h => by
    simp only [nums, List.mem_cons] at h
    rcases h with h | h | h | h
    · exact ⟨x, by simp, .inl h⟩
    · exact ⟨x, by simp, .inr (.inl h)⟩
    · exact ⟨x, by simp, .inr (.inr h)⟩
    · obtain ⟨y, hy, h⟩ := nums_mem r v h
      exact ⟨y, by simp [hy], h⟩
theorem nums_fit {K : List Span} (hr : isL K = true) : ∀ v ∈ nums K, fits v 4 = true := fun v hv => by
  obtain ⟨x, hx, h⟩ := nums_mem K v hv
  obtain ⟨a1, a2, a3, a4, a5, a6, a7, a8⟩ := (okSpan_iff x).1 (isL_ok hr hx)
  exact fits4 (by omega) (by omega)
theorem head_nums (format m n : Int) : join [2, 2, 4, 4, 4] [format, 0, m, 0, n] = bytes format 2 ++ [0, 0] ++ bytes m 4 ++ [0, 0, 0, 0] ++ bytes n 4 := by
  have h2 : bytes 0 2 = [0, 0] := by decide
  have h4 : bytes 0 4 = [0, 0, 0, 0] := by decide
  simp only [join]
  rw [show Int.natAbs 2 = 2 from rfl, show Int.natAbs 4 = 4 from rfl, h2, h4]
  simp
theorem put_file {K : List Span} {format : Int} (hf : format = 12 ∨ format = 13) (hr : isL K = true) :
    Bn.put ([2, 2, 4, 4, 4] ++ List.replicate (3 * K.length) 4) ([format, 0, ((16 + 12 * K.length : Nat) : Int), 0, ((K.length : Nat) : Int)] ++ nums K) = (file K format, 0) := by
  have hn : K.length ≤ 65536 := by unfold isL at hr; simp only [Bool.and_eq_true, decide_eq_true_eq] at hr; exact hr.2
  have hz : isSize 4 = true := by decide
  unfold Bn.put
  rw [← nums_len, if_neg, if_neg]
  · rw [join_append _ _ _ _ (by simp), Gl.join_rep, head_nums]
    rfl
  · rw [allFit_append _ _ _ _ (by simp), Gl.allFit_rep, List.all_eq_true.2 (nums_fit hr)]
    simp only [allFit]
    rw [fits2 (v := format) (by omega) (by omega), fits2 (v := 0) (by omega) (by omega), fits4 (v := ((16 + 12 * K.length : Nat) : Int)) (by omega) (by omega), fits4 (v := 0) (by omega) (by omega), fits4 (v := ((K.length : Nat) : Int)) (by omega) (by omega)]
    simp
  · rw [allSizes_append, Gl.rep_sizes hz]
    rintro (h | h)
    · exact absurd h (by decide)
    · exact h (by simp)
end Gp
namespace Go.Proofs.YtppihpjcdieeoaaGreatDoor
open Go.RowKit

theorem own_lit5 (w : World) (base : Nat) (hb : base ≤ w.heap.size) (a b c d e : Int) : Own (w.alloc (.cells #[.int .i64 a, .int .i64 b, .int .i64 c, .int .i64 d, .int .i64 e] 3)) base (.slice (some ⟨w.heap.size, 0, none⟩) 5 5) [a, b, c, d, e] :=
  ⟨rfl, .inr ⟨w.heap.size, 5, _, rfl, hb, new_block w _, Nat.le_refl _, by unfold maxLen; omega, rfl, rfl⟩⟩

set_option maxHeartbeats 800000 in
theorem gput_arg (p : Option Addr) (n c : Nat) (format : Int) (w : World) (h : format ≠ 12 ∧ format ≠ 13) :
    Calls Tryz.prog 101 #[.slice p n c, .int .i64 format] w fun e w' => e = strErr ([], 1) ∧ Lo w w' := by
  have HS := Lib.hid (fun W => stepOf_any format W)
  unfold stepEnd at HS
  rw [if_neg h.1, if_neg h.2] at HS
  unfold strErr
  clear h
  go_enter Tryz.func101, Tryz.ntmps101
  go_wp2_with fail
  refine (HS.out _).mono ?_
  rintro e w1 ⟨rfl, rfl⟩
  go_wp2_with fail
  go_ret2
  exact ⟨rfl, Lo.refl _⟩

theorem stepOf_ok {f : Int} (h : f = 12 ∨ f = 13) (w : World) : Calls Tryz.prog 131 #[.int .i64 f] w fun e w' => e = .returned (.tuple #[.int .i64 (13 - f), .bool true]) ∧ w = w' := by
  have := (stepOf_any f w).mono (R' := fun e w' => e = stepEnd f ∧ w = w') (fun _ _ h => ⟨h.1, h.2.symm⟩)
  unfold stepEnd at this
  rcases h with rfl | rfl
  · exact this
  · exact this

set_option maxHeartbeats 800000 in
theorem gput_err (v : Value) (l : List Ch.Span) (format : Int) (w : World) (hr : SRow w v l) (h : format = 12 ∨ format = 13) (he : (Gp.split l (13 - format)).2 ≠ 0) :
    Calls Tryz.prog 101 #[v, .int .i64 format] w fun e w' => e = strErr ([], (Gp.split l (13 - format)).2) ∧ Lo w w' := by
  have HS := Lib.hid (stepOf_ok h)
  have HSp := Lib.hid (fun W (hW : SRow W v l) => gsplit_any l v (13 - format) W hW)
  obtain ⟨p, c, rfl, _⟩ := RowK.form hr
  have HR := Lib.hid hr
  unfold GotSp at HSp
  generalize Gp.split l (13 - format) = y at *
  obtain ⟨K, z⟩ := y
  dsimp only at *
  have hz : (z != 0) = true := by simpa using he
  unfold strErr
  clear h hr he
  go_enter Tryz.func101, Tryz.ntmps101
  go_wp2_with fail
  refine (HS.out _).mono ?_
  rintro e w1 ⟨rfl, rfl⟩
  go_wp2_with fail
  refine (HSp.out _ HR.out).mono ?_
  rintro e w2 ⟨p2, c2, rfl, _, lo⟩
  have HL := Lib.hid lo
  clear lo HSp HR HS
  go_wp2_with fail
  go_ret2
  exact ⟨rfl, HL.out⟩
set_option maxRecDepth 100000 in
set_option maxHeartbeats 3200000 in
theorem gput_ok (v : Value) (l : List Ch.Span) (format : Int) (w : World) (hr : SRow w v l) (h : format = 12 ∨ format = 13) (he : (Gp.split l (13 - format)).2 = 0) :
    Calls Tryz.prog 101 #[v, .int .i64 format] w fun e w' => e = strErr (Gp.file (Gp.split l (13 - format)).1 format, 0) ∧ Lo w w' := by
  have HS := Lib.hid (stepOf_ok h)
  have HSp := Lib.hid (fun W (hW : SRow W v l) => gsplit_any l v (13 - format) W hW)
  obtain ⟨p, c, rfl, _⟩ := RowK.form hr
  have HR := Lib.hid hr
  have hk := (Gp.split_right he).1
  have HPf := Lib.hid (Gp.put_file h hk)
  unfold GotSp at HSp
  generalize Gp.split l (13 - format) = y at *
  obtain ⟨K, z⟩ := y
  dsimp only at *
  subst he
  have hn : K.length ≤ 65536 := by unfold Ch.isL at hk; simp only [Bool.and_eq_true, decide_eq_true_eq] at hk; exact hk.2
  have HK := Lib.hid (fun (x : Ch.Span) (hx : x ∈ K) => Ch.isL_ok hk hx)
  have HNL : Hid (∀ k, k ≤ K.length → (Gp.nums (K.take k)).length = 3 * k) := Lib.hid (fun k hkk => by rw [Gp.nums_len, List.length_take]; omega)
  have HNS : Hid (∀ k, k < K.length → Gp.nums (K.take (k + 1)) = Gp.nums (K.take k) ++ [(K.getD k Ch.zs).fr, (K.getD k Ch.zs).to, (K.getD k Ch.zs).gl]) := Lib.hid (fun k hkk => Gp.nums_step hkk)
  have HNA : Hid (Gp.nums (K.take K.length) = Gp.nums K) := Lib.hid (by rw [List.take_length])
  have HN0 : Hid (Gp.nums (K.take 0) = []) := Lib.hid rfl
  have HXK : Hid (∀ k, k < K.length → K[k]? = some (K.getD k Ch.zs)) := Lib.hid (fun k hkk => by simp [List.getD, List.getElem?_eq_getElem hkk])
  have HNf := Lib.hid (Gp.nums_len K)
  obtain ⟨n, hnn⟩ : ∃ n, K.length = n := ⟨_, rfl⟩
  rw [hnn] at hn HSp HNL HNS HNA HXK HPf HNf
  have HNN := Lib.hid hnn
  have HLn := Lib.hid (fun W => glength_any (n : Int) W (by omega) (by omega))
  have HRp := Lib.hid (fun (v : Value) (W : World) (hW : Row W v [4]) => repeat_any 4 (3 * n) v W hW (by omega))
  rw [show ((3 * n : Nat) : Int) = 3 * (n : Int) by omega] at HRp
  have HH := Lib.hid headSizes_any
  have HCc := Lib.hid (fun (va vb : Value) (B : Nat) (W : World) h1 h2 (ha : Row W va [2, 2, 4, 4, 4]) (hb : Row W vb (List.replicate (3 * n) 4)) => concat_any [2, 2, 4, 4, 4] (List.replicate (3 * n) 4) va vb B W h1 h2 ha hb (by rw [List.length_replicate]; simp; omega))
  rw [List.length_replicate, show [(2 : Int), 2, 4, 4, 4].length = 5 from rfl] at HCc
  have HBp := Lib.hid (fun (va vb : Value) (W : World) (ha : Row W va ([2, 2, 4, 4, 4] ++ List.replicate (3 * n) 4)) (hb : Row W vb ([format, 0, ((16 + 12 * n : Nat) : Int), 0, (n : Int)] ++ Gp.nums K)) => put_any _ _ va vb W ha hb (by rw [List.length_append, List.length_replicate]; simp; omega))
  rw [HPf.out, show ((16 + 12 * n : Nat) : Int) = 16 + 12 * (n : Int) by omega] at HBp
  unfold strErr at *
  generalize Gp.file K format = fl at *
  have hform : format ≤ 13 ∧ 12 ≤ format := by omega
  clear h hr hk hnn HPf
  go_enter Tryz.func101, Tryz.ntmps101
  go_wp2_with fail
  refine (HS.out _).mono ?_
  rintro e w1 ⟨rfl, rfl⟩
  go_wp2_with fail
  refine (HSp.out _ HR.out).mono ?_
  rintro e w2 ⟨p2, c2, rfl, hr2, lo⟩
  have HL := Lib.hid lo
  have HR2 := Lib.hid hr2
  clear lo HSp HR HS hr2
  go_wp2_with fail
  refine (HLn.out _).mono ?_
  rintro e w3 ⟨rfl, rfl⟩
  have HO := Lib.hid (own_lit5 w2 w2.heap.size (Nat.le_refl _) format 0 (16 + 12 * (n : Int)) 0 (n : Int))
  have HL2 := Lib.hid ((Lo.refl w2).alloc (.cells #[.int .i64 format, .int .i64 0, .int .i64 (16 + 12 * (n : Int)), .int .i64 0, .int .i64 (n : Int)] 3))
  clear HLn
  go_wp2_with fail
  go_loopw [11, 41] (fun u i wr => ∃ (k t : Nat) (q : Option Addr) (d : Nat), k ≤ n ∧ u = .slice q t d ∧ i = .int .i64 (k : Int) ∧ Hid (t = 5 + 3 * k) ∧ Hid (Own wr w2.heap.size (.slice q t d) ([format, 0, 16 + 12 * (n : Int), 0, (n : Int)] ++ Gp.nums (K.take k))) ∧ Hid (Lo w2 wr))
    (fun _ i _ => n - (intOf i).toNat)
  case atStart => exact ⟨0, 5, _, _, Nat.zero_le _, rfl, rfl, Lib.hid rfl, Lib.hid (by rw [HN0.out, List.append_nil]; exact HO.out), HL2⟩
  case round =>
    obtain ⟨k, t, q, d, hk, rfl, rfl, HT, HO1, HL1⟩ := hrel
    by_cases hlt : k < n
    · have hx := HXK.out k hlt
      obtain ⟨b, off, rfl, d0, d1, d2, d3⟩ := SRow.at4 (RowK.lo HR2.out HL1.out) hx
      have HNs := Lib.hid (HNS.out k hlt)
      have HTL : Hid (([format, 0, 16 + 12 * (n : Int), 0, (n : Int)] ++ Gp.nums (K.take k)).length = t) := Lib.hid (by rw [List.length_append, HNL.out k hk, HT.out]; rfl)
      clear hx
      generalize K.getD k Ch.zs = x at *
      obtain ⟨fr, tt, gl, st⟩ := x
      dsimp only at d0 d1 d2 d3 HNs
      go_wp2_with (at_builtin; refine wpList_app _ rfl (.tmp 45) (.tmp 52) rfl w2.heap.size (.slice q t d) _ rfl (HO1.out.lo (((Lo.refl _).alloc _).alloc _)) _ [fr, tt, gl] rfl (row3 _ _ (by simp) fr tt gl) (by rw [HTL.out]; have := HT.out; simp; omega) (by have := HL1.out.size; simp; omega) ?_; intro q1 c1 w4 hown hlo; have HO3 := Lib.hid hown; have HL3 := Lib.hid (hlo w2 ((HL1.out.alloc _).alloc _) rfl); clear hown hlo; rw [HTL.out] at HO3 ⊢)
      go_roundw
      case rel => exact ⟨k + 1, _, q1, c1, by omega, by go_num, rfl, Lib.hid (by have := HT.out; omega), Lib.hid (by rw [HNs.out, ← List.append_assoc]; exact HO3.out), HL3⟩
      case measure => simp [intOf]; omega
    · obtain rfl : k = n := by omega
      have HO2 := HO1
      rw [HNA.out] at HO2
      have HLw := Lib.hid (Lo.trans HL.out HL1.out)
      have HNr := Lib.hid (Own.row HO2.out)
      clear HO HO1 HL1 HL2 HXK HNS HNL HNA HR2 HL HK
      go_wp2_with fail
      refine (HH.out _).mono ?_
      rintro e w5 ⟨rfl, rfl⟩
      have HR1 : Hid (Row ((wr.alloc (.cells #[.int .i64 2, .int .i64 2, .int .i64 4, .int .i64 4, .int .i64 4] 3)).alloc (.cells #[.int .i64 4] 3)) (.slice (some ⟨wr.heap.size + 1, 0, none⟩) 1 1) [4]) := Lib.hid (row1 _ _ (by simp) 4)
      have HH5 := Lib.hid (Row.lo (head_row wr) ((Lo.refl _).alloc (.cells #[.int .i64 4] 3)))
      have HL5 := Lib.hid (((Lo.refl wr).alloc (.cells #[.int .i64 2, .int .i64 2, .int .i64 4, .int .i64 4, .int .i64 4] 3)).alloc (.cells #[.int .i64 4] 3))
      clear HH
      go_wp2_with fail
      refine (HRp.out _ _ HR1.out).mono ?_
      rintro e w6 ⟨G, rfl, hfill, lo⟩
      have HF6 := Lib.hid (fill_row hfill (by omega))
      have HH6 := Lib.hid (Row.lo HH5.out lo)
      have HL6 := Lib.hid (Lo.trans HL5.out lo)
      clear hfill lo HR1 HH5 HL5 HRp
      obtain ⟨A, hA⟩ : ∃ A, Value.slice (some ⟨wr.heap.size, 0, none⟩) 5 5 = A := ⟨_, rfl⟩
      have hc0 : (w6.alloc (.cells #[.slice (some ⟨wr.heap.size, 0, none⟩) 5 5, .slice (some ⟨G, 0, none⟩) (3 * k) (3 * k)] 52)).cell? ⟨w6.heap.size, 0, none⟩ = some (.slice (some ⟨wr.heap.size, 0, none⟩) 5 5) := block_cell (i := 0) (new_block w6 _) rfl
      have hc1 : (w6.alloc (.cells #[.slice (some ⟨wr.heap.size, 0, none⟩) 5 5, .slice (some ⟨G, 0, none⟩) (3 * k) (3 * k)] 52)).cell? ⟨w6.heap.size, 1, none⟩ = some (.slice (some ⟨G, 0, none⟩) (3 * k) (3 * k)) := block_cell (i := 1) (new_block w6 _) rfl
      have HCd := Lib.hid (HCc.out _ _ _ _ hc0 hc1 (Row.lo HH6.out ((Lo.refl _).alloc _)) (Row.lo HF6.out ((Lo.refl _).alloc _)))
      have HL7 := Lib.hid ((Lo.refl w6).alloc (.cells #[.slice (some ⟨wr.heap.size, 0, none⟩) 5 5, .slice (some ⟨G, 0, none⟩) (3 * k) (3 * k)] 52))
      clear hc0 hc1 HF6 HH6 HCc hA
      go_wp2_with fail
      refine HCd.out.mono ?_
      rintro e w7 ⟨p7, c7, rfl, hr7, lo⟩
      have HL8 := Lib.hid (Lo.trans HL6.out (Lo.trans HL7.out lo))
      have HBq := Lib.hid (HBp.out _ _ _ hr7 (Row.lo HNr.out HL8.out))
      clear hr7 lo HL6 HL7 HCd HBp HNr
      go_wp2_with fail
      refine HBq.out.mono ?_
      rintro e w8 ⟨rfl, lo⟩
      have HL9 := Lib.hid (Lo.trans HLw.out (Lo.trans HL8.out lo))
      clear lo HBq
      go_wp2_with fail
      go_ret2
      exact ⟨rfl, HL9.out⟩

/-- group.Put. -/
theorem gput_any (v : Value) (l : List Ch.Span) (format : Int) (w : World) (hr : SRow w v l) : Calls Tryz.prog 101 #[v, .int .i64 format] w fun e w' => e = strErr (Gp.put l format) ∧ Lo w w' := by
  unfold Gp.put
  by_cases c1 : format ≠ 12 ∧ format ≠ 13
  · rw [if_pos c1]
    obtain ⟨p, c, rfl, _⟩ := RowK.form hr
    exact gput_arg p _ c format w c1
  · rw [if_neg c1]
    by_cases c2 : (Gp.split l (13 - format)).2 ≠ 0
    · rw [if_pos c2]; exact gput_err v l format w hr (by omega) c2
    · rw [if_neg c2]; exact gput_ok v l format w hr (by omega) (by simpa using c2)
end Go.Proofs.YtppihpjcdieeoaaGreatDoor
/-
  Contracts of sort.Search, chart.search and chart.Look: a rune's glyph. No conditions beyond those stated.
-/
namespace Go.Proofs.YtppihpjcdieeoaaGreatDoor
open Go.RowKit

set_option maxHeartbeats 1600000 in
/-- sort.Search, with a function value that may make memory. -/
theorem search_any (g : Nat) (caps : Array Value) (n : Nat) (p : Nat → Bool) (w : World) (hent : ∀ (i : Int) (W : World), (callFunc g (#[.int .i64 i] ++ caps)).run Tryz.prog W = .ok (.enter g (#[.int .i64 i] ++ caps)) W) (hn : n ≤ 65536)
    (hf : ∀ (i : Nat) (W : World), i < n → Lo w W → Calls Tryz.prog g (#[.int .i64 (i : Int)] ++ caps) W fun e w' => e = .returned (.bool (p i)) ∧ Lo W w') :
    Calls Tryz.prog 79 #[.int .i64 (n : Int), .func (.func g) #[] caps] w fun e w' => ∃ k : Nat, e = .returned (.int .i64 (k : Int)) ∧ k ≤ n ∧ (k = 0 ∨ p (k - 1) = false) ∧ (k = n ∨ p k = true) ∧ Lo w w' := by
  have HF := Lib.hid hf
  clear hf
  go_enter Tryz.func79, Tryz.ntmps79
  go_wp2_with fail
  go_loopw [5, 6, 7] (fun s5 s6 _ W => ∃ lo hi : Nat, s5 = .int .i64 lo ∧ s6 = .int .i64 hi ∧ lo ≤ hi ∧ hi ≤ n ∧ Hid ((lo = 0 ∨ p (lo - 1) = false) ∧ (hi = n ∨ p hi = true)) ∧ Hid (Lo w W)) (fun s5 s6 _ _ => (intOf s6).toNat - (intOf s5).toNat)
  case atStart => exact ⟨0, n, rfl, rfl, Nat.zero_le _, Nat.le_refl _, Lib.hid ⟨.inl rfl, .inl rfl⟩, Lib.hid (Lo.refl _)⟩
  case round =>
    obtain ⟨lo, hi, rfl, rfl, hlh, hin, HI, HL⟩ := hrel
    by_cases hlt : lo < hi
    · have hc := fun W hW => HF.out ((lo + hi) / 2) W (by omega) hW
      rw [show (((lo + hi) / 2 : Nat) : Int) = ((lo : Int) + (hi : Int)) / 2 by omega] at hc
      have HC := Lib.hid hc
      clear hc
      cases hp : p ((lo + hi) / 2) with
      | false =>
        rw [hp] at HC
        have HI2 : Hid (((lo + hi) / 2 + 1 = 0 ∨ p ((lo + hi) / 2 + 1 - 1) = false) ∧ (hi = n ∨ p hi = true)) := Lib.hid ⟨.inr hp, HI.out.2⟩
        clear hp HI
        go_wp2_with fail
        refine (HC.out _ HL.out).mono ?_
        rintro e w1 ⟨rfl, l1⟩
        have HL1 := Lib.hid (HL.out.trans l1)
        clear l1 HC
        go_wp2_with fail
        go_roundw
        case rel => exact ⟨(lo + hi) / 2 + 1, hi, by go_num, rfl, by omega, hin, HI2, HL1⟩
        case measure => simp [intOf]; omega
      | true =>
        rw [hp] at HC
        have HI2 : Hid ((lo = 0 ∨ p (lo - 1) = false) ∧ ((lo + hi) / 2 = n ∨ p ((lo + hi) / 2) = true)) := Lib.hid ⟨HI.out.1, .inr hp⟩
        clear hp HI
        go_wp2_with fail
        refine (HC.out _ HL.out).mono ?_
        rintro e w1 ⟨rfl, l1⟩
        have HL1 := Lib.hid (HL.out.trans l1)
        clear l1 HC
        go_wp2_with fail
        go_roundw
        case rel => exact ⟨lo, (lo + hi) / 2, rfl, by go_num, by omega, by omega, HI2, HL1⟩
        case measure => simp [intOf]; omega
    · obtain rfl : hi = lo := by omega
      go_wp2_with fail
      go_ret
      exact ⟨hi, rfl, hin, HI.out.1, HI.out.2, HL.out⟩

set_option maxHeartbeats 1600000 in
theorem place_any (b0 b1 b2 k : Nat) (l : List Ch.Span) (v : Value) (c : Int) (w : World) (h0 : w.cell? ⟨b0, 0, none⟩ = some (.func (.func 43) #[] #[])) (h1 : w.cell? ⟨b1, 0, none⟩ = some v) (h2 : w.cell? ⟨b2, 0, none⟩ = some (.int .i64 c)) (hr : SRow w v l) (hk : k < l.length) :
    Calls Tryz.prog 80 #[.int .i64 (k : Int), .pointer (some ⟨b0, 0, none⟩), .pointer (some ⟨b1, 0, none⟩), .pointer (some ⟨b2, 0, none⟩)] w fun e w' => e = .returned (.bool (decide (c ≤ (l.getD k Ch.zs).to))) ∧ Lo w w' := by
  obtain ⟨p, cp, rfl, hlen⟩ := RowK.form hr
  obtain ⟨b, off, rfl, r0, r1, r2, r3⟩ := SRow.at4 hr (Ch.getD_some hk)
  have HV := Lib.hid (fun W => reaches_any (l.getD k Ch.zs) c W)
  unfold aggS at HV
  generalize l.getD k Ch.zs = x at *
  generalize l.length = n at *
  clear hr
  go_enter Tryz.func80, Tryz.ntmps80
  go_wp2_with fail
  go_region_with (go_at_call 43; refine (HV.out _).mono ?_; rintro e w3 ⟨rfl, hlo⟩; have HL3 := Lib.hid (((Lo.refl w).drew).trans hlo); clear hlo)
  all_goals
    go_wp2_with fail
    go_ret
    exact ⟨rfl, HL3.out⟩
end Go.Proofs.YtppihpjcdieeoaaGreatDoor
