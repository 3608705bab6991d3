/-
  Contract of the document's Put (layer 9). No conditions beyond those stated.
-/
import Derived.Test.YtppihpjcdieeoaaGreatDoorPart28
import Derived.Test.YtppihpjcdieeoaaGreatDoorPlain
import Derived.Test.YtppihpjcdieeoaaGreatDoorPart25
import Derived.Test.YtppihpjcdieeoaaGreatDoorPart27
import Derived.Test.YtppihpjcdieeoaaGreatDoorPart22
namespace Sg
open Bn He Ch
theorem flat_snoc (xs : List Int) (v : Int) : flat 2 (xs ++ [v]) = flat 2 xs ++ bytes v 2 := by
  rw [flat_append]
  simp [flat]
/-- The numbers ahead of the glyphs, as far as they stand. -/
def pre1 (K : List Span) (k : Nat) : List Int := (hd K.length (glyphs K)).take k
def pre2 (K : List Span) (k : Nat) : List Int := hd K.length (glyphs K) ++ (K.take k).map Span.to
def pre3 (K : List Span) (k : Nat) : List Int := hd K.length (glyphs K) ++ K.map Span.to ++ [0] ++ (K.take k).map Span.fr
def pre4 (K : List Span) (k : Nat) : List Int := hd K.length (glyphs K) ++ K.map Span.to ++ [0] ++ K.map Span.fr ++ (K.take k).map delta
def pre5 (K : List Span) (k : Nat) : List Int := hd K.length (glyphs K) ++ K.map Span.to ++ [0] ++ K.map Span.fr ++ K.map delta ++ (List.range k).map (offs K)
theorem pre1_step {K : List Span} {k : Nat} (h : k < 7) : pre1 K (k + 1) = pre1 K k ++ [(hd K.length (glyphs K)).getD k 0] := by
  unfold pre1
  have hl : k < (hd K.length (glyphs K)).length := by simp [hd]; exact h
  rw [List.take_add_one]
  simp [List.getElem?_eq_getElem hl, List.getD]
theorem pre1_end (K : List Span) : pre1 K 7 = pre2 K 0 := by
  unfold pre1 pre2
  rw [List.take_of_length_le (by simp [hd])]
  simp
theorem map_take {K : List Span} {k : Nat} (f : Span → Int) (h : k < K.length) : (K.take (k + 1)).map f = (K.take k).map f ++ [f (K.getD k zs)] := by
  rw [take_snoc h, List.map_append]; rfl
theorem pre2_step {K : List Span} {k : Nat} (h : k < K.length) : pre2 K (k + 1) = pre2 K k ++ [(K.getD k zs).to] := by
  unfold pre2; rw [map_take _ h]; simp only [List.append_assoc]
theorem pre2_end (K : List Span) : pre2 K K.length ++ [0] = pre3 K 0 := by
  unfold pre2 pre3; rw [List.take_length]; simp
theorem pre3_step {K : List Span} {k : Nat} (h : k < K.length) : pre3 K (k + 1) = pre3 K k ++ [(K.getD k zs).fr] := by
  unfold pre3; rw [map_take _ h]; simp only [List.append_assoc]
theorem pre3_end (K : List Span) : pre3 K K.length = pre4 K 0 := by
  unfold pre3 pre4; rw [List.take_length]; simp
theorem pre4_step {K : List Span} {k : Nat} (h : k < K.length) : pre4 K (k + 1) = pre4 K k ++ [delta (K.getD k zs)] := by
  unfold pre4; rw [map_take _ h]; simp only [List.append_assoc]
theorem pre4_end (K : List Span) : pre4 K K.length = pre5 K 0 := by
  unfold pre4 pre5; rw [List.take_length]; simp
theorem pre5_step {K : List Span} {k : Nat} : pre5 K (k + 1) = pre5 K k ++ [offs K k] := by
  unfold pre5; rw [List.range_succ, List.map_append]; simp only [List.append_assoc, List.map_cons, List.map_nil]
theorem pre5_end (K : List Span) : pre5 K K.length ++ rest K = words K := by
  unfold pre5 words; simp
theorem rest_step {K : List Span} {k : Nat} (h : k < K.length) : rest (K.take (k + 1)) = rest (K.take k) ++ List.replicate (wid (K.getD k zs)) (K.getD k zs).gl := by
  rw [take_snoc h, rest_append]
  simp [rest]
theorem pre_lens (K : List Span) (k : Nat) (hk : k ≤ K.length) : (pre1 K k).length ≤ 7 ∧ (pre2 K k).length ≤ 7 + k ∧ (pre3 K k).length ≤ 8 + K.length + k ∧ (pre4 K k).length ≤ 8 + 2 * K.length + k ∧ (pre5 K k).length ≤ 8 + 3 * K.length + k := by
  unfold pre1 pre2 pre3 pre4 pre5 hd
  simp only [List.length_append, List.length_map, List.length_take, List.length_range, List.length_cons, List.length_nil]
  omega
end Sg
namespace Go.Proofs.YtppihpjcdieeoaaGreatDoor
open Go.RowKit

theorem cat_flat (xs : List Int) (v : Int) : (ByteArray.mk (He.flat 2 xs).toArray) ++ (ByteArray.mk (Bn.bytes v 2).toArray) = ByteArray.mk (He.flat 2 (xs ++ [v])).toArray := by
  rw [Gk.cat_list, Sg.flat_snoc]
theorem size_flat (xs : List Int) : (ByteArray.mk (He.flat 2 xs).toArray).size = 2 * xs.length := by
  show (He.flat 2 xs).length = _
  rw [He.flat_len]; rfl
theorem size_two (v : Int) : (ByteArray.mk (Bn.bytes v 2).toArray).size = 2 := by
  show (Bn.bytes v 2).length = _
  rw [Bn.bytes_len]
theorem rb2_any {v : Int} (h0 : 0 ≤ v) (h1 : v ≤ 65535) (W : World) : Calls Tryz.prog 22 #[.int .i64 v, .int .i64 2] W fun e w' => e = .returned (.string ⟨(Bn.bytes v 2).toArray⟩) ∧ Lo W w' :=
  rbytes_any v 2 W (by decide) (He.fits2 h0 h1)
theorem row7 (w : World) (B : Nat) (hB : B = w.heap.size) (a b c d e f g : Int) : Row (w.alloc (.cells #[.int .i64 a, .int .i64 b, .int .i64 c, .int .i64 d, .int .i64 e, .int .i64 f, .int .i64 g] 3)) (.slice (some ⟨B, 0, none⟩) 7 7) [a, b, c, d, e, f, g] :=
  hB ▸ .inr ⟨w.heap.size, 0, 7, rfl, by simp, by simp, by simp, fun i hi => by
    obtain rfl | rfl | rfl | rfl | rfl | rfl | rfl : i = 0 ∨ i = 1 ∨ i = 2 ∨ i = 3 ∨ i = 4 ∨ i = 5 ∨ i = 6 := by simp at hi; omega
    all_goals simp [go_sem]⟩

set_option maxRecDepth 100000 in
set_option maxHeartbeats 6400000 in
theorem rput_ok (v : Value) (l : List Ch.Span) (w : World) (h : SRow w v l) (hm : (Sg.manyOf l).2.2 = 0) : Calls Tryz.prog 75 #[v] w fun e w' => e = strErr (Sg.put l) ∧ Lo w w' := by
  have HM := Lib.hid (rmany_any v l w h)
  obtain ⟨hil, _, _, hn1, hg1⟩ := Sg.manyOf_ok hm
  have hll := (Ch.isL_chain hil).2
  have HK := Lib.hid (fun (W : World) (h : SRow W v l) => rkept_any v l W h hll)
  have hput : Sg.put l = (Sg.file (Sg.whole l), 0) := by unfold Sg.put; rw [if_neg (by rw [hm]; simp)]
  have G := Sg.good_whole hm
  have hgw := Sg.glyphs_whole l
  have HWl : Hid (((Sg.kept l).length < (Sg.whole l).length → Sg.kept l ++ [⟨65535, 65535, 0, 1⟩] = Sg.whole l) ∧ (¬ (Sg.kept l).length < (Sg.whole l).length → Sg.kept l = Sg.whole l)) := Lib.hid (by
    unfold Sg.whole
    by_cases e : Sg.ended (Sg.kept l) = true
    · rw [if_pos e]
      exact ⟨fun h => by omega, fun _ => rfl⟩
    · rw [if_neg e]
      exact ⟨fun _ => rfl, fun h => by rw [List.length_append] at h; simp at h⟩)
  have hkb : (Sg.kept l).length ≤ 65536 := Nat.le_trans (Sg.kept_len l) hll
  rw [hput]
  unfold manyEnd at HM
  rw [hm, hn1, hg1, ← hgw] at HM
  have HR := Lib.hid h
  clear hput hm hn1 hg1 hgw hil hll
  generalize Sg.whole l = K at *
  generalize Sg.kept l = M at *
  have hone := G.one
  have hsize := G.size
  have hin := words_in G
  obtain ⟨tp, t1, t2, t3, _, t5⟩ := Sg.pow2_is (n := K.length) (by omega) (by omega)
  have HP1 := Lib.hid (fun (k : Nat) (hk : k < 7) => Sg.pre1_step (K := K) hk)
  have HP2 := Lib.hid (fun (k : Nat) (hk : k < K.length) => Sg.pre2_step hk)
  have HP3 := Lib.hid (fun (k : Nat) (hk : k < K.length) => Sg.pre3_step hk)
  have HP4 := Lib.hid (fun (k : Nat) (hk : k < K.length) => Sg.pre4_step hk)
  have HP5 := Lib.hid (fun (k : Nat) => Sg.pre5_step (K := K) (k := k))
  have HE1 := Lib.hid (Sg.pre1_end K)
  have HE2 := Lib.hid (Sg.pre2_end K)
  have HE3 := Lib.hid (Sg.pre3_end K)
  have HE4 := Lib.hid (Sg.pre4_end K)
  have HE5 := Lib.hid (Sg.pre5_end K)
  have HLn := Lib.hid (fun k (hk : k ≤ K.length) => Sg.pre_lens K k hk)
  have HRs := Lib.hid (fun (k : Nat) (hk : k < K.length) => Sg.rest_step hk)
  have HGs := Lib.hid (fun (k : Nat) (hk : k < K.length) => Sg.glyphs_step hk)
  have HTk := Lib.hid (fun (k : Nat) => Sg.glyphs_take K k)
  have HOk := Lib.hid (fun (k : Nat) (hk : k < K.length) => (Ch.okSpan_iff _).1 (Ch.chain_mem G.chain _ (Ch.getD_mem hk)).1)
  have HUp := Lib.hid (fun (k : Nat) (hk : k < K.length) => G.upto _ (Ch.getD_mem hk))
  have HOf := Lib.hid (fun (k : Nat) (hk : k < K.length) => (show Sg.offs K k = (if Sg.isRow (K.getD k Ch.zs) = true then ((2 * (K.length - k) + 2 * Sg.glyphs (K.take k) : Nat) : Int) else 0) by unfold Sg.offs Sg.behind; rw [Sg.at1_zs hk]))
  have HRl : Hid (∀ k, (Sg.rest (K.take k)).length = Sg.glyphs (K.take k)) := Lib.hid (fun k => Sg.rest_len _)
  have hhd : Sg.hd K.length (Sg.glyphs K) = [4, ((16 + 8 * K.length + 2 * Sg.glyphs K : Nat) : Int), 0, ((2 * K.length : Nat) : Int), ((2 * 2 ^ tp : Nat) : Int), (tp : Int), ((2 * K.length : Nat) : Int) - ((2 * 2 ^ tp : Nat) : Int)] := by
    unfold Sg.hd
    rw [t1]
  have HHd : Hid (∀ k, k < 7 → 0 ≤ (Sg.hd K.length (Sg.glyphs K)).getD k 0 ∧ (Sg.hd K.length (Sg.glyphs K)).getD k 0 ≤ 65535) := Lib.hid (fun k hk => by
    rw [hhd]
    clear hhd
    generalize 2 ^ tp = P at *
    obtain rfl | rfl | rfl | rfl | rfl | rfl | rfl : k = 0 ∨ k = 1 ∨ k = 2 ∨ k = 3 ∨ k = 4 ∨ k = 5 ∨ k = 6 := by omega
    all_goals simp [List.getD]
    all_goals omega)
  have HHr : Hid (∀ (W : World) (B : Nat), B = W.heap.size → Row (W.alloc (.cells #[.int .i64 4, .int .i64 (16 + 8 * (K.length : Int) + 2 * (Sg.glyphs K : Nat)), .int .i64 0, .int .i64 (2 * (K.length : Int)), .int .i64 (2 * ((2 ^ tp : Nat) : Int)), .int .i64 (tp : Int), .int .i64 (2 * (K.length : Int) - 2 * ((2 ^ tp : Nat) : Int))] 3)) (.slice (some ⟨B, 0, none⟩) 7 7) (Sg.hd K.length (Sg.glyphs K))) := Lib.hid (fun W B hB => by
    have := row7 W B hB 4 (16 + 8 * (K.length : Int) + 2 * (Sg.glyphs K : Nat)) 0 (2 * (K.length : Int)) (2 * ((2 ^ tp : Nat) : Int)) (tp : Int) (2 * (K.length : Int) - 2 * ((2 ^ tp : Nat) : Int))
    rw [hhd, show ((16 + 8 * K.length + 2 * Sg.glyphs K : Nat) : Int) = 16 + 8 * (K.length : Int) + 2 * (Sg.glyphs K : Nat) by omega, show ((2 * K.length : Nat) : Int) = 2 * (K.length : Int) by omega, show ((2 * 2 ^ tp : Nat) : Int) = 2 * ((2 ^ tp : Nat) : Int) by omega]
    exact this)
  have HPw : Hid (∀ s, 2 * 2 ^ s ≤ K.length → s ≤ tp → s + 1 ≤ tp ∧ 2 ^ (s + 1) = 2 * 2 ^ s) := Lib.hid (fun s hs hst => by
    have e : 2 ^ (s + 1) = 2 * 2 ^ s := by rw [Nat.pow_succ]; omega
    refine ⟨?_, e⟩
    rcases Nat.lt_or_ge s tp with h | h
    · omega
    · obtain rfl : s = tp := by omega
      omega)
  have HPx : Hid (∀ s, ¬ 2 * 2 ^ s ≤ K.length → s ≤ tp → s = tp) := Lib.hid (fun s hs hst => by
    rcases Nat.lt_or_ge s tp with h | h
    · have h1 : 2 ^ (s + 1) ≤ 2 ^ tp := Nat.pow_le_pow_right (by omega) (by omega)
      rw [Nat.pow_succ] at h1
      omega
    · omega)
  have HPb : Hid (∀ s, s ≤ tp → 2 ^ s ≤ 10000) := Lib.hid (fun s hs => by
    have h1 : 2 ^ s ≤ 2 ^ tp := Nat.pow_le_pow_right (by omega) hs
    omega)
  have HFile : Hid (Sg.file K = He.flat 2 (Sg.words K)) := Lib.hid rfl
  clear hhd t1 t2 t3 G hin
  have HTp : Hid (tp ≤ 13) := Lib.hid (by omega)
  have hnb : K.length ≤ 10000 := by omega
  have hgb : Sg.glyphs K ≤ 40000 := by omega
  generalize hPP : 2 ^ tp = PP at HHr
  have HPP := Lib.hid hPP
  generalize hKn : K.length = n at *
  have HKn := Lib.hid hKn
  generalize hgg : Sg.glyphs K = g at *
  have HGg := Lib.hid hgg
  clear hKn h hPP hgg t5
  go_enter Tryz.func75, Tryz.ntmps75
  go_wp2_with fail
  refine HM.out.mono ?_
  rintro e w1 ⟨rfl, lo⟩
  have HL1 := Lib.hid lo
  have HK1 := Lib.hid (HK.out w1 (RowK.lo HR.out lo))
  clear lo HM HK HR
  go_wp2_with fail
  refine HK1.out.mono ?_
  rintro e w2 ⟨q, d, rfl, hown, lo⟩
  have HL2 := Lib.hid (HL1.out.trans lo)
  have HO := Lib.hid hown
  have HSz := Lib.hid (show w1.heap.size ≤ w2.heap.size from lo.size)
  have H12 := Lib.hid lo
  clear lo HK1 hown
  by_cases hlt : M.length < n
  · have HWm := Lib.hid (HWl.out.1 hlt)
    have HPn : Hid (M.length + List.length [(⟨65535, 65535, 0, 1⟩ : Ch.Span)] = n) := Lib.hid (by rw [← List.length_append, HWm.out, HKn.out])
    clear HWl
    go_wp2_with (at_builtin; refine wpList_appK _ rfl (.tmp 36) (.tmp 38) _ rfl 63 4 32 _ Tryz.underlying22 api_info rfl (by omega) (by omega) encS_len encS_one w1.heap.size (.slice q M.length d) M rfl (OwnK.lo HO.out ((Lo.refl _).alloc _)) _ [⟨65535, 65535, 0, 1⟩] rfl (srow1 _ _ rfl ⟨65535, 65535, 0, 1⟩ _) (by simp; omega) (by have := HSz.out; simp; omega) ?_; intro q2 d2 wa hown hlo; have hq := HPn.out; rw [hq] at hown ⊢; rw [HWm.out] at hown; have HKR := Lib.hid (OwnK.row encS_len hown); have HLw := Lib.hid (HL1.out.trans (hlo w1 (H12.out.alloc _) (Nat.le_refl _))); clear hown hlo hq)
    have HE0 : Hid (He.flat 2 (Sg.pre1 K 0) = []) := Lib.hid rfl
    go_loopw [7, 8] (fun s7 s8 W => ∃ s : Nat, s ≤ tp ∧ s7 = .int .i64 ((2 ^ s : Nat) : Int) ∧ s8 = .int .i64 (s : Int) ∧ Hid (Lo wa W)) (fun _ s8 _ => tp - (intOf s8).toNat)
    case atStart => exact ⟨0, Nat.zero_le _, rfl, rfl, Lib.hid (Lo.refl _)⟩
    case round =>
      obtain ⟨s, hs, rfl, rfl, HLp⟩ := hrel
      have hpb := HPb.out s hs
      have htp := HTp.out
      by_cases hp : 2 * 2 ^ s ≤ n
      · obtain ⟨hs1, hs2⟩ := HPw.out s hp hs
        generalize 2 ^ s = P at *
        go_wp2_with fail
        go_roundw
        case rel => exact ⟨s + 1, hs1, by rw [hs2]; congr 1, by go_num, HLp⟩
        case measure => simp [intOf]; omega
      · obtain rfl := HPx.out s hp hs
        have htp := HTp.out
        have hpb := HPb.out s (Nat.le_refl _)
        have hpp := HPP.out
        rw [hpp] at hpb ⊢
        have HRow := Lib.hid (HHr.out wr _ rfl)
        have HLh := Lib.hid (HLp.out.alloc (.cells #[.int .i64 4, .int .i64 (16 + 8 * (n : Int) + 2 * (g : Int)), .int .i64 0, .int .i64 (2 * (n : Int)), .int .i64 (2 * (PP : Int)), .int .i64 (s : Int), .int .i64 (2 * (n : Int) - 2 * (PP : Int))] 3))
        go_wp2_with fail
        generalize wr.heap.size = H at *
        go_loopw [9, 11] (fun s9 s11 W => ∃ k : Nat, k ≤ 7 ∧ s11 = .int .i64 k ∧ s9 = .string ⟨(He.flat 2 (Sg.pre1 K k)).toArray⟩ ∧ Hid (Row W (.slice (some ⟨H, 0, none⟩) 7 7) (Sg.hd n g)) ∧ Hid (Lo wa W)) (fun _ s11 _ => 7 - (intOf s11).toNat)
        case atStart => exact ⟨0, by omega, rfl, rfl, HRow, HLh⟩
        case round =>
          obtain ⟨k, hk, rfl, rfl, HRw, HLa⟩ := hrel
          by_cases hlt : k < 7
          · obtain ⟨b', o', e', hcell⟩ := HRw.out.at_ hlt
            injection e' with e'
            injection e' with e1 e2
            subst e1 e2
            rw [Nat.zero_add] at hcell
            have hv := HHd.out k hlt
            have hcat := cat_flat (Sg.pre1 K k) ((Sg.hd n g).getD k 0)
            rw [← HP1.out k hlt] at hcat
            have hso := size_flat (Sg.pre1 K k)
            have hsb := size_two ((Sg.hd n g).getD k 0)
            have hpl := (HLn.out 0 (Nat.zero_le _))
            have hol : (Sg.pre1 K k).length ≤ 7 := by unfold Sg.pre1; rw [List.length_take]; omega
            generalize (Sg.hd n g).getD k 0 = x at *
            have HB1 := Lib.hid (fun W => rb2_any (v := x) hv.1 hv.2 W)
            generalize (Sg.pre1 K k).length = ol at *
            clear hpl
            go_wp2_with fail
            refine (HB1.out _).mono ?_
            rintro e w4 ⟨rfl, lo⟩
            have HLn2 := Lib.hid (HLa.out.trans lo)
            have HRn2 := Lib.hid (HRw.out.lo lo)
            clear lo HB1
            go_wp2_with fail
            go_roundw
            case rel => exact ⟨k + 1, by omega, by go_num, rfl, HRn2, HLn2⟩
            case measure => simp [intOf]; omega
          · obtain rfl : k = 7 := by omega
            rw [HE1.out, show ((7 : Nat) : Int) = 7 from rfl]
            clear HRw HRow HLh
            go_wp2_with fail
            go_loopw [9, 12] (fun s9 si W => ∃ k : Nat, k ≤ n ∧ si = .int .i64 k ∧ s9 = .string ⟨(He.flat 2 (Sg.pre2 K k)).toArray⟩ ∧ Hid (Lo wa W)) (fun _ si _ => n - (intOf si).toNat)
            case atStart => exact ⟨0, Nat.zero_le _, rfl, rfl, HLa⟩
            case round =>
              obtain ⟨k, hk, rfl, rfl, HLb⟩ := hrel
              by_cases hlt : k < n
              · have hk' : k < K.length := by rw [HKn.out]; exact hlt
                obtain ⟨b, off, e', r0, r1, r2, r3⟩ := SRow.at4 (RowK.lo HKR.out HLb.out) (Ch.getD_some hk')
                subst e'
                obtain ⟨a1, a2, a3, a4, a5, a6, a7, a8⟩ := HOk.out k hlt
                have hup := HUp.out k hlt
                have hpl := (HLn.out k hk)
                have hcat := cat_flat (Sg.pre2 K k) (K.getD k Ch.zs).to
                rw [← HP2.out k hlt] at hcat
                have hso := size_flat (Sg.pre2 K k)
                have hsb := size_two (K.getD k Ch.zs).to
                clear a8
                generalize K.getD k Ch.zs = x at *
                have HB1 := Lib.hid (fun W => rb2_any (v := x.to) (by omega) (by omega) W)
                generalize (Sg.pre2 K k).length = ol at *
                have hol : ol ≤ 40000 := by omega
                clear hpl
                go_wp2_with fail
                refine (HB1.out _).mono ?_
                rintro e w4 ⟨rfl, lo⟩
                have HLn2 := Lib.hid (HLb.out.trans lo)
                clear lo HB1
                go_wp2_with fail
                go_roundw
                case rel => exact ⟨k + 1, by omega, by go_num, rfl, HLn2⟩
                case measure => simp [intOf]; omega
              · obtain rfl : n = k := by omega
                have hc0 : (ByteArray.mk (He.flat 2 (Sg.pre2 K n)).toArray) ++ (ByteArray.mk #[0, 0]) = ByteArray.mk (He.flat 2 (Sg.pre3 K 0)).toArray := by
                  have h1 := cat_flat (Sg.pre2 K n) 0
                  have h2 := HE2.out
                  rw [h2] at h1
                  exact h1
                have hso := size_flat (Sg.pre2 K n)
                have hpl := (HLn.out n (Nat.le_refl _))
                have hs0 : (ByteArray.mk #[0, 0]).size = 2 := rfl
                generalize (Sg.pre2 K n).length = ol at *
                have hol : ol ≤ 40000 := by omega
                clear hpl
                go_wp2_with fail
                clear hc0 hso hs0 hol
                go_loopw [9, 13] (fun s9 si W => ∃ k : Nat, k ≤ n ∧ si = .int .i64 k ∧ s9 = .string ⟨(He.flat 2 (Sg.pre3 K k)).toArray⟩ ∧ Hid (Lo wa W)) (fun _ si _ => n - (intOf si).toNat)
                case atStart => exact ⟨0, Nat.zero_le _, rfl, rfl, HLb⟩
                case round =>
                  obtain ⟨k, hk, rfl, rfl, HLc⟩ := hrel
                  by_cases hlt : k < n
                  · have hk' : k < K.length := by rw [HKn.out]; exact hlt
                    obtain ⟨b, off, e', r0, r1, r2, r3⟩ := SRow.at4 (RowK.lo HKR.out HLc.out) (Ch.getD_some hk')
                    subst e'
                    obtain ⟨a1, a2, a3, a4, a5, a6, a7, a8⟩ := HOk.out k hlt
                    have hup := HUp.out k hlt
                    have hpl := (HLn.out k hk)
                    have hcat := cat_flat (Sg.pre3 K k) (K.getD k Ch.zs).fr
                    rw [← HP3.out k hlt] at hcat
                    have hso := size_flat (Sg.pre3 K k)
                    have hsb := size_two (K.getD k Ch.zs).fr
                    clear a8
                    generalize K.getD k Ch.zs = x at *
                    have HB1 := Lib.hid (fun W => rb2_any (v := x.fr) (by omega) (by omega) W)
                    generalize (Sg.pre3 K k).length = ol at *
                    have hol : ol ≤ 40000 := by omega
                    clear hpl
                    go_wp2_with fail
                    refine (HB1.out _).mono ?_
                    rintro e w4 ⟨rfl, lo⟩
                    have HLn2 := Lib.hid (HLc.out.trans lo)
                    clear lo HB1
                    go_wp2_with fail
                    go_roundw
                    case rel => exact ⟨k + 1, by omega, by go_num, rfl, HLn2⟩
                    case measure => simp [intOf]; omega
                  · obtain rfl : n = k := by omega
                    rw [HE3.out]
                    go_wp2_with fail
                    have HRw := Lib.hid (fun (x : Ch.Span) (W : World) => rrow_any x W)
                    have HPl := Lib.hid (fun (x : Int) (hx0 : -1000000 ≤ x) (hx1 : x ≤ 1000000) (W : World) => rplane_any x W hx0 hx1)
                    unfold aggS at HRw
                    go_loopw [9, 14, 15] (fun s9 si _ W => ∃ k : Nat, k ≤ n ∧ si = .int .i64 k ∧ s9 = .string ⟨(He.flat 2 (Sg.pre4 K k)).toArray⟩ ∧ Hid (Lo wa W)) (fun _ si _ _ => n - (intOf si).toNat)
                    case atStart => exact ⟨0, Nat.zero_le _, rfl, rfl, HLc⟩
                    case round =>
                      obtain ⟨k, hk, rfl, rfl, HLd⟩ := hrel
                      by_cases hlt : k < n
                      · have hk' : k < K.length := by rw [HKn.out]; exact hlt
                        have HC := Lib.hid (fun (W : World) (lo : Lo wa W) => (SRow.at4 (RowK.lo HKR.out lo) (Ch.getD_some hk')))
                        obtain ⟨b, off, e', r0, r1, r2, r3⟩ := HC.out _ HLd.out
                        subst e'
                        obtain ⟨a1, a2, a3, a4, a5, a6, a7, a8⟩ := HOk.out k hlt
                        have hup := HUp.out k hlt
                        have hpl := (HLn.out k hk)
                        have hcat := cat_flat (Sg.pre4 K k) (Sg.delta (K.getD k Ch.zs))
                        rw [← HP4.out k hlt] at hcat
                        have hso := size_flat (Sg.pre4 K k)
                        have hsb := size_two (Sg.delta (K.getD k Ch.zs))
                        have HRw1 := Lib.hid (HRw.out (K.getD k Ch.zs))
                        clear a8
                        generalize K.getD k Ch.zs = x at *
                        generalize (Sg.pre4 K k).length = ol at *
                        have hol : ol ≤ 40000 := by omega
                        clear hpl
                        cases hr : Sg.isRow x with
                        | true =>
                          have hdl : Sg.delta x = 0 := by unfold Sg.delta; rw [if_pos hr]
                          rw [hdl] at hcat hsb
                          rw [hr] at HRw1
                          have HB1 := Lib.hid (fun W => rb2_any (v := 0) (by omega) (by omega) W)
                          clear hdl hr
                          go_wp2_with fail
                          refine (HRw1.out _).mono ?_
                          rintro e w3 ⟨rfl, lo⟩
                          have HL4 := Lib.hid (HLd.out.trans lo)
                          obtain ⟨b', off', e', s0, s1, s2, s3⟩ := HC.out w3 HL4.out
                          injection e' with e'
                          injection e' with e1 e2
                          subst e1 e2
                          clear lo HRw1 r0 r1 r2 r3
                          go_wp2_with fail
                          refine (HB1.out _).mono ?_
                          rintro e w4 ⟨rfl, lo⟩
                          have HLn2 := Lib.hid (HL4.out.trans lo)
                          clear lo HB1
                          go_wp2_with fail
                          go_roundw
                          case rel => exact ⟨k + 1, by omega, by go_num, rfl, HLn2⟩
                          case measure => simp [intOf]; omega
                        | false =>
                          have hdl : Sg.delta x = Sg.plane (65536 + x.gl - x.fr) := by unfold Sg.delta; rw [if_neg (by rw [hr]; simp)]
                          rw [hdl] at hcat hsb
                          rw [hr] at HRw1
                          have hpb := Sg.plane_bound (n := 65536 + x.gl - x.fr) (by omega) (by omega)
                          have HP0 := Lib.hid (HPl.out (65536 + x.gl - x.fr) (by omega) (by omega))
                          generalize Sg.plane (65536 + x.gl - x.fr) = pv at *
                          have HB1 := Lib.hid (fun W => rb2_any (v := pv) hpb.1 hpb.2 W)
                          have eq1 : IntKind.i64.wrap (65536 + x.gl) = 65536 + x.gl := IntWalk.i64_in _ (by omega)
                          have eq2 : IntKind.i64.wrap (65536 + x.gl - x.fr) = 65536 + x.gl - x.fr := IntWalk.i64_in _ (by omega)
                          clear hdl hr
                          go_wp2_with fail
                          refine (HRw1.out _).mono ?_
                          rintro e w3 ⟨rfl, lo⟩
                          have HL4 := Lib.hid (HLd.out.trans lo)
                          obtain ⟨b', off', e', s0, s1, s2, s3⟩ := HC.out w3 HL4.out
                          injection e' with e'
                          injection e' with e1 e2
                          subst e1 e2
                          clear lo HRw1 r0 r1 r2 r3
                          go_wp2_with fail
                          have HPq := Lib.hid (fun k => HP0.out (w3.drewN k))
                          go_quiet (first | (go_at_call 107; exact quiet' (HPq.out _)))
                          have HL5 := Lib.hid (HL4.out.drewN nq)
                          go_wp2_with fail
                          refine (HB1.out _).mono ?_
                          rintro e w4 ⟨rfl, lo⟩
                          have HLn2 := Lib.hid (HL5.out.trans lo)
                          clear lo HB1
                          go_wp2_with fail
                          go_roundw
                          case rel => exact ⟨k + 1, by omega, by go_num, rfl, HLn2⟩
                          case measure => simp [intOf]; omega
                      · obtain rfl : n = k := by omega
                        rw [HE4.out]
                        go_wp2_with fail
                        have HA1 : Hid (K.take n = K) := Lib.hid (by rw [← HKn.out]; exact List.take_length)
                        clear HP1 HP2 HP3 HP4 HE1 HE2 HE3 HE4 HPl HHd HHr HPw HPx HPb
                        go_loopw [9, 16, 17, 18, 19, 20] (fun s9 s16 s17 s18 _ _ W => ∃ k : Nat, k ≤ n ∧ s18 = .int .i64 k ∧ s16 = .int .i64 ((Sg.glyphs (K.take k) : Nat) : Int) ∧ s9 = .string ⟨(He.flat 2 (Sg.pre5 K k)).toArray⟩ ∧ s17 = .string ⟨(He.flat 2 (Sg.rest (K.take k))).toArray⟩ ∧ Hid (Lo wa W)) (fun _ _ _ s18 _ _ _ => n - (intOf s18).toNat)
                        case atStart => exact ⟨0, Nat.zero_le _, rfl, rfl, rfl, rfl, HLd⟩
                        case round =>
                          obtain ⟨k, hk, rfl, rfl, rfl, rfl, HLe⟩ := hrel
                          by_cases hlt : k < n
                          · have hk' : k < K.length := by rw [HKn.out]; exact hlt
                            have HC := Lib.hid (fun (W : World) (lo : Lo wa W) => (SRow.at4 (RowK.lo HKR.out lo) (Ch.getD_some hk')))
                            obtain ⟨b, off, e', r0, r1, r2, r3⟩ := HC.out _ HLe.out
                            subst e'
                            obtain ⟨a1, a2, a3, a4, a5, a6, a7, a8⟩ := HOk.out k hlt
                            have hup := HUp.out k hlt
                            have hpl := (HLn.out k hk)
                            have hof := HOf.out k hlt
                            have HP5k := Lib.hid (HP5.out k)
                            have HRs1 := Lib.hid (HRs.out k hlt)
                            have hgs := HGs.out k hlt
                            have hgt := HTk.out (k + 1)
                            have HGs1 := Lib.hid hgs
                            have hrl := HRl.out k
                            have hso := size_flat (Sg.pre5 K k)
                            have hs1 := size_flat (Sg.rest (K.take k))
                            have HRw1 := Lib.hid (HRw.out (K.getD k Ch.zs))
                            have hwi : Sg.isRow (K.getD k Ch.zs) = true → ((Sg.wid (K.getD k Ch.zs) : Nat) : Int) = (K.getD k Ch.zs).to - (K.getD k Ch.zs).fr + 1 := fun h => by unfold Sg.wid; rw [if_pos h]; omega
                            have hwn : Sg.isRow (K.getD k Ch.zs) = false → Sg.wid (K.getD k Ch.zs) = 0 := fun h => by unfold Sg.wid; rw [if_neg (by rw [h]; simp)]
                            clear a8
                            generalize K.getD k Ch.zs = x at *
                            generalize (Sg.pre5 K k).length = ol at *
                            have hol : ol ≤ 40000 := by omega
                            clear hpl
                            generalize Sg.rest (K.take k) = R at *
                            generalize Sg.glyphs (K.take k) = g1 at *
                            generalize Sg.wid x = wd at *
                            have hgbd : g1 + wd ≤ g := by omega
                            clear hgs hgt
                            have hcat := cat_flat (Sg.pre5 K k) (Sg.offs K k)
                            rw [← HP5k.out] at hcat
                            rw [hrl] at hs1
                            cases hr : Sg.isRow x with
                            | false =>
                              have hw0 := hwn hr
                              rw [if_neg (by rw [hr]; simp)] at hof
                              rw [hof] at hcat
                              have hsb := size_two 0
                              rw [hr] at HRw1
                              have HB1 := Lib.hid (fun W => rb2_any (v := 0) (by omega) (by omega) W)
                              clear hof hwi hwn hr
                              go_wp2_with fail
                              refine (HRw1.out _).mono ?_
                              rintro e w3 ⟨rfl, lo⟩
                              have HL4 := Lib.hid (HLe.out.trans lo)
                              obtain ⟨b', off', e', s0, s1, s2, s3⟩ := HC.out w3 HL4.out
                              injection e' with e'
                              injection e' with e1 e2
                              subst e1 e2
                              clear lo HRw1 r0 r1 r2 r3
                              go_wp2_with fail
                              refine (HB1.out _).mono ?_
                              rintro e w4 ⟨rfl, lo⟩
                              have HLn2 := Lib.hid (HL4.out.trans lo)
                              clear lo HB1
                              go_wp2_with fail
                              go_roundw
                              case rel => exact ⟨k + 1, by omega, by go_num, by rw [HGs1.out, hw0]; rfl, rfl, by rw [HRs1.out, hw0, List.replicate_zero, List.append_nil], HLn2⟩
                              case measure => simp [intOf]; omega
                            | true =>
                              have hw1 := hwi hr
                              rw [if_pos hr] at hof
                              have hof2 : Sg.offs K k = 2 * ((n : Int) - k) + 2 * g1 := by rw [hof]; omega
                              rw [hof2] at hcat
                              have hsb := size_two (2 * ((n : Int) - k) + 2 * g1)
                              rw [hr] at HRw1
                              have HB1 := Lib.hid (fun W => rb2_any (v := 2 * ((n : Int) - k) + 2 * g1) (by omega) (by omega) W)
                              clear hof hof2 hwi hwn hr
                              go_wp2_with fail
                              refine (HRw1.out _).mono ?_
                              rintro e w3 ⟨rfl, lo⟩
                              have HL4 := Lib.hid (HLe.out.trans lo)
                              obtain ⟨b', off', e', s0, s1, s2, s3⟩ := HC.out w3 HL4.out
                              injection e' with e'
                              injection e' with e1 e2
                              subst e1 e2
                              clear lo HRw1 r0 r1 r2 r3
                              go_wp2_with fail
                              go_loopw [16, 17, 20] (fun s16 s17 s20 W => ∃ j : Nat, j ≤ wd ∧ s20 = .int .i64 (x.fr + (j : Int)) ∧ s16 = .int .i64 ((g1 : Int) + (j : Int)) ∧ s17 = .string ⟨(He.flat 2 (R ++ List.replicate j x.gl)).toArray⟩ ∧ Hid (Lo wa W)) (fun _ _ s20 _ => wd - ((intOf s20) - x.fr).toNat)
                              case atStart => exact ⟨0, Nat.zero_le _, by simp, by simp, by rw [List.replicate_zero, List.append_nil], HL4⟩
                              case round =>
                                obtain ⟨j, hj, rfl, rfl, rfl, HLi⟩ := hrel
                                clear s0 s1 s2 s3
                                obtain ⟨b', off', e', s0, s1, s2, s3⟩ := HC.out _ HLi.out
                                injection e' with e'
                                injection e' with e1 e2
                                subst e1 e2
                                by_cases hjl : j < wd
                                · have hcat2 := cat_flat (R ++ List.replicate j x.gl) x.gl
                                  rw [List.append_assoc, ← List.replicate_succ'] at hcat2
                                  have hs2 := size_flat (R ++ List.replicate j x.gl)
                                  rw [List.length_append, List.length_replicate, hrl] at hs2
                                  have hsb2 := size_two x.gl
                                  have HB2 := Lib.hid (fun W => rb2_any (v := x.gl) a6 a7 W)
                                  clear hs1
                                  go_wp2_with fail
                                  refine (HB2.out _).mono ?_
                                  rintro e w4 ⟨rfl, lo⟩
                                  have HLn2 := Lib.hid (HLi.out.trans lo)
                                  clear lo HB2
                                  go_wp2_with fail
                                  go_roundw
                                  case rel => exact ⟨j + 1, by omega, by go_num, by go_num, rfl, HLn2⟩
                                  case measure => simp [intOf]; omega
                                · obtain rfl : wd = j := by omega
                                  go_wp2_with fail
                                  refine (HB1.out _).mono ?_
                                  rintro e w4 ⟨rfl, lo⟩
                                  have HLn2 := Lib.hid (HLi.out.trans lo)
                                  clear lo HB1
                                  go_wp2_with fail
                                  go_roundw
                                  case rel => exact ⟨k + 1, by omega, by go_num, by rw [HGs1.out]; go_num, rfl, by rw [HRs1.out], HLn2⟩
                                  case measure => simp [intOf]; omega
                          · obtain rfl : n = k := by omega
                            have hrl : (Sg.rest K).length = g := by have := HRl.out n; rw [HA1.out, HGg.out] at this; exact this
                            have hpl := (HLn.out n (Nat.le_refl _))
                            have hc := Gk.cat_list (He.flat 2 (Sg.pre5 K n)) (He.flat 2 (Sg.rest K))
                            rw [← He.flat_append, HE5.out, ← HFile.out] at hc
                            have hso := size_flat (Sg.pre5 K n)
                            have hs1 := size_flat (Sg.rest K)
                            rw [hrl] at hs1
                            rw [HA1.out]
                            generalize (Sg.pre5 K n).length = ol at *
                            have hol : ol ≤ 40000 := by omega
                            clear hpl
                            go_wp2_with fail
                            go_ret2
                            exact ⟨rfl, HLw.out.trans HLe.out⟩
  · obtain rfl := (HWl.out.2 hlt).symm
    have HKR := Lib.hid (OwnK.row encS_len HO.out)
    obtain ⟨wa, hwa⟩ : ∃ wa, wa = w2 := ⟨_, rfl⟩
    subst hwa
    have HLw := HL2
    clear HWl HO
    have HKR : Hid (SRow wa (.slice q n d) K) := Lib.hid (by have := HKR.out; rwa [HKn.out] at this)
    rw [HKn.out]
    go_wp2_with fail
    have HE0 : Hid (He.flat 2 (Sg.pre1 K 0) = []) := Lib.hid rfl
    go_loopw [7, 8] (fun s7 s8 W => ∃ s : Nat, s ≤ tp ∧ s7 = .int .i64 ((2 ^ s : Nat) : Int) ∧ s8 = .int .i64 (s : Int) ∧ Hid (Lo wa W)) (fun _ s8 _ => tp - (intOf s8).toNat)
    case atStart => exact ⟨0, Nat.zero_le _, rfl, rfl, Lib.hid (Lo.refl _)⟩
    case round =>
      obtain ⟨s, hs, rfl, rfl, HLp⟩ := hrel
      have hpb := HPb.out s hs
      have htp := HTp.out
      by_cases hp : 2 * 2 ^ s ≤ n
      · obtain ⟨hs1, hs2⟩ := HPw.out s hp hs
        generalize 2 ^ s = P at *
        go_wp2_with fail
        go_roundw
        case rel => exact ⟨s + 1, hs1, by rw [hs2]; congr 1, by go_num, HLp⟩
        case measure => simp [intOf]; omega
      · obtain rfl := HPx.out s hp hs
        have htp := HTp.out
        have hpb := HPb.out s (Nat.le_refl _)
        have hpp := HPP.out
        rw [hpp] at hpb ⊢
        have HRow := Lib.hid (HHr.out wr _ rfl)
        have HLh := Lib.hid (HLp.out.alloc (.cells #[.int .i64 4, .int .i64 (16 + 8 * (n : Int) + 2 * (g : Int)), .int .i64 0, .int .i64 (2 * (n : Int)), .int .i64 (2 * (PP : Int)), .int .i64 (s : Int), .int .i64 (2 * (n : Int) - 2 * (PP : Int))] 3))
        go_wp2_with fail
        generalize wr.heap.size = H at *
        go_loopw [9, 11] (fun s9 s11 W => ∃ k : Nat, k ≤ 7 ∧ s11 = .int .i64 k ∧ s9 = .string ⟨(He.flat 2 (Sg.pre1 K k)).toArray⟩ ∧ Hid (Row W (.slice (some ⟨H, 0, none⟩) 7 7) (Sg.hd n g)) ∧ Hid (Lo wa W)) (fun _ s11 _ => 7 - (intOf s11).toNat)
        case atStart => exact ⟨0, by omega, rfl, rfl, HRow, HLh⟩
        case round =>
          obtain ⟨k, hk, rfl, rfl, HRw, HLa⟩ := hrel
          by_cases hlt : k < 7
          · obtain ⟨b', o', e', hcell⟩ := HRw.out.at_ hlt
            injection e' with e'
            injection e' with e1 e2
            subst e1 e2
            rw [Nat.zero_add] at hcell
            have hv := HHd.out k hlt
            have hcat := cat_flat (Sg.pre1 K k) ((Sg.hd n g).getD k 0)
            rw [← HP1.out k hlt] at hcat
            have hso := size_flat (Sg.pre1 K k)
            have hsb := size_two ((Sg.hd n g).getD k 0)
            have hpl := (HLn.out 0 (Nat.zero_le _))
            have hol : (Sg.pre1 K k).length ≤ 7 := by unfold Sg.pre1; rw [List.length_take]; omega
            generalize (Sg.hd n g).getD k 0 = x at *
            have HB1 := Lib.hid (fun W => rb2_any (v := x) hv.1 hv.2 W)
            generalize (Sg.pre1 K k).length = ol at *
            clear hpl
            go_wp2_with fail
            refine (HB1.out _).mono ?_
            rintro e w4 ⟨rfl, lo⟩
            have HLn2 := Lib.hid (HLa.out.trans lo)
            have HRn2 := Lib.hid (HRw.out.lo lo)
            clear lo HB1
            go_wp2_with fail
            go_roundw
            case rel => exact ⟨k + 1, by omega, by go_num, rfl, HRn2, HLn2⟩
            case measure => simp [intOf]; omega
          · obtain rfl : k = 7 := by omega
            rw [HE1.out, show ((7 : Nat) : Int) = 7 from rfl]
            clear HRw HRow HLh
            go_wp2_with fail
            go_loopw [9, 12] (fun s9 si W => ∃ k : Nat, k ≤ n ∧ si = .int .i64 k ∧ s9 = .string ⟨(He.flat 2 (Sg.pre2 K k)).toArray⟩ ∧ Hid (Lo wa W)) (fun _ si _ => n - (intOf si).toNat)
            case atStart => exact ⟨0, Nat.zero_le _, rfl, rfl, HLa⟩
            case round =>
              obtain ⟨k, hk, rfl, rfl, HLb⟩ := hrel
              by_cases hlt : k < n
              · have hk' : k < K.length := by rw [HKn.out]; exact hlt
                obtain ⟨b, off, e', r0, r1, r2, r3⟩ := SRow.at4 (RowK.lo HKR.out HLb.out) (Ch.getD_some hk')
                subst e'
                obtain ⟨a1, a2, a3, a4, a5, a6, a7, a8⟩ := HOk.out k hlt
                have hup := HUp.out k hlt
                have hpl := (HLn.out k hk)
                have hcat := cat_flat (Sg.pre2 K k) (K.getD k Ch.zs).to
                rw [← HP2.out k hlt] at hcat
                have hso := size_flat (Sg.pre2 K k)
                have hsb := size_two (K.getD k Ch.zs).to
                clear a8
                generalize K.getD k Ch.zs = x at *
                have HB1 := Lib.hid (fun W => rb2_any (v := x.to) (by omega) (by omega) W)
                generalize (Sg.pre2 K k).length = ol at *
                have hol : ol ≤ 40000 := by omega
                clear hpl
                go_wp2_with fail
                refine (HB1.out _).mono ?_
                rintro e w4 ⟨rfl, lo⟩
                have HLn2 := Lib.hid (HLb.out.trans lo)
                clear lo HB1
                go_wp2_with fail
                go_roundw
                case rel => exact ⟨k + 1, by omega, by go_num, rfl, HLn2⟩
                case measure => simp [intOf]; omega
              · obtain rfl : n = k := by omega
                have hc0 : (ByteArray.mk (He.flat 2 (Sg.pre2 K n)).toArray) ++ (ByteArray.mk #[0, 0]) = ByteArray.mk (He.flat 2 (Sg.pre3 K 0)).toArray := by
                  have h1 := cat_flat (Sg.pre2 K n) 0
                  have h2 := HE2.out
                  rw [h2] at h1
                  exact h1
                have hso := size_flat (Sg.pre2 K n)
                have hpl := (HLn.out n (Nat.le_refl _))
                have hs0 : (ByteArray.mk #[0, 0]).size = 2 := rfl
                generalize (Sg.pre2 K n).length = ol at *
                have hol : ol ≤ 40000 := by omega
                clear hpl
                go_wp2_with fail
                clear hc0 hso hs0 hol
                go_loopw [9, 13] (fun s9 si W => ∃ k : Nat, k ≤ n ∧ si = .int .i64 k ∧ s9 = .string ⟨(He.flat 2 (Sg.pre3 K k)).toArray⟩ ∧ Hid (Lo wa W)) (fun _ si _ => n - (intOf si).toNat)
                case atStart => exact ⟨0, Nat.zero_le _, rfl, rfl, HLb⟩
                case round =>
                  obtain ⟨k, hk, rfl, rfl, HLc⟩ := hrel
                  by_cases hlt : k < n
                  · have hk' : k < K.length := by rw [HKn.out]; exact hlt
                    obtain ⟨b, off, e', r0, r1, r2, r3⟩ := SRow.at4 (RowK.lo HKR.out HLc.out) (Ch.getD_some hk')
                    subst e'
                    obtain ⟨a1, a2, a3, a4, a5, a6, a7, a8⟩ := HOk.out k hlt
                    have hup := HUp.out k hlt
                    have hpl := (HLn.out k hk)
                    have hcat := cat_flat (Sg.pre3 K k) (K.getD k Ch.zs).fr
                    rw [← HP3.out k hlt] at hcat
                    have hso := size_flat (Sg.pre3 K k)
                    have hsb := size_two (K.getD k Ch.zs).fr
                    clear a8
                    generalize K.getD k Ch.zs = x at *
                    have HB1 := Lib.hid (fun W => rb2_any (v := x.fr) (by omega) (by omega) W)
                    generalize (Sg.pre3 K k).length = ol at *
                    have hol : ol ≤ 40000 := by omega
                    clear hpl
                    go_wp2_with fail
                    refine (HB1.out _).mono ?_
                    rintro e w4 ⟨rfl, lo⟩
                    have HLn2 := Lib.hid (HLc.out.trans lo)
                    clear lo HB1
                    go_wp2_with fail
                    go_roundw
                    case rel => exact ⟨k + 1, by omega, by go_num, rfl, HLn2⟩
                    case measure => simp [intOf]; omega
                  · obtain rfl : n = k := by omega
                    rw [HE3.out]
                    go_wp2_with fail
                    have HRw := Lib.hid (fun (x : Ch.Span) (W : World) => rrow_any x W)
                    have HPl := Lib.hid (fun (x : Int) (hx0 : -1000000 ≤ x) (hx1 : x ≤ 1000000) (W : World) => rplane_any x W hx0 hx1)
                    unfold aggS at HRw
                    go_loopw [9, 14, 15] (fun s9 si _ W => ∃ k : Nat, k ≤ n ∧ si = .int .i64 k ∧ s9 = .string ⟨(He.flat 2 (Sg.pre4 K k)).toArray⟩ ∧ Hid (Lo wa W)) (fun _ si _ _ => n - (intOf si).toNat)
                    case atStart => exact ⟨0, Nat.zero_le _, rfl, rfl, HLc⟩
                    case round =>
                      obtain ⟨k, hk, rfl, rfl, HLd⟩ := hrel
                      by_cases hlt : k < n
                      · have hk' : k < K.length := by rw [HKn.out]; exact hlt
                        have HC := Lib.hid (fun (W : World) (lo : Lo wa W) => (SRow.at4 (RowK.lo HKR.out lo) (Ch.getD_some hk')))
                        obtain ⟨b, off, e', r0, r1, r2, r3⟩ := HC.out _ HLd.out
                        subst e'
                        obtain ⟨a1, a2, a3, a4, a5, a6, a7, a8⟩ := HOk.out k hlt
                        have hup := HUp.out k hlt
                        have hpl := (HLn.out k hk)
                        have hcat := cat_flat (Sg.pre4 K k) (Sg.delta (K.getD k Ch.zs))
                        rw [← HP4.out k hlt] at hcat
                        have hso := size_flat (Sg.pre4 K k)
                        have hsb := size_two (Sg.delta (K.getD k Ch.zs))
                        have HRw1 := Lib.hid (HRw.out (K.getD k Ch.zs))
                        clear a8
                        generalize K.getD k Ch.zs = x at *
                        generalize (Sg.pre4 K k).length = ol at *
                        have hol : ol ≤ 40000 := by omega
                        clear hpl
                        cases hr : Sg.isRow x with
                        | true =>
                          have hdl : Sg.delta x = 0 := by unfold Sg.delta; rw [if_pos hr]
                          rw [hdl] at hcat hsb
                          rw [hr] at HRw1
                          have HB1 := Lib.hid (fun W => rb2_any (v := 0) (by omega) (by omega) W)
                          clear hdl hr
                          go_wp2_with fail
                          refine (HRw1.out _).mono ?_
                          rintro e w3 ⟨rfl, lo⟩
                          have HL4 := Lib.hid (HLd.out.trans lo)
                          obtain ⟨b', off', e', s0, s1, s2, s3⟩ := HC.out w3 HL4.out
                          injection e' with e'
                          injection e' with e1 e2
                          subst e1 e2
                          clear lo HRw1 r0 r1 r2 r3
                          go_wp2_with fail
                          refine (HB1.out _).mono ?_
                          rintro e w4 ⟨rfl, lo⟩
                          have HLn2 := Lib.hid (HL4.out.trans lo)
                          clear lo HB1
                          go_wp2_with fail
                          go_roundw
                          case rel => exact ⟨k + 1, by omega, by go_num, rfl, HLn2⟩
                          case measure => simp [intOf]; omega
                        | false =>
                          have hdl : Sg.delta x = Sg.plane (65536 + x.gl - x.fr) := by unfold Sg.delta; rw [if_neg (by rw [hr]; simp)]
                          rw [hdl] at hcat hsb
                          rw [hr] at HRw1
                          have hpb := Sg.plane_bound (n := 65536 + x.gl - x.fr) (by omega) (by omega)
                          have HP0 := Lib.hid (HPl.out (65536 + x.gl - x.fr) (by omega) (by omega))
                          generalize Sg.plane (65536 + x.gl - x.fr) = pv at *
                          have HB1 := Lib.hid (fun W => rb2_any (v := pv) hpb.1 hpb.2 W)
                          have eq1 : IntKind.i64.wrap (65536 + x.gl) = 65536 + x.gl := IntWalk.i64_in _ (by omega)
                          have eq2 : IntKind.i64.wrap (65536 + x.gl - x.fr) = 65536 + x.gl - x.fr := IntWalk.i64_in _ (by omega)
                          clear hdl hr
                          go_wp2_with fail
                          refine (HRw1.out _).mono ?_
                          rintro e w3 ⟨rfl, lo⟩
                          have HL4 := Lib.hid (HLd.out.trans lo)
                          obtain ⟨b', off', e', s0, s1, s2, s3⟩ := HC.out w3 HL4.out
                          injection e' with e'
                          injection e' with e1 e2
                          subst e1 e2
                          clear lo HRw1 r0 r1 r2 r3
                          go_wp2_with fail
                          have HPq := Lib.hid (fun k => HP0.out (w3.drewN k))
                          go_quiet (first | (go_at_call 107; exact quiet' (HPq.out _)))
                          have HL5 := Lib.hid (HL4.out.drewN nq)
                          go_wp2_with fail
                          refine (HB1.out _).mono ?_
                          rintro e w4 ⟨rfl, lo⟩
                          have HLn2 := Lib.hid (HL5.out.trans lo)
                          clear lo HB1
                          go_wp2_with fail
                          go_roundw
                          case rel => exact ⟨k + 1, by omega, by go_num, rfl, HLn2⟩
                          case measure => simp [intOf]; omega
                      · obtain rfl : n = k := by omega
                        rw [HE4.out]
                        go_wp2_with fail
                        have HA1 : Hid (K.take n = K) := Lib.hid (by rw [← HKn.out]; exact List.take_length)
                        clear HP1 HP2 HP3 HP4 HE1 HE2 HE3 HE4 HPl HHd HHr HPw HPx HPb
                        go_loopw [9, 16, 17, 18, 19, 20] (fun s9 s16 s17 s18 _ _ W => ∃ k : Nat, k ≤ n ∧ s18 = .int .i64 k ∧ s16 = .int .i64 ((Sg.glyphs (K.take k) : Nat) : Int) ∧ s9 = .string ⟨(He.flat 2 (Sg.pre5 K k)).toArray⟩ ∧ s17 = .string ⟨(He.flat 2 (Sg.rest (K.take k))).toArray⟩ ∧ Hid (Lo wa W)) (fun _ _ _ s18 _ _ _ => n - (intOf s18).toNat)
                        case atStart => exact ⟨0, Nat.zero_le _, rfl, rfl, rfl, rfl, HLd⟩
                        case round =>
                          obtain ⟨k, hk, rfl, rfl, rfl, rfl, HLe⟩ := hrel
                          by_cases hlt : k < n
                          · have hk' : k < K.length := by rw [HKn.out]; exact hlt
                            have HC := Lib.hid (fun (W : World) (lo : Lo wa W) => (SRow.at4 (RowK.lo HKR.out lo) (Ch.getD_some hk')))
                            obtain ⟨b, off, e', r0, r1, r2, r3⟩ := HC.out _ HLe.out
                            subst e'
                            obtain ⟨a1, a2, a3, a4, a5, a6, a7, a8⟩ := HOk.out k hlt
                            have hup := HUp.out k hlt
                            have hpl := (HLn.out k hk)
                            have hof := HOf.out k hlt
                            have HP5k := Lib.hid (HP5.out k)
                            have HRs1 := Lib.hid (HRs.out k hlt)
                            have hgs := HGs.out k hlt
                            have hgt := HTk.out (k + 1)
                            have HGs1 := Lib.hid hgs
                            have hrl := HRl.out k
                            have hso := size_flat (Sg.pre5 K k)
                            have hs1 := size_flat (Sg.rest (K.take k))
                            have HRw1 := Lib.hid (HRw.out (K.getD k Ch.zs))
                            have hwi : Sg.isRow (K.getD k Ch.zs) = true → ((Sg.wid (K.getD k Ch.zs) : Nat) : Int) = (K.getD k Ch.zs).to - (K.getD k Ch.zs).fr + 1 := fun h => by unfold Sg.wid; rw [if_pos h]; omega
                            have hwn : Sg.isRow (K.getD k Ch.zs) = false → Sg.wid (K.getD k Ch.zs) = 0 := fun h => by unfold Sg.wid; rw [if_neg (by rw [h]; simp)]
                            clear a8
                            generalize K.getD k Ch.zs = x at *
                            generalize (Sg.pre5 K k).length = ol at *
                            have hol : ol ≤ 40000 := by omega
                            clear hpl
                            generalize Sg.rest (K.take k) = R at *
                            generalize Sg.glyphs (K.take k) = g1 at *
                            generalize Sg.wid x = wd at *
                            have hgbd : g1 + wd ≤ g := by omega
                            clear hgs hgt
                            have hcat := cat_flat (Sg.pre5 K k) (Sg.offs K k)
                            rw [← HP5k.out] at hcat
                            rw [hrl] at hs1
                            cases hr : Sg.isRow x with
                            | false =>
                              have hw0 := hwn hr
                              rw [if_neg (by rw [hr]; simp)] at hof
                              rw [hof] at hcat
                              have hsb := size_two 0
                              rw [hr] at HRw1
                              have HB1 := Lib.hid (fun W => rb2_any (v := 0) (by omega) (by omega) W)
                              clear hof hwi hwn hr
                              go_wp2_with fail
                              refine (HRw1.out _).mono ?_
                              rintro e w3 ⟨rfl, lo⟩
                              have HL4 := Lib.hid (HLe.out.trans lo)
                              obtain ⟨b', off', e', s0, s1, s2, s3⟩ := HC.out w3 HL4.out
                              injection e' with e'
                              injection e' with e1 e2
                              subst e1 e2
                              clear lo HRw1 r0 r1 r2 r3
                              go_wp2_with fail
                              refine (HB1.out _).mono ?_
                              rintro e w4 ⟨rfl, lo⟩
                              have HLn2 := Lib.hid (HL4.out.trans lo)
                              clear lo HB1
                              go_wp2_with fail
                              go_roundw
                              case rel => exact ⟨k + 1, by omega, by go_num, by rw [HGs1.out, hw0]; rfl, rfl, by rw [HRs1.out, hw0, List.replicate_zero, List.append_nil], HLn2⟩
                              case measure => simp [intOf]; omega
                            | true =>
                              have hw1 := hwi hr
                              rw [if_pos hr] at hof
                              have hof2 : Sg.offs K k = 2 * ((n : Int) - k) + 2 * g1 := by rw [hof]; omega
                              rw [hof2] at hcat
                              have hsb := size_two (2 * ((n : Int) - k) + 2 * g1)
                              rw [hr] at HRw1
                              have HB1 := Lib.hid (fun W => rb2_any (v := 2 * ((n : Int) - k) + 2 * g1) (by omega) (by omega) W)
                              clear hof hof2 hwi hwn hr
                              go_wp2_with fail
                              refine (HRw1.out _).mono ?_
                              rintro e w3 ⟨rfl, lo⟩
                              have HL4 := Lib.hid (HLe.out.trans lo)
                              obtain ⟨b', off', e', s0, s1, s2, s3⟩ := HC.out w3 HL4.out
                              injection e' with e'
                              injection e' with e1 e2
                              subst e1 e2
                              clear lo HRw1 r0 r1 r2 r3
                              go_wp2_with fail
                              go_loopw [16, 17, 20] (fun s16 s17 s20 W => ∃ j : Nat, j ≤ wd ∧ s20 = .int .i64 (x.fr + (j : Int)) ∧ s16 = .int .i64 ((g1 : Int) + (j : Int)) ∧ s17 = .string ⟨(He.flat 2 (R ++ List.replicate j x.gl)).toArray⟩ ∧ Hid (Lo wa W)) (fun _ _ s20 _ => wd - ((intOf s20) - x.fr).toNat)
                              case atStart => exact ⟨0, Nat.zero_le _, by simp, by simp, by rw [List.replicate_zero, List.append_nil], HL4⟩
                              case round =>
                                obtain ⟨j, hj, rfl, rfl, rfl, HLi⟩ := hrel
                                clear s0 s1 s2 s3
                                obtain ⟨b', off', e', s0, s1, s2, s3⟩ := HC.out _ HLi.out
                                injection e' with e'
                                injection e' with e1 e2
                                subst e1 e2
                                by_cases hjl : j < wd
                                · have hcat2 := cat_flat (R ++ List.replicate j x.gl) x.gl
                                  rw [List.append_assoc, ← List.replicate_succ'] at hcat2
                                  have hs2 := size_flat (R ++ List.replicate j x.gl)
                                  rw [List.length_append, List.length_replicate, hrl] at hs2
                                  have hsb2 := size_two x.gl
                                  have HB2 := Lib.hid (fun W => rb2_any (v := x.gl) a6 a7 W)
                                  clear hs1
                                  go_wp2_with fail
                                  refine (HB2.out _).mono ?_
                                  rintro e w4 ⟨rfl, lo⟩
                                  have HLn2 := Lib.hid (HLi.out.trans lo)
                                  clear lo HB2
                                  go_wp2_with fail
                                  go_roundw
                                  case rel => exact ⟨j + 1, by omega, by go_num, by go_num, rfl, HLn2⟩
                                  case measure => simp [intOf]; omega
                                · obtain rfl : wd = j := by omega
                                  go_wp2_with fail
                                  refine (HB1.out _).mono ?_
                                  rintro e w4 ⟨rfl, lo⟩
                                  have HLn2 := Lib.hid (HLi.out.trans lo)
                                  clear lo HB1
                                  go_wp2_with fail
                                  go_roundw
                                  case rel => exact ⟨k + 1, by omega, by go_num, by rw [HGs1.out]; go_num, rfl, by rw [HRs1.out], HLn2⟩
                                  case measure => simp [intOf]; omega
                          · obtain rfl : n = k := by omega
                            have hrl : (Sg.rest K).length = g := by have := HRl.out n; rw [HA1.out, HGg.out] at this; exact this
                            have hpl := (HLn.out n (Nat.le_refl _))
                            have hc := Gk.cat_list (He.flat 2 (Sg.pre5 K n)) (He.flat 2 (Sg.rest K))
                            rw [← He.flat_append, HE5.out, ← HFile.out] at hc
                            have hso := size_flat (Sg.pre5 K n)
                            have hs1 := size_flat (Sg.rest K)
                            rw [hrl] at hs1
                            rw [HA1.out]
                            generalize (Sg.pre5 K n).length = ol at *
                            have hol : ol ≤ 40000 := by omega
                            clear hpl
                            go_wp2_with fail
                            go_ret2
                            exact ⟨rfl, HLw.out.trans HLe.out⟩

set_option maxRecDepth 100000 in
set_option maxHeartbeats 1600000 in
theorem rput9_any (v : Value) (l : List Ch.Span) (w : World) (h : SRow w v l) : Calls Tryz.prog 75 #[v] w fun e w' => e = strErr (Sg.put l) ∧ Lo w w' := by
  by_cases hm : (Sg.manyOf l).2.2 = 0
  · exact rput_ok v l w h hm
  · have HM := Lib.hid (rmany_any v l w h)
    have hput : Sg.put l = ([], (Sg.manyOf l).2.2) := by unfold Sg.put; rw [if_pos hm]
    unfold manyEnd at HM
    rw [hput]
    unfold strErr
    generalize Sg.manyOf l = y at *
    obtain ⟨y1, y2, y3⟩ := y
    dsimp only at hm HM ⊢
    clear hput h
    go_enter Tryz.func75, Tryz.ntmps75
    go_wp2_with fail
    refine HM.out.mono ?_
    rintro e w1 ⟨rfl, lo⟩
    have HL := Lib.hid lo
    clear lo HM
    go_wp2_with fail
    go_ret2
    exact ⟨rfl, HL.out⟩
end Go.Proofs.YtppihpjcdieeoaaGreatDoor
