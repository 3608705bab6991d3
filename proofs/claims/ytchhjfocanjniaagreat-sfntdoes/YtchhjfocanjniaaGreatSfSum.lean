/-
  Contracts of package sfnt's Sum, areTagged, fileSize, fields and header. No conditions beyond those stated.
-/
import Derived.Test.YtchhjfocanjniaaGreatSfBase
namespace Sf
/-- Few tables, and short. -/
def Small (l : List Tab) : Prop := l.length ≤ 70 ∧ ∀ x ∈ l, x.1.length ≤ 20 ∧ x.2.length ≤ 4000
theorem Small.at_ {l : List Tab} (h : Small l) {k : Nat} {x : Tab} (hx : l[k]? = some x) : x.1.length ≤ 20 ∧ x.2.length ≤ 4000 := h.2 x (List.mem_of_getElem? hx)
theorem tagAt_some {l : List Tab} {k : Nat} {x : Tab} (h : l[k]? = some x) : tagAt l k = x.1 := by unfold tagAt; rw [List.getD, h]; rfl
theorem datAt_some {l : List Tab} {k : Nat} {x : Tab} (h : l[k]? = some x) : datAt l k = x.2 := by unfold datAt; rw [List.getD, h]; rfl
def tagged (l : List Tab) : Bool := (List.range l.length).all fun i => okAt l i
/-- The tag ahead of place k. -/
def before (l : List Tab) (k : Nat) : List UInt8 := if k = 0 then [] else tagAt l (k - 1)
theorem before_succ {l : List Tab} {k : Nat} {x : Tab} (h : l[k]? = some x) : before l (k + 1) = x.1 := by
  unfold before; rw [if_neg (by omega)]; exact tagAt_some h
theorem ok_step {l : List Tab} {k : Nat} {x : Tab} (h : l[k]? = some x) : okAt l k = (isTag x.1 && less (before l k) x.1) := by
  unfold okAt before
  rw [tagAt_some h]
  by_cases hk : k = 0
  · subst hk
    cases ht : isTag x.1 with
    | false => rfl
    | true =>
      have h4 := tag_len ht
      have : less [] x.1 = true := by
        unfold less
        cases hx : x.1 with
        | nil => rw [hx] at h4; simp at h4
        | cons a r => simp
      simp [this]
  · simp [hk]
theorem tagged_false {l : List Tab} {k : Nat} (hk : k < l.length) (h : okAt l k = false) : tagged l = false := by
  rw [Bool.eq_false_iff]
  intro hc
  rw [List.all_eq_true.1 hc k (List.mem_range.2 hk)] at h
  cases h
theorem tagged_true {l : List Tab} (h : ∀ k, k < l.length → okAt l k = true) : tagged l = true := by
  unfold tagged
  rw [List.all_eq_true]
  exact fun k hk => h k (List.mem_range.1 hk)
theorem right_tagged (l : List Tab) : right l = (tagged l && decide (l.length ≤ 64)) := rfl
theorem wide_snoc {l : List Tab} {k : Nat} {x : Tab} (h : l[k]? = some x) : wide l (k + 1) = wide l k + (Bn.up x.2 4).length := by
  rw [wide_step (List.getElem?_eq_some_iff.1 h).1, datAt_some h]
theorem wide_small {l : List Tab} (hs : Small l) : ∀ k, k ≤ l.length → wide l k ≤ 4004 * k
  | 0, _ => by simp [wide]
  | k + 1, hk => by
    obtain ⟨x, hx⟩ := some_at (l := l) (k := k) (by omega)
    have h1 := wide_small hs k (by omega)
    have h2 := (hs.at_ hx).2
    have h3 := Bn.up_len x.2 4
    rw [wide_snoc hx]
    omega
theorem total_small {l : List Tab} (hs : Small l) : total l ≤ 16777216 := by
  have := wide_small hs l.length (Nat.le_refl _)
  have := hs.1
  unfold total
  omega
theorem pow2_bits : ∀ n, n < 71 → 0 < n → pow2 n = (2 ^ (Go.Lib.bitLen n - 1), Go.Lib.bitLen n - 1) ∧ 1 ≤ Go.Lib.bitLen n ∧ Go.Lib.bitLen n ≤ 7 ∧ 2 ^ (Go.Lib.bitLen n - 1) ≤ n := by decide +kernel
theorem fits_nat (v n : Nat) (h : v < 256 ^ n) : Bn.fits (v : Int) (n : Int) = true := by
  unfold Bn.fits
  rw [if_neg (by omega), Int.natAbs_natCast]
  simp only [Bool.and_eq_true, decide_eq_true_eq]
  omega
theorem put_three (a b c : Nat) (ha : a < 4294967296) (hb : b < 4294967296) (hc : c < 4294967296) : Bn.put [4, 4, 4] [(a : Int), (b : Int), (c : Int)] = (Bn.bytes a 4 ++ Bn.bytes b 4 ++ Bn.bytes c 4, 0) := by
  have f1 := fits_nat a 4 (by omega)
  have f2 := fits_nat b 4 (by omega)
  have f3 := fits_nat c 4 (by omega)
  unfold Bn.put
  rw [if_neg (by rw [show Bn.allSizes _ = true from by decide]; simp), if_neg]
  · simp [Bn.join]
  · simp only [Bn.allFit]
    rw [show ((4 : Nat) : Int) = 4 from rfl] at f1 f2 f3
    rw [f1, f2, f3]
    simp
theorem put_five (a b c d e : Nat) (ha : a < 4294967296) (hb : b < 65536) (hc : c < 65536) (hd : d < 65536) (he : e < 65536) : Bn.put [4, 2, 2, 2, 2] [(a : Int), (b : Int), (c : Int), (d : Int), (e : Int)] = (Bn.bytes a 4 ++ Bn.bytes b 2 ++ Bn.bytes c 2 ++ Bn.bytes d 2 ++ Bn.bytes e 2, 0) := by
  have f1 := fits_nat a 4 (by omega)
  have f2 := fits_nat b 2 (by omega)
  have f3 := fits_nat c 2 (by omega)
  have f4 := fits_nat d 2 (by omega)
  have f5 := fits_nat e 2 (by omega)
  unfold Bn.put
  rw [if_neg (by rw [show Bn.allSizes _ = true from by decide]; simp), if_neg]
  · simp [Bn.join]
  · simp only [Bn.allFit]
    rw [show ((4 : Nat) : Int) = 4 from rfl] at f1
    rw [show ((2 : Nat) : Int) = 2 from rfl] at f2 f3 f4 f5
    rw [f1, f2, f3, f4, f5]
    simp
theorem ver_nat {v : Int} (h : isVer v = true) : ∃ u : Nat, v = u ∧ u < 4294967296 := by
  rcases isVer_cases h with rfl | rfl
  · exact ⟨65536, rfl, by omega⟩
  · exact ⟨1330926671, rfl, by omega⟩
theorem put_header (v : Int) (n p s : Nat) (hv : isVer v = true) (hn : n ≤ 70) (hp : pow2 n = (p, s)) (h1 : p ≤ n) (h2 : s ≤ 70) : Bn.put [4, 2, 2, 2, 2] [v, (n : Int), ((16 * p : Nat) : Int), (s : Int), ((16 * (n - p) : Nat) : Int)] = (header v n, 0) := by
  obtain ⟨u, rfl, hu⟩ := ver_nat hv
  rw [put_five _ _ _ _ _ hu (by omega) (by omega) (by omega) (by omega)]
  unfold header
  rw [hp]
  simp only
  rw [show ((16 * n : Nat) : Int) - ((16 * p : Nat) : Int) = ((16 * (n - p) : Nat) : Int) by omega]
end Sf
namespace Go.Proofs.YtchhjfocanjniaaGreat
open Go.RowKit

theorem row5 (w : World) (B : Nat) (hB : B = w.heap.size) (a b c d f : Int) : Row (w.alloc (.cells #[.int .i64 a, .int .i64 b, .int .i64 c, .int .i64 d, .int .i64 f] 3)) (.slice (some ⟨B, 0, none⟩) 5 5) [a, b, c, d, f] :=
  hB ▸ .inr ⟨w.heap.size, 0, 5, rfl, by simp, by simp, by simp, fun i hi => by
    obtain rfl | rfl | rfl | rfl | rfl : i = 0 ∨ i = 1 ∨ i = 2 ∨ i = 3 ∨ i = 4 := by simp at hi; omega
    all_goals simp [go_sem]⟩

set_option maxHeartbeats 800000 in
theorem tsum_any (x : Sf.Tab) (w : World) (h : x.2.length ≤ 4611686018427387904) : Calls Tryz.prog 11 #[aggT x] w fun e w' => e = .returned (.int .i64 (Sf.tsum x : Nat)) ∧ Lo w w' := by
  obtain ⟨t, d⟩ := x
  unfold Sf.tsum aggT
  simp only at *
  by_cases h1 : t = Sf.headTag
  · have heq : (t == [104, 101, 97, 100]) = true := by simpa [Sf.headTag] using h1
    by_cases h2 : 12 ≤ d.length
    · rw [if_pos ⟨h1, h2⟩]
      have HS := Lib.hid (fun W => bsum_any (Sf.noughts d) W (by unfold Sf.noughts; simp; omega))
      have HR := Lib.hid (fun W : World => Tryz.strings_Repeat ⟨#[0]⟩ 4 W (by omega) (by show 1 * _ ≤ _; omega))
      have hx1 : (⟨d.toArray⟩ : ByteArray).extract 0 8 = ⟨(d.take 8).toArray⟩ := by rw [Gk.extract_list]; rfl
      have hx2 : (⟨d.toArray⟩ : ByteArray).extract 12 d.length = ⟨(d.drop 12).toArray⟩ := Gk.extract_from d 12
      have hc1 : (⟨(d.take 8).toArray⟩ : ByteArray) ++ ⟨([0, 0, 0, 0] : List UInt8).toArray⟩ = ⟨(d.take 8 ++ [0, 0, 0, 0]).toArray⟩ := Gk.cat_list _ _
      have hc2 : (⟨(d.take 8 ++ [0, 0, 0, 0]).toArray⟩ : ByteArray) ++ ⟨(d.drop 12).toArray⟩ = ⟨(Sf.noughts d).toArray⟩ := Gk.cat_list _ _
      generalize Sf.noughts d = nd at *
      clear h1
      go_enter Tryz.func11, Tryz.ntmps11
      go_wp2_with fail
      refine (HR.out _).mono ?_
      rintro e w1 ⟨rfl, hlo⟩
      have HL := Lib.hid (((Lo.refl w).alloc _).trans hlo)
      have hcd : w1.cell? ⟨w.heap.size, 1, none⟩ = some (.string ⟨d.toArray⟩) := by
        rw [Lo.cell hlo (by simp)]; simp [go_sem]
      clear hlo HR
      rw [show Lib.repeatL (ByteArray.mk #[0]).data.toList 4 = [0, 0, 0, 0] from rfl]
      go_wp2_with fail
      go_quiet (first | (go_at_call 35; exact quiet' (HS.out _)))
      have HL2 := Lib.hid (HL.out.drewN nq)
      go_wp2_with fail
      go_ret
      exact ⟨rfl, HL2.out⟩
    · rw [if_neg (fun h => h2 h.2)]
      have HS := Lib.hid (fun W => bsum_any d W (by omega))
      clear h1
      go_enter Tryz.func11, Tryz.ntmps11
      go_wp2_with fail
      refine (HS.out _).mono ?_
      rintro e w1 ⟨rfl, rfl⟩
      go_wp2_with fail
      go_ret
      exact ⟨rfl, (Lo.refl w).alloc _⟩
  · rw [if_neg (fun h => h1 h.1)]
    have heq : (t == [104, 101, 97, 100]) = false := by simpa [Sf.headTag] using h1
    have HS := Lib.hid (fun W => bsum_any d W (by omega))
    clear h1
    go_enter Tryz.func11, Tryz.ntmps11
    go_wp2_with fail
    refine (HS.out _).mono ?_
    rintro e w1 ⟨rfl, rfl⟩
    go_wp2_with fail
    go_ret
    exact ⟨rfl, (Lo.refl w).alloc _⟩

set_option maxHeartbeats 800000 in
theorem areTagged_any (l : List Sf.Tab) (v : Value) (w : World) (h : TRow w v l) (hs : ∀ x ∈ l, x.1.length ≤ 4611686018427387904) : Calls Tryz.prog 23 #[v] w fun e w' => e = .returned (.bool (Sf.tagged l)) ∧ Lo w w' := by
  obtain ⟨p, c, rfl, hlen⟩ := h.form
  have HR := Lib.hid h
  have HS := Lib.hid hs
  generalize hy : Sf.tagged l = y
  have HY := Lib.hid hy
  generalize hn : l.length = n at *
  have HN := Lib.hid hn
  clear hn h hy hs
  go_enter Tryz.func23, Tryz.ntmps23
  go_wp2_with fail
  go_loopw [3, 5, 8] (fun bf _ i W => ∃ (k : Nat) (b : List UInt8), k ≤ n ∧ i = .int .i64 k ∧ bf = .string ⟨b.toArray⟩ ∧ Hid (b = Sf.before l k) ∧ Hid (∀ j, j < k → Sf.okAt l j = true) ∧ Hid (Lo w W)) (fun _ _ i _ => n - (intOf i).toNat)
  case atStart => exact ⟨0, [], Nat.zero_le _, rfl, rfl, Lib.hid rfl, Lib.hid (by omega), Lib.hid (Lo.refl _)⟩
  case round =>
    obtain ⟨k, bf, hk, rfl, rfl, HB, HI, HL⟩ := hrel
    by_cases hlt : k < n
    · have HK : Hid (k < l.length) := Lib.hid (by rw [HN.out]; exact hlt)
      obtain ⟨x, hx⟩ := Sf.some_at HK.out
      obtain ⟨b, off, rfl, hc1, hc2⟩ := TRow.at2 (HR.out.lo HL.out) hx
      have HX := Lib.hid hx
      have HOk := Lib.hid (Sf.ok_step hx)
      rw [← HB.out] at HOk
      have HT := Lib.hid (fun W => isTag_any x.1 W (by have := HS.out x (List.mem_of_getElem? hx); omega))
      have hle := Sf.le_mk x.1 bf
      clear hx
      by_cases h1 : Sf.isTag x.1 = true
      · rw [h1] at HT HOk
        by_cases h2 : Sf.less bf x.1 = true
        · rw [h2] at HOk hle
          clear h1 h2
          simp only [Bool.not_true] at hle
          go_wp2_with fail
          refine (HT.out _).mono ?_
          rintro e w1 ⟨rfl, rfl⟩
          go_wp2_with fail
          go_roundw
          case rel => exact ⟨k + 1, x.1, by omega, by go_num, rfl, Lib.hid (Sf.before_succ HX.out).symm, Lib.hid (by
            intro j hj
            rcases Nat.lt_or_ge j k with h | h
            · exact HI.out j h
            · obtain rfl : j = k := by omega
              rw [HOk.out]; rfl), Lib.hid (HL.out.alloc _)⟩
          case measure => simp [intOf]; omega
        · have h2' : Sf.less bf x.1 = false := by simpa using h2
          rw [h2'] at HOk hle
          have HE : Hid (y = false) := Lib.hid (by rw [← HY.out]; exact Sf.tagged_false HK.out (by rw [HOk.out]; rfl))
          clear h1 h2 h2'
          simp only [Bool.not_false] at hle
          go_wp2_with fail
          refine (HT.out _).mono ?_
          rintro e w1 ⟨rfl, rfl⟩
          go_wp2_with fail
          go_ret
          exact ⟨ret_bool HE.out.symm, HL.out.alloc _⟩
      · have h1' : Sf.isTag x.1 = false := by simpa using h1
        rw [h1'] at HT HOk
        have HE : Hid (y = false) := Lib.hid (by rw [← HY.out]; exact Sf.tagged_false HK.out (by rw [HOk.out]; rfl))
        clear h1 h1' hle
        go_wp2_with fail
        refine (HT.out _).mono ?_
        rintro e w1 ⟨rfl, rfl⟩
        go_wp2_with fail
        go_ret
        exact ⟨ret_bool HE.out.symm, HL.out.alloc _⟩
    · have HE : Hid (y = true) := Lib.hid (by rw [← HY.out]; exact Sf.tagged_true (fun j hj => HI.out j (by rw [HN.out] at hj; omega)))
      go_wp2_with fail
      go_ret
      exact ⟨ret_bool HE.out.symm, HL.out⟩

set_option maxHeartbeats 800000 in
theorem fileSize_any (l : List Sf.Tab) (v : Value) (w : World) (h : TRow w v l) (hs : Sf.Small l) : Calls Tryz.prog 24 #[v] w fun e w' => e = .returned (.int .i64 (Sf.total l : Nat)) ∧ Lo w w' := by
  obtain ⟨p, c, rfl, hlen⟩ := h.form
  have HR := Lib.hid h
  have HS := Lib.hid hs
  have hs70 := hs.1
  generalize hy : Sf.total l = y
  have HY := Lib.hid hy
  generalize hn : l.length = n at *
  have HN := Lib.hid hn
  clear hn h hy hs
  go_enter Tryz.func24, Tryz.ntmps24
  go_wp2_with fail
  refine (recordsEnd_any n _ (by omega)).mono ?_
  rintro e w1 ⟨rfl, rfl⟩
  go_wp2_with fail
  go_loopw [3, 5, 11] (fun s _ i W => ∃ k m : Nat, k ≤ n ∧ i = .int .i64 k ∧ s = .int .i64 m ∧ Hid (m = 12 + 16 * n + Sf.wide l k) ∧ Hid (Lo w W)) (fun _ _ i _ => n - (intOf i).toNat)
  case atStart => exact ⟨0, _, Nat.zero_le _, rfl, rfl, Lib.hid (by simp [Sf.wide]), Lib.hid (Lo.refl _)⟩
  case round =>
    obtain ⟨k, m, hk, rfl, rfl, HM, HL⟩ := hrel
    have hm : m ≤ 1000000 := by rw [HM.out]; have := Sf.wide_small HS.out k (by rw [HN.out]; exact hk); omega
    by_cases hlt : k < n
    · obtain ⟨x, hx⟩ := Sf.some_at (l := l) (k := k) (by rw [HN.out]; exact hlt)
      obtain ⟨b, off, rfl, hc1, hc2⟩ := TRow.at2 (HR.out.lo HL.out) hx
      have HW := Lib.hid (Sf.wide_snoc hx)
      have hx4 := (HS.out.at_ hx).2
      have HP := Lib.hid (fun W => paddedSize_any x W (by omega))
      have hu : (Bn.up x.2 4).length ≤ 4004 := by rw [Bn.up_len]; omega
      unfold aggT at HP
      generalize (Bn.up x.2 4).length = q at *
      clear hx
      go_wp2_with fail
      refine (HP.out _).mono ?_
      rintro e w2 ⟨rfl, hlo⟩
      have HL2 := Lib.hid ((HL.out.alloc _).trans hlo)
      clear hlo
      go_wp2_with fail
      go_roundw
      case rel => exact ⟨k + 1, m + q, by omega, by go_num, by go_num, Lib.hid (by rw [HM.out, HW.out]; omega), HL2⟩
      case measure => simp [intOf]; omega
    · have HE : Hid (m = y) := Lib.hid (by rw [← HY.out, HM.out]; unfold Sf.total; rw [HN.out]; congr 2; omega)
      go_wp2_with fail
      go_ret
      exact ⟨ret_int (by rw [HE.out]), HL.out⟩

set_option maxHeartbeats 800000 in
theorem fields_any (l m : List Int) (v u : Value) (w : World) (hr : Row w v l) (hr2 : Row w u m) (hn : l.length ≤ 100000) : Calls Tryz.prog 28 #[v, u] w fun e w' => e = .returned (.string ⟨(Bn.put l m).1.toArray⟩) ∧ Lo w w' := by
  have HP := Lib.hid (put_any l m v u w hr hr2 hn)
  unfold strErr at HP
  generalize (Bn.put l m).1 = y at *
  obtain ⟨p, c, rfl, hlen⟩ := hr.form
  obtain ⟨p2, c2, rfl, hlen2⟩ := hr2.form
  clear hr hr2
  go_enter Tryz.func28, Tryz.ntmps28
  go_wp2_with fail
  refine HP.out.mono ?_
  rintro e w1 ⟨rfl, lo⟩
  clear HP
  go_wp2_with fail
  go_ret
  exact ⟨rfl, lo⟩

set_option maxHeartbeats 800000 in
theorem header_any (v : Int) (n : Nat) (w : World) (hn : n ≤ 70) (hv : Sf.isVer v = true) : Calls Tryz.prog 26 #[.int .i64 v, .int .i64 n] w fun e w' => e = .returned (.string ⟨(Sf.header v n).toArray⟩) ∧ Lo w w' := by
  by_cases h0 : n = 0
  · subst h0
    have HF := Lib.hid (fun (W : World) (v' u : Value) (h : Row W v' [4, 2, 2, 2, 2]) (k : Row W u [v, 0, 0, 0, 0]) => fields_any _ _ v' u W h k (by simp))
    have hp := Sf.put_header v 0 0 0 hv (by omega) rfl (by omega) (by omega)
    rw [show Bn.put [4, 2, 2, 2, 2] [v, 0, 0, 0, 0] = (Sf.header v 0, 0) from hp] at HF
    generalize Sf.header v 0 = y at *
    clear hp hv
    go_enter Tryz.func26, Tryz.ntmps26
    go_wp2_with fail
    refine (HF.out _ _ _ ((row5 w _ rfl 4 2 2 2 2).lo ((Lo.refl _).alloc _)) (row5 _ _ (by simp) v 0 0 0 0)).mono ?_
    rintro e w1 ⟨rfl, hlo⟩
    have HL := Lib.hid ((((Lo.refl w).alloc _).alloc _).trans hlo)
    clear hlo HF
    go_wp2_with fail
    go_ret
    exact ⟨rfl, HL.out⟩
  · obtain ⟨e1, e2, e3, e4⟩ := Sf.pow2_bits n (by omega) (by omega)
    have HB := Lib.hid (fun W => Tryz.bits_Len (n : Int) W (by omega) (by omega))
    rw [Int.toNat_natCast] at HB
    generalize Lib.bitLen n = m at *
    obtain ⟨s, rfl⟩ : ∃ s, m = s + 1 := ⟨m - 1, by omega⟩
    simp only [Nat.add_sub_cancel] at e1 e4
    have hp := Sf.put_header v n (2 ^ s) s hv (by omega) e1 e4 (by omega)
    have hw : wrap64 ((2 : Int) ^ s) = ((2 ^ s : Nat) : Int) := by
      rw [Int.natCast_pow]; exact wrap_id (by have : (0 : Int) ≤ 2 ^ s := Int.pow_nonneg (by omega); omega) (by rw [show (2 : Int) ^ s = ((2 ^ s : Nat) : Int) by rw [Int.natCast_pow]; rfl]; omega)
    generalize 2 ^ s = P at *
    have HF := Lib.hid (fun (W : World) (v' u : Value) (h : Row W v' [4, 2, 2, 2, 2]) (k : Row W u [v, n, (16 * P : Nat), s, (16 * (n - P) : Nat)]) => fields_any _ _ v' u W h k (by simp))
    rw [hp] at HF
    generalize Sf.header v n = y at *
    clear hv e1 hp
    go_enter Tryz.func26, Tryz.ntmps26
    go_wp2_with fail
    refine (HB.out _).mono ?_
    rintro e w1 ⟨rfl, rfl⟩
    go_wp2_with fail
    refine (HF.out _ _ _ ((row5 w1 _ rfl 4 2 2 2 2).lo ((Lo.refl _).alloc _)) ?_).mono ?_
    · have := row5 (w1.alloc (.cells #[.int .i64 4, .int .i64 2, .int .i64 2, .int .i64 2, .int .i64 2] 3)) (w1.heap.size + 1) (by simp) v n (16 * P : Nat) s (16 * (n - P) : Nat)
      rw [show ((16 * P : Nat) : Int) = 16 * (P : Int) by omega, show ((16 * (n - P) : Nat) : Int) = 16 * ((n : Int) - P) by omega] at *
      exact this
    rintro e w2 ⟨rfl, hlo⟩
    have HL := Lib.hid ((((Lo.refl w1).alloc _).alloc _).trans hlo)
    clear hlo HF
    go_wp2_with fail
    go_ret
    exact ⟨rfl, HL.out⟩
end Go.Proofs.YtchhjfocanjniaaGreat
