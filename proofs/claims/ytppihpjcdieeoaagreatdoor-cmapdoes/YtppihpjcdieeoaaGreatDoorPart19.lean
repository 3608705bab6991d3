/-
  Facts that the walks rest on: BnPut, ChPut, ChPut2, GkCopy. No conditions beyond those stated.
-/
import Derived.Test.YtppihpjcdieeoaaGreatDoorPart03
import Derived.Test.YtppihpjcdieeoaaGreatDoorPart04
import Derived.Test.YtppihpjcdieeoaaGreatDoorPart18
import Derived.Test.YtppihpjcdieeoaaGreatDoorGround
import Derived.Test.YtppihpjcdieeoaaGreatDoorPart02
import Derived.Laws.CopyOwn
import Derived.Deep.RegionHeld3
/-
  The contract of bin.Put: it answers what the plain function on bytes says. No conditions beyond those stated.
-/
namespace Bn
theorem join_snoc : ∀ (a b : List Int) (z x : Int), a.length = b.length → join (a ++ [z]) (b ++ [x]) = join a b ++ bytes x z.natAbs
  | [], [], z, x, _ => by simp [join]
  | n :: r, v :: s, z, x, h => by
    rw [List.cons_append, List.cons_append, join, join, join_snoc r s z x (by simpa using h), List.append_assoc]
  | [], v :: s, _, _, h => by simp at h
  | n :: r, [], _, _, h => by simp at h
theorem allFit_snoc : ∀ (a b : List Int) (z x : Int), a.length = b.length → allFit (a ++ [z]) (b ++ [x]) = (allFit a b && fits x z)
  | [], [], z, x, _ => by simp [allFit]
  | n :: r, v :: s, z, x, h => by
    rw [List.cons_append, List.cons_append, allFit, allFit, allFit_snoc r s z x (by simpa using h), Bool.and_assoc]
  | [], v :: s, _, _, h => by simp at h
  | n :: r, [], _, _, h => by simp at h
theorem allFit_false : ∀ (a b : List Int) (k : Nat), k < a.length → k < b.length → fits (b.getD k 0) (a.getD k 0) = false → allFit a b = false
  | n :: r, v :: s, 0, _, _, h => by
    have h' : fits v n = false := h
    rw [allFit, h']; rfl
  | n :: r, v :: s, k + 1, h1, h2, h => by
    have h' : fits (s.getD k 0) (r.getD k 0) = false := by simpa using h
    rw [allFit, allFit_false r s k (by simpa using h1) (by simpa using h2) h', Bool.and_false]
  | [], _, k, h, _, _ => by simp at h
  | _ :: _, [], k, _, h, _ => by simp at h
theorem join_len_le : ∀ (a b : List Int), allSizes a = true → (join a b).length ≤ 4 * a.length
  | [], _, _ => by simp [join]
  | n :: r, [], _ => by simp [join]
  | n :: r, v :: s, h => by
    simp only [allSizes, List.all_cons, Bool.and_eq_true] at h
    have h1 := isSize_wide h.1
    have h2 := join_len_le r s h.2
    rw [join, List.length_append, bytes_len, List.length_cons]; omega
/-- A byte of a number below 0 too: shifted down. -/
theorem bytes_at (v : Int) (q t : Nat) (h : t < q) (hs0 : 0 ≤ v + ((256 ^ q : Nat) : Int)) : ((bytes v q).getD t 0).toNat = ((v / (2 : Int) ^ (8 * (q - 1 - t))) % 256).toNat := by
  have hp : (2 : Int) ^ (8 * (q - 1 - t)) = ((256 ^ (q - 1 - t) : Nat) : Int) := by
    rw [Int.pow_mul, Int.natCast_pow]; rfl
  rw [hp]
  unfold bytes tail
  have hg : ∀ u : Nat, ((List.range q).map fun t => dig u (q - 1 - t)).getD t 0 = dig u (q - 1 - t) := by
    intro u
    simp [List.getD, h]
  rw [hg, dig_toNat]
  generalize hj : q - 1 - t = j
  have hpos := pow_pos' j
  by_cases hv : v < 0
  · rw [if_pos hv]
    have hsp : 256 ^ q = 256 ^ j * (256 * 256 ^ t) := by
      rw [← Nat.pow_succ', ← Nat.pow_add]; congr 1; omega
    rw [hsp] at hs0 ⊢
    obtain ⟨u, hu⟩ := Int.eq_ofNat_of_zero_le hs0
    rw [hu, Int.toNat_natCast]
    have hv' : v = (u : Int) + ((256 ^ j : Nat) : Int) * (-(256 * 256 ^ t : Nat) : Int) := by
      rw [Int.mul_neg, ← Int.natCast_mul]; omega
    rw [hv', Int.add_mul_ediv_left _ _ (by omega)]
    have : ((u : Int) / ((256 ^ j : Nat) : Int) + (-(256 * 256 ^ t : Nat) : Int)) % 256 = (u / 256 ^ j % 256 : Nat) := by
      rw [← Int.natCast_ediv]
      omega
    rw [this, Int.toNat_natCast]
  · rw [if_neg hv]
    obtain ⟨u, rfl⟩ := Int.eq_ofNat_of_zero_le (show 0 ≤ v by omega)
    rw [Int.toNat_natCast, ← Int.natCast_ediv]
    omega
theorem fits_ge {v z : Int} (h : fits v z = true) : 0 ≤ v + ((256 ^ z.natAbs : Nat) : Int) := by
  unfold fits at h
  generalize 256 ^ z.natAbs = P at *
  by_cases hz : z < 0
  · rw [if_pos hz] at h; simp only [Bool.and_eq_true, decide_eq_true_eq] at h; omega
  · rw [if_neg hz] at h; simp only [Bool.and_eq_true, decide_eq_true_eq] at h; omega
end Bn
namespace Go.Proofs.YtppihpjcdieeoaaGreatDoor
open Go.RowKit

set_option maxHeartbeats 400000 in
theorem put_size (l : List Int) (v u : Value) (w : World) (hr : Row w v l) (hs : Bn.allSizes l = false) :
    Calls Tryz.prog 37 #[v, u] w fun e w' => e = strErr ([], 1) ∧ Lo w w' := by
  have HA := Lib.hid (areSizes_any v l w hr)
  rw [hs] at HA
  obtain ⟨p, c, rfl, hlen⟩ := hr.form
  clear hr hs
  go_enter Tryz.func37, Tryz.ntmps37
  go_wp2_with fail
  refine HA.out.mono ?_
  rintro e w1 ⟨rfl, rfl⟩
  go_wp2_with fail
  go_ret2
  exact ⟨rfl, Lo.refl w⟩

set_option maxHeartbeats 400000 in
theorem put_many (l m : List Int) (v u : Value) (w : World) (hr : Row w v l) (hr2 : Row w u m) (hs : Bn.allSizes l = true) (hne : l.length ≠ m.length) :
    Calls Tryz.prog 37 #[v, u] w fun e w' => e = strErr ([], 1) ∧ Lo w w' := by
  have HA := Lib.hid (areSizes_any v l w hr)
  rw [hs] at HA
  obtain ⟨p, c, rfl, hlen⟩ := hr.form
  obtain ⟨p2, c2, rfl, hlen2⟩ := hr2.form
  have hb : ((m.length : Int) == (l.length : Int)) = false := by simp; omega
  clear hr hs hr2 hne
  go_enter Tryz.func37, Tryz.ntmps37
  go_wp2_with fail
  refine HA.out.mono ?_
  rintro e w1 ⟨rfl, rfl⟩
  go_wp2_with fail
  go_ret2
  exact ⟨rfl, Lo.refl w⟩

/-- What Put answers where the sizes are sizes, and as many as the values. -/
def putWork (l m : List Int) : List UInt8 × Int := if Bn.allFit l m = false then ([], 2) else (Bn.join l m, 0)

theorem below_lo {w W W' : World} (h : Lo w W) (k : Below w.heap.size W W') : Lo w W' := Below.trans h k

set_option maxHeartbeats 4000000 in
theorem put_work (l m : List Int) (v u : Value) (w : World) (hr : Row w v l) (hr2 : Row w u m) (hs : Bn.allSizes l = true) (heq : l.length = m.length) (hn : l.length ≤ 200000) :
    Calls Tryz.prog 37 #[v, u] w fun e w' => e = strErr (putWork l m) ∧ Lo w w' := by
  have HA := Lib.hid (areSizes_any v l w hr)
  rw [hs] at HA
  obtain ⟨p, c, rfl, hlen⟩ := hr.form
  obtain ⟨p2, c2, rfl, hlen2⟩ := hr2.form
  rw [← heq] at hr2 ⊢
  have HR := Lib.hid hr
  have HR2 := Lib.hid hr2
  have HS := Lib.hid hs
  generalize hy : putWork l m = y
  have HY := Lib.hid hy
  have HM := Lib.hid heq
  generalize hnn : l.length = n at *
  have HN := Lib.hid hnn
  have hj := Lib.hid (Bn.join_len_le l m hs)
  clear hr hs hr2 heq hnn hlen2 hy
  have HB := Lib.hid (Lib.fresh_isBuilder 89 5 w)
  have HL0 := Lib.hid ((Lo.refl w).alloc (.cells #[.pointer none, .slice none 0 0] 89))
  go_enter Tryz.func37, Tryz.ntmps37
  go_wp2_with fail
  refine HA.out.mono ?_
  rintro e w1 ⟨rfl, rfl⟩
  go_wp2_with fail
  go_loopw [22] (fun i W => ∃ k : Nat, k ≤ n ∧ i = .int .i64 k ∧ Hid (Bn.allFit (l.take k) (m.take k) = true) ∧ Hid (Lib.IsBuilder 89 5 w.heap.size w.heap.size (Lib.byteCells (Bn.join (l.take k) (m.take k))) W) ∧ Hid (Lo w W)) (fun i _ => n - (intOf i).toNat)
  case atStart => exact ⟨0, Nat.zero_le _, rfl, Lib.hid rfl, HB, HL0⟩
  case round =>
    obtain ⟨k, hk, rfl, HF, HB1, HL1⟩ := hrel
    by_cases hlt : k < n
    · obtain ⟨b, off, rfl, hcell⟩ := (HR.out.lo HL1.out).at_ hlt
      obtain ⟨b', off', rfl, hcell2⟩ := (HR2.out.lo HL1.out).at_ hlt
      have HK : Hid (k < l.length) := Lib.hid (by rw [HN.out]; exact hlt)
      have HK2 : Hid (k < m.length) := Lib.hid (by rw [← HM.out]; exact hlt)
      have HT := Lib.hid (Bn.take_snoc HK.out)
      have HT2 := Lib.hid (Bn.take_snoc HK2.out)
      have HZ := Lib.hid (Bn.allSizes_at HS.out HK.out)
      have HNo := Lib.hid (Bn.allFit_false l m k HK.out HK2.out)
      have HCell : Hid (∀ W, Lo w W → W.cell? ⟨b', off' + k, none⟩ = some (.int .i64 (m.getD k 0))) := Lib.hid (by
        intro W hW
        obtain ⟨b1, o1, he, hc⟩ := (HR2.out.lo hW).at_ hlt
        simp only [Option.some.injEq, Addr.mk.injEq, and_true] at he
        rw [he.1, he.2]; exact hc)
      generalize l.getD k 0 = z at *
      generalize m.getD k 0 = x at *
      have HFA := Lib.hid (fun W => fits_any x z W HZ.out)
      by_cases hfit : Bn.fits x z = true
      · have HX := Lib.hid (Bn.fits_ge hfit)
        have HFX := Lib.hid hfit
        rw [hfit] at HFA
        clear hfit HNo
        have HW := Lib.hid (fun W => width_any z W HZ.out)
        have hq4 := Bn.isSize_wide HZ.out
        generalize hq : z.natAbs = q at *
        have HQ := Lib.hid hq
        clear hq
        obtain ⟨hq1, hq4⟩ := hq4
        have HJL : Hid (∀ t, (Bn.join (l.take k) (m.take k) ++ (Bn.bytes x q).take t).length ≤ 800010) := Lib.hid (by
          intro t
          have hall : Bn.allSizes (l.take k) = true := by
            have := HS.out
            unfold Bn.allSizes at *
            rw [List.all_eq_true] at *
            exact fun y hy => this y (List.mem_of_mem_take hy)
          have h1 := Bn.join_len_le (l.take k) (m.take k) hall
          have h2 : (l.take k).length ≤ k := by simp; omega
          have h3 : ((Bn.bytes x q).take t).length ≤ q := by rw [List.length_take, Bn.bytes_len]; omega
          rw [List.length_append]; omega)
        have HJ : Hid (Bn.join (l.take (k + 1)) (m.take (k + 1)) = Bn.join (l.take k) (m.take k) ++ (Bn.bytes x q)) := Lib.hid (by
          rw [HT.out, HT2.out, Bn.join_snoc _ _ _ _ (by simp; have := HK.out; have := HK2.out; omega), HQ.out])
        have HF1 : Hid (Bn.allFit (l.take (k + 1)) (m.take (k + 1)) = true) := Lib.hid (by
          rw [HT.out, HT2.out, Bn.allFit_snoc _ _ _ _ (by simp; have := HK.out; have := HK2.out; omega), HF.out, HFX.out]; rfl)
        generalize Bn.join (l.take k) (m.take k) = pre at *
        go_wp2_with fail
        refine (HFA.out _).mono ?_
        rintro e w2 ⟨rfl, rfl⟩
        go_wp2_with fail
        refine (HW.out _).mono ?_
        rintro e w2 ⟨rfl, rfl⟩
        clear hcell hcell2 HFA HW
        go_wp2_with fail
        go_loopw [9] (fun s W => ∃ (t : Nat) (sv : Int), t ≤ q ∧ s = .int .i64 sv ∧ Hid (sv = 8 * ((q : Int) - 1 - t)) ∧ Hid (Lib.IsBuilder 89 5 w.heap.size w.heap.size (Lib.byteCells (pre ++ (Bn.bytes x q).take t)) W) ∧ Hid (Lo w W)) (fun s _ => (intOf s + 8).toNat)
        case atStart => exact ⟨0, _, Nat.zero_le _, rfl, Lib.hid (by omega), Lib.hid (by rw [List.take_zero, List.append_nil]; exact HB1.out), HL1⟩
        case round =>
          obtain ⟨t, sv, ht, rfl, HSV, HB2, HL2⟩ := hrel
          by_cases htq : t < q
          · have h0 : 0 ≤ sv := by rw [HSV.out]; omega
            obtain ⟨sn, rfl⟩ := Int.eq_ofNat_of_zero_le h0
            have hsn : sn = 8 * (q - 1 - t) := by have := HSV.out; omega
            have hsb : sn ≤ 24 := by omega
            have HSN := Lib.hid hsn
            clear hsn
            have hcell3 := HCell.out _ HL2.out
            have HBy := Lib.hid (Bn.bytes_at x q t htq HX.out)
            have HTk := Lib.hid (Gk.take_snoc (Bn.bytes x q) t (by rw [Bn.bytes_len]; exact htq))
            generalize (Bn.bytes x q).getD t 0 = by1 at *
            go_wp2_with fail
            refine (Tryz.Builder_WriteByte w.heap.size w.heap.size _ _ _ HB2.out (by rw [Lib.byteCells_length]; have := HJL.out t; omega) HL2.out.size).mono ?_
            rintro e w3 ⟨rfl, hb3, hlo3⟩
            have HB3 := Lib.hid hb3
            have HL3 := Lib.hid (below_lo HL2.out hlo3)
            clear hb3 hlo3
            go_wp2_with fail
            go_roundw
            case rel =>
              refine ⟨t + 1, (sn : Int) - 8, by omega, rfl, Lib.hid (by have := HSN.out; omega), Lib.hid ?_, HL3⟩
              have h := HB3.out
              rw [show (x / 2 ^ sn % 256 : Int) = (by1.toNat : Int) by rw [HBy.out, HSN.out, Int.toNat_of_nonneg (Int.emod_nonneg _ (by omega))]] at h
              rw [HTk.out, ← List.append_assoc, Lib.byteCells_append _ [by1]]
              exact .inr h
            case measure => simp [intOf]; omega
          · have hneg : sv < 0 := by rw [HSV.out]; omega
            obtain rfl : t = q := by omega
            have HB3 := HB2
            rw [List.take_of_length_le (by rw [Bn.bytes_len]; exact Nat.le_refl _), ← HJ.out] at HB3
            go_wp2_with fail
            go_roundw
            case rel => exact ⟨k + 1, by omega, by go_num, HF1, HB3, HL2⟩
            case measure => simp [intOf]; omega
      · rw [show Bn.fits x z = false by simpa using hfit] at HFA
        have HYY : Hid (y = ([], 2)) := Lib.hid (by rw [← HY.out, putWork, if_pos (HNo.out (by simpa using hfit))])
        clear hfit HNo
        go_wp2_with fail
        refine (HFA.out _).mono ?_
        rintro e w2 ⟨rfl, rfl⟩
        go_wp2_with fail
        go_ret2
        exact ⟨by rw [HYY.out]; rfl, HL1.out⟩
    · have h1 : l.take k = l := List.take_of_length_le (by rw [HN.out]; omega)
      have h2 : m.take k = m := List.take_of_length_le (by rw [← HM.out]; omega)
      have HB2 := HB1
      have HF2 := HF
      rw [h1, h2] at HB2 HF2
      have HYY : Hid (y = (Bn.join l m, 0)) := Lib.hid (by rw [← HY.out, putWork, if_neg (by rw [HF2.out]; simp)])
      have HString := Lib.hid (Tryz.Builder_String_any w.heap.size w.heap.size (Bn.join l m) _ HB2.out HL1.out.size)
      clear h1 h2
      go_wp2_with fail
      refine HString.out.mono ?_
      rintro e w2 ⟨rfl, hlo⟩
      go_wp2_with fail
      go_ret2
      exact ⟨by rw [HYY.out]; rfl, below_lo HL1.out hlo⟩

/-- bin.Put. -/
theorem put_any (l m : List Int) (v u : Value) (w : World) (hr : Row w v l) (hr2 : Row w u m) (hn : l.length ≤ 200000) :
    Calls Tryz.prog 37 #[v, u] w fun e w' => e = strErr (Bn.put l m) ∧ Lo w w' := by
  unfold Bn.put
  by_cases cs : Bn.allSizes l = false
  · rw [if_pos (.inl cs)]; exact put_size l v u w hr cs
  · have hs : Bn.allSizes l = true := by simpa using cs
    by_cases ce : l.length = m.length
    · rw [if_neg (by rintro (h | h) <;> contradiction)]; exact put_work l m v u w hr hr2 hs ce hn
    · rw [if_pos (.inr ce)]; exact put_many l m v u w hr hr2 hs ce
end Go.Proofs.YtppihpjcdieeoaaGreatDoor
/-
  Contracts of chart.written, PutSmall and PutTrimmed. No conditions beyond those stated.
-/
namespace Go.Proofs.YtppihpjcdieeoaaGreatDoor
open Go.RowKit

theorem two_cells (w : World) (a b : Value) (ty : Nat) : (w.alloc (.cells #[a, b] ty)).cell? ⟨w.heap.size, 0, none⟩ = some a ∧ (w.alloc (.cells #[a, b] ty)).cell? ⟨w.heap.size, 1, none⟩ = some b :=
  ⟨block_cell (new_block w _) rfl, block_cell (new_block w _) rfl⟩

set_option maxHeartbeats 1600000 in
theorem written_any (xs ys : List Int) (size : Int) (v u : Value) (w : World) (h : Row w v xs) (h2 : Row w u ys) (hx : xs.length ≤ 10) (hy : ys.length ≤ 40000) :
    Calls Tryz.prog 87 #[v, .int .i64 size, u] w fun e w' => e = .returned (.string ⟨(Bn.put (List.replicate xs.length 2 ++ List.replicate ys.length size) (xs ++ ys)).1.toArray⟩) ∧ Lo w w' := by
  obtain ⟨p, c, rfl, _⟩ := h.form
  obtain ⟨q, d, rfl, _⟩ := h2.form
  have HR := Lib.hid h
  have HR2 := Lib.hid h2
  have HM1 := Lib.hid (fun W => repeated_any 2 xs.length W (by omega))
  have HM2 := Lib.hid (fun W => repeated_any size ys.length W (by omega))
  have HC1 := Lib.hid (fun (va vb : Value) (B : Nat) (W : World) c0 c1 ha hb => concat_any (List.replicate xs.length 2) (List.replicate ys.length size) va vb B W c0 c1 ha hb (by rw [List.length_replicate, List.length_replicate]; omega))
  have HC2 := Lib.hid (fun (va vb : Value) (B : Nat) (W : World) c0 c1 ha hb => concat_any xs ys va vb B W c0 c1 ha hb (by omega))
  have HP := Lib.hid (fun (v u : Value) (W : World) h1 h2 => put_any (List.replicate xs.length 2 ++ List.replicate ys.length size) (xs ++ ys) v u W h1 h2 (by rw [List.length_append, List.length_replicate, List.length_replicate]; omega))
  rw [List.length_replicate, List.length_replicate] at HC1
  generalize Bn.put (List.replicate xs.length 2 ++ List.replicate ys.length size) (xs ++ ys) = y at *
  unfold Many at HM1 HM2
  unfold strErr at HP
  generalize xs.length = nx at *
  generalize ys.length = ny at *
  clear h h2
  go_enter Tryz.func87, Tryz.ntmps87
  go_wp2_with fail
  refine (HM1.out _).mono ?_
  rintro e w1 ⟨p1, c1, rfl, hr, lo⟩
  have HL := Lib.hid lo
  have HA := Lib.hid hr
  clear lo hr HM1
  go_wp2_with fail
  refine (HM2.out _).mono ?_
  rintro e w2 ⟨p2, c2, rfl, hr, lo⟩
  have HL := Lib.hid (HL.out.trans lo)
  have HA := Lib.hid (HA.out.lo lo)
  have HB := Lib.hid hr
  clear lo hr HM2
  go_wp2_with fail
  refine (HC1.out _ _ _ _ (two_cells w2 _ _ _).1 (two_cells w2 _ _ _).2 (HA.out.lo ((Lo.refl _).alloc _)) (HB.out.lo ((Lo.refl _).alloc _))).mono ?_
  rintro e w3 ⟨p3, c3, rfl, hr, lo⟩
  have HL := Lib.hid ((HL.out.alloc _).trans lo)
  have HS := Lib.hid hr
  have HR := Lib.hid (HR.out.lo HL.out)
  have HR2 := Lib.hid (HR2.out.lo HL.out)
  clear lo hr HC1 HA HB
  go_wp2_with fail
  refine (HC2.out _ _ _ _ (two_cells w3 _ _ _).1 (two_cells w3 _ _ _).2 (HR.out.lo ((Lo.refl _).alloc _)) (HR2.out.lo ((Lo.refl _).alloc _))).mono ?_
  rintro e w4 ⟨p4, c4, rfl, hr, lo⟩
  have HL := Lib.hid ((HL.out.alloc _).trans lo)
  have HS := Lib.hid (HS.out.lo (((Lo.refl _).alloc _).trans lo))
  have HT := Lib.hid hr
  clear lo hr HC2 HR HR2
  go_wp2_with fail
  refine (HP.out _ _ _ HS.out HT.out).mono ?_
  rintro e w5 ⟨rfl, lo⟩
  have HL := Lib.hid (HL.out.trans lo)
  clear lo HP HS HT
  go_wp2_with fail
  go_ret
  exact ⟨rfl, HL.out⟩
end Go.Proofs.YtppihpjcdieeoaaGreatDoor
/-
  Contracts of chart.PutSmall and PutTrimmed. No conditions beyond those stated.
-/
namespace Go.Proofs.YtppihpjcdieeoaaGreatDoor
open Go.RowKit

theorem small_arr (w : World) (B : Nat) (hB : B = w.heap.size) (ty : Nat) : ArrAt (w.alloc (.cells Tryz.zeroCells102 ty)) B ty (Ch.laid [] 0 256) := by
  subst hB
  unfold ArrAt
  rw [new_block, Ch.laid_nil, small_noughts]
theorem trimmed_arr (a : Int) (w : World) (B : Nat) (hB : B = w.heap.size) (ty : Nat) : ArrAt (w.alloc (.cells Tryz.zeroCells119 ty)) B ty (Ch.laid [] a 32762) := by
  subst hB
  unfold ArrAt
  rw [new_block, Ch.laid_nil, trimmed_noughts]
theorem small_row {w : World} {B ty : Nat} {k : List Ch.Span} (h : ArrAt w B ty (Ch.laid k 0 256)) : Row w (.slice (some ⟨B, 0, none⟩) 256 256) (Ch.laid k 0 256) := by
  have := h.row (n := 256) (cap := 256) (by rw [Ch.laid_len]; omega) (by omega) (by omega)
  rw [List.take_of_length_le (by rw [Ch.laid_len]; omega)] at this
  exact this
theorem laid_take (k : List Ch.Span) (a : Int) {n m : Nat} (h : n ≤ m) : (Ch.laid k a m).take n = Ch.laid k a n := by
  unfold Ch.laid
  rw [← List.map_take, List.take_range, Nat.min_eq_left h]
theorem trimmed_row {w : World} {B ty : Nat} {k : List Ch.Span} {a : Int} {n : Nat} (h : ArrAt w B ty (Ch.laid k a 32762)) (hn : n ≤ 32762) : Row w (.slice (some ⟨B, 0, none⟩) n 32762) (Ch.laid k a n) := by
  have := h.row (n := n) (cap := 32762) (by rw [Ch.laid_len]; omega) (by omega) (by omega)
  rw [laid_take k a hn] at this
  exact this

theorem row5 (w : World) (B : Nat) (hB : B = w.heap.size) (a b c d e : Int) : Row (w.alloc (.cells #[.int .i64 a, .int .i64 b, .int .i64 c, .int .i64 d, .int .i64 e] 3)) (.slice (some ⟨B, 0, none⟩) 5 5) [a, b, c, d, e] :=
  hB ▸ .inr ⟨w.heap.size, 0, 5, rfl, by simp, by simp, by simp, fun i hi => by
    obtain rfl | rfl | rfl | rfl | rfl : i = 0 ∨ i = 1 ∨ i = 2 ∨ i = 3 ∨ i = 4 := by simp at hi; omega
    all_goals simp [go_sem]⟩

set_option maxRecDepth 100000 in
set_option maxHeartbeats 1600000 in
theorem putSmall_any (v : Value) (l : List Ch.Span) (w : World) (h : SRow w v l) : Calls Tryz.prog 48 #[v] w fun e w' => e = strErr (Ch.putSmall l) ∧ Lo w w' := by
  have HI := Lib.hid (fun W hW => cis_any v l W hW)
  have HR := Lib.hid h
  clear h
  unfold strErr
  cases hl : Ch.isL l with
  | false =>
    have HE := Lib.hid (Ch.put0_arg hl)
    rw [hl] at HI
    generalize Ch.putSmall l = y at *
    clear hl
    go_enter Tryz.func48, Tryz.ntmps48
    go_wp2_with fail
    refine (HI.out _ HR.out).mono ?_
    rintro e w1 ⟨rfl, lo⟩
    have HL := Lib.hid lo
    clear lo HI
    go_wp2_with fail
    go_ret2
    exact ⟨by rw [HE.out]; rfl, HL.out⟩
  | true =>
    rw [hl] at HI
    have HU := Lib.hid (fun W hW => used_any v l W hW hl)
    unfold GotSpans at HU
    have hcu := Ch.chain_used (Ch.isL_chain hl).1
    have hlu : (Ch.used l).length ≤ 65536 := Nat.le_trans (Ch.used_len l) (Ch.isL_chain hl).2
    have HC := Lib.hid (fun (u : Value) (W : World) hW => contains_any u (Ch.used l) W hW (fun x hx => (Ch.chain_mem hcu x hx).1))
    cases hs : (Ch.used l).any Ch.leaves with
    | true =>
      have HE := Lib.hid (Ch.put0_long hl hs)
      rw [hs] at HC
      generalize Ch.putSmall l = y at *
      generalize Ch.used l = k at *
      clear hl hs hcu
      go_enter Tryz.func48, Tryz.ntmps48
      go_wp2_with fail
      refine (HI.out _ HR.out).mono ?_
      rintro e w1 ⟨rfl, lo⟩
      have HL := Lib.hid lo
      have HR := Lib.hid (RowK.lo HR.out lo)
      clear lo HI
      go_wp2_with fail
      refine (HU.out _ HR.out).mono ?_
      rintro e w2 ⟨p, c, rfl, hr, lo⟩
      have HL := Lib.hid (HL.out.trans lo)
      have HR := Lib.hid hr
      clear lo hr HU
      go_wp2_with fail
      refine (HC.out _ _ HR.out).mono ?_
      rintro e w3 ⟨rfl, lo⟩
      have HL := Lib.hid (HL.out.trans lo)
      clear lo HC
      go_wp2_with fail
      go_ret2
      exact ⟨by rw [HE.out]; rfl, HL.out⟩
    | false =>
      have HE := Lib.hid (Ch.small_put hl hs)
      have HZ : Hid ((Ch.putSmall l).2 = 0) := Lib.hid (by rw [Ch.put0_right hl hs])
      have hin := (Ch.small_in hl hs).1
      have HLay := Lib.hid (fun (B cap ty : Nat) (u : Value) (w0 W : World) h0 hB hr harr => lay_any (Ch.used l) 0 B 256 cap 256 ty u w0 W h0 hB hr harr (Nat.le_refl _) (by omega) hcu (fun x hx => by have := hin x hx; omega) hlu (by omega))
      have HW := Lib.hid (fun (u t : Value) (W : World) h1 h2 => written_any [0, 262, 0] (Ch.laid (Ch.used l) 0 256) 1 u t W h1 h2 (by simp) (by rw [Ch.laid_len]; omega))
      rw [Ch.laid_len, show [(0 : Int), 262, 0].length = 3 from rfl, HE.out] at HW
      rw [hs] at HC
      generalize Ch.putSmall l = y at *
      generalize Ch.used l = k at *
      clear hl hs hcu hin
      go_enter Tryz.func48, Tryz.ntmps48
      go_wp2_with fail
      refine (HI.out _ HR.out).mono ?_
      rintro e w1 ⟨rfl, lo⟩
      have HL := Lib.hid lo
      have HR := Lib.hid (RowK.lo HR.out lo)
      clear lo HI
      go_wp2_with fail
      refine (HU.out _ HR.out).mono ?_
      rintro e w2 ⟨p, c, rfl, hr, lo⟩
      have HL := Lib.hid (HL.out.trans lo)
      have HR := Lib.hid hr
      clear lo hr HU
      go_wp2_with fail
      refine (HC.out _ _ HR.out).mono ?_
      rintro e w3 ⟨rfl, lo⟩
      have HL := Lib.hid (HL.out.trans lo)
      have HR := Lib.hid (RowK.lo HR.out lo)
      clear lo HC
      go_wp2_with fail
      refine (HLay.out _ _ _ _ w3 _ ((Lo.refl _).alloc _) (Nat.le_refl _) HR.out (small_arr w3 _ rfl _)).mono ?_
      rintro e w4 ⟨rfl, harr, lo⟩
      have HL := Lib.hid (HL.out.trans lo)
      have HA := Lib.hid harr
      clear lo HLay harr HR
      go_wp2_with fail
      refine (HW.out _ _ _ (row3 w4 _ rfl 0 262 0) ((small_row HA.out).lo ((Lo.refl _).alloc _))).mono ?_
      rintro e w5 ⟨rfl, lo⟩
      have HL := Lib.hid ((HL.out.alloc _).trans lo)
      clear lo HW HA
      go_wp2_with fail
      go_ret2
      exact ⟨by rw [HZ.out]; rfl, HL.out⟩
set_option maxRecDepth 100000 in
set_option maxHeartbeats 3200000 in
theorem putTrimmed_any (v : Value) (l : List Ch.Span) (w : World) (h : SRow w v l) : Calls Tryz.prog 51 #[v] w fun e w' => e = strErr (Ch.putTrimmed l) ∧ Lo w w' := by
  have HI := Lib.hid (fun W hW => cis_any v l W hW)
  have HR := Lib.hid h
  clear h
  unfold strErr
  cases hl : Ch.isL l with
  | false =>
    have HE := Lib.hid (Ch.put6_arg hl)
    rw [hl] at HI
    generalize Ch.putTrimmed l = y at *
    clear hl
    go_enter Tryz.func51, Tryz.ntmps51
    go_wp2_with fail
    refine (HI.out _ HR.out).mono ?_
    rintro e w1 ⟨rfl, lo⟩
    have HL := Lib.hid lo
    clear lo HI
    go_wp2_with fail
    go_ret2
    exact ⟨by rw [HE.out]; rfl, HL.out⟩
  | true =>
    rw [hl] at HI
    have HU := Lib.hid (fun W hW => used_any v l W hW hl)
    unfold GotSpans at HU
    have hcu := Ch.chain_used (Ch.isL_chain hl).1
    have hlu : (Ch.used l).length ≤ 65536 := Nat.le_trans (Ch.used_len l) (Ch.isL_chain hl).2
    have HT := Lib.hid (fun (u : Value) (W : World) hW => trimmed_any u l W hW hl)
    have hb := Ch.fc_bound hl
    by_cases hc : 65536 < Ch.first l + Ch.count l ∨ 32762 < Ch.count l
    · have HE := Lib.hid (Ch.put6_long hl hc)
      generalize Ch.putTrimmed l = y at *
      generalize Ch.used l = k at *
      generalize Ch.first l = a at *
      generalize Ch.count l = m at *
      clear hl hcu
      by_cases hc1 : 65536 < a + m
      · clear hc
        go_enter Tryz.func51, Tryz.ntmps51
        go_wp2_with fail
        refine (HI.out _ HR.out).mono ?_
        rintro e w1 ⟨rfl, lo⟩
        have HL := Lib.hid lo
        have HR := Lib.hid (RowK.lo HR.out lo)
        clear lo HI
        go_wp2_with fail
        refine (HU.out _ HR.out).mono ?_
        rintro e w2 ⟨p, c, rfl, hr, lo⟩
        have HL := Lib.hid (HL.out.trans lo)
        have HR := Lib.hid hr
        clear lo hr HU
        go_wp2_with fail
        refine (HT.out _ _ HR.out).mono ?_
        rintro e w3 ⟨rfl, lo⟩
        have HL := Lib.hid (HL.out.trans lo)
        clear lo HT
        go_wp2_with fail
        go_ret2
        exact ⟨by rw [HE.out]; rfl, HL.out⟩
      · have hc2 : 32762 < m := by omega
        clear hc
        go_enter Tryz.func51, Tryz.ntmps51
        go_wp2_with fail
        refine (HI.out _ HR.out).mono ?_
        rintro e w1 ⟨rfl, lo⟩
        have HL := Lib.hid lo
        have HR := Lib.hid (RowK.lo HR.out lo)
        clear lo HI
        go_wp2_with fail
        refine (HU.out _ HR.out).mono ?_
        rintro e w2 ⟨p, c, rfl, hr, lo⟩
        have HL := Lib.hid (HL.out.trans lo)
        have HR := Lib.hid hr
        clear lo hr HU
        go_wp2_with fail
        refine (HT.out _ _ HR.out).mono ?_
        rintro e w3 ⟨rfl, lo⟩
        have HL := Lib.hid (HL.out.trans lo)
        clear lo HT
        go_wp2_with fail
        go_ret2
        exact ⟨by rw [HE.out]; rfl, HL.out⟩
    · have HE := Lib.hid (Ch.trimmed_put hl hc)
      have HZ : Hid ((Ch.putTrimmed l).2 = 0) := Lib.hid (by rw [Ch.put6_right hl hc])
      have hin := fun x (hx : x ∈ Ch.used l) => Ch.trimmed_in hl hx
      obtain ⟨m, hm⟩ := Int.eq_ofNat_of_zero_le hb.2.2.1
      have hmt : (Ch.count l).toNat = m := by omega
      have HLay := Lib.hid (fun (B cap ty : Nat) (u : Value) (w0 W : World) h0 hB hr harr => lay_any (Ch.used l) (Ch.first l) B m cap 32762 ty u w0 W h0 hB hr harr (by omega) hb.1 hcu (fun x hx => by have := (hin x hx).1; omega) hlu (by omega))
      have HW := Lib.hid (fun (u t : Value) (W : World) h1 h2 => written_any [6, 10 + 2 * Ch.count l, 0, Ch.first l, Ch.count l] (Ch.laid (Ch.used l) (Ch.first l) m) 2 u t W h1 h2 (by simp) (by rw [Ch.laid_len]; omega))
      rw [hmt] at HE
      rw [Ch.laid_len, show [6, 10 + 2 * Ch.count l, 0, Ch.first l, Ch.count l].length = 5 from rfl, HE.out] at HW
      rw [hm] at HW HT hb hc
      generalize Ch.putTrimmed l = y at *
      generalize Ch.used l = k at *
      generalize Ch.first l = a at *
      clear hl hcu hin hmt hm HE
      have hc1 : ¬ 65536 < a + (m : Int) := by omega
      have hc2 : ¬ 32762 < (m : Int) := by omega
      have hc3 : m ≤ 32762 := by omega
      clear hc
      go_enter Tryz.func51, Tryz.ntmps51
      go_wp2_with fail
      refine (HI.out _ HR.out).mono ?_
      rintro e w1 ⟨rfl, lo⟩
      have HL := Lib.hid lo
      have HR := Lib.hid (RowK.lo HR.out lo)
      clear lo HI
      go_wp2_with fail
      refine (HU.out _ HR.out).mono ?_
      rintro e w2 ⟨p, c, rfl, hr, lo⟩
      have HL := Lib.hid (HL.out.trans lo)
      have HR := Lib.hid hr
      clear lo hr HU
      go_wp2_with fail
      refine (HT.out _ _ HR.out).mono ?_
      rintro e w3 ⟨rfl, lo⟩
      have HL := Lib.hid (HL.out.trans lo)
      have HR := Lib.hid (RowK.lo HR.out lo)
      clear lo HT
      go_wp2_with fail
      refine (HLay.out _ _ _ _ w3 _ ((Lo.refl _).alloc _) (Nat.le_refl _) HR.out (trimmed_arr a w3 _ rfl _)).mono ?_
      rintro e w4 ⟨rfl, harr, lo⟩
      have HL := Lib.hid (HL.out.trans lo)
      have HA := Lib.hid harr
      clear lo HLay harr HR
      go_wp2_with fail
      refine (HW.out _ _ _ (row5 w4 _ rfl 6 (10 + 2 * (m : Int)) 0 a (m : Int)) ((trimmed_row HA.out hc3).lo ((Lo.refl _).alloc _))).mono ?_
      rintro e w5 ⟨rfl, lo⟩
      have HL := Lib.hid ((HL.out.alloc _).trans lo)
      clear lo HW HA
      go_wp2_with fail
      go_ret2
      exact ⟨by rw [HZ.out]; rfl, HL.out⟩
end Go.Proofs.YtppihpjcdieeoaaGreatDoor
/-
  copy of numbers into an array in memory: behind it the array holds them at their place, and every other block is as it was. Nothing of the program but its types. No conditions beyond those stated.
-/
namespace Go.Proofs.YtppihpjcdieeoaaGreatDoor
open Go.RowKit

theorem copy_into (rT B ty off n c b so m cs : Nat) (L ys : List Int) (W : World) (harr : ArrAt W B ty L) (hsrc : ∀ j, j < m → W.cell? ⟨b, so + j, none⟩ = some (.int .i64 (ys.getD j 0))) (hm : ys.length = m) (hle : m ≤ n) (hfit : off + n ≤ L.length) :
    ∃ w2, (Builtin.copy_ #[52, 52] rT #[.slice (some ⟨B, off, none⟩) n c, .slice (some ⟨b, so, none⟩) m cs]).run Tryz.prog W = .ok (.int .i64 (m : Int)) w2 ∧ ArrAt w2 B ty (L.take off ++ ys ++ L.drop (off + m)) ∧ (∀ w0, Lo w0 W → w0.heap.size ≤ B → Lo w0 w2) ∧ ∀ T, T ≠ B → w2.heap[T]? = W.heap[T]? := by
  have hrun := run_copy_row (P := Tryz.prog) W 52 52 rT 3 B off n c ⟨b, so, none⟩ m cs (L.map (Value.int .i64)).toArray ty (ys.map (Value.int .i64)) Tryz.underlying52 (by kernel_rfl) harr (by rw [List.length_map, hm]; exact (Nat.min_eq_left hle).symm)
    (fun j u hj => by
      have hjl : j < ys.length := by simpa using (List.getElem?_eq_some_iff.1 hj).1
      rw [show (⟨b, so, none⟩ : Addr).add j = ⟨b, so + j, none⟩ from by unfold Addr.add; split <;> simp_all, hsrc j (by omega)]
      simp [hjl] at hj
      simp [List.getD, hjl, hj])
    (by simp; omega) (by
      intro u hu
      simp only [List.mem_map] at hu
      obtain ⟨z, _, rfl⟩ := hu
      rfl)
  rw [List.length_map, hm] at hrun
  refine ⟨_, hrun, ?_, fun w0 hl hB => below_setRow hl hB _, fun T hT => setRow_other W B T _ hT⟩
  have h := setRow_heap W B _ ((L.map (Value.int .i64)).toArray.toList.take off ++ ys.map (Value.int .i64) ++ (L.map (Value.int .i64)).toArray.toList.drop (off + m)).toArray ty _ harr
  unfold ArrAt
  rw [h]
  simp [List.map_append, List.map_take, List.map_drop]

/-- copy at a step of a region that draws. -/
theorem step_cp {w : World} {ops : Array Oper} {o : Oper} {a : Act} {K : Act → World → Prop} {Q : Exit → Act → World → Prop} {E : Prop} (hgd : o.guard = none) (d s : Operand)
    (ho : o.op = .call { callee := .builtin .copy, args := #[d, s], argTypes := #[52, 52] })
    (B ty off n c b so m cs : Nat) (L ys : List Int) (hd : a.eval d = .slice (some ⟨B, off, none⟩) n c) (hs : a.eval s = .slice (some ⟨b, so, none⟩) m cs)
    (harr : ArrAt w B ty L) (hsrc : ∀ j, j < m → w.cell? ⟨b, so + j, none⟩ = some (.int .i64 (ys.getD j 0))) (hm : ys.length = m) (hle : m ≤ n) (hfit : off + n ≤ L.length)
    (h : ∀ w2, ArrAt w2 B ty (L.take off ++ ys ++ L.drop (off + m)) → (∀ w0, Lo w0 w → w0.heap.size ≤ B → Lo w0 w2) → (∀ T, T ≠ B → w2.heap[T]? = w.heap[T]?) → K (a.put o.dst (.int .i64 (m : Int))) w2) :
    if Region.wanted o (yielded ops a.tmps) = true then Oper.wp Tryz.prog o a w K Q else E := by
  have hw : Region.wanted o (yielded ops a.tmps) = true := by simp [Region.wanted, hgd]
  rw [if_pos hw]
  obtain ⟨w2, hrun, h1, h2, h3⟩ := copy_into o.type B ty off n c b so m cs L ys w harr hsrc hm hle hfit
  unfold Oper.wp
  simp [execOp, ho, resolve, invoke, builtin, hd, hs, hrun, Result.andThen]
  exact h w2 h1 h2 h3
end Go.Proofs.YtppihpjcdieeoaaGreatDoor
