/-
  The contract of bin.Put: it answers what the plain function on bytes says. No conditions beyond those stated.
-/
import Derived.Test.YtjeahgdefdlabaaBnGet2
import Derived.Test.YtjeahgdefdlabaaShelf
import Derived.Test.YtjeahgdefdlabaaBnBuilder
namespace Bn
theorem join_snoc : ∀ (a b : List Int) (z x : Int), a.length = b.length → join (a ++ [z]) (b ++ [x]) = join a b ++ bytes x z.natAbs
  | [], [], z, x, _ => by simp [join]
  | n :: r, v :: s, z, x, h => by
    rw [List.cons_append, List.cons_append, join, join, join_snoc r s z x (by simpa using h), List.append_assoc]
  | [], v :: s, _, _, h => by simp at h
  | n :: r, [], _, _, h => by simp at h
theorem allFit_snoc : ∀ (a b : List Int) (z x : Int), a.length = b.length → allFit (a ++ [z]) (b ++ [x]) = (allFit a b && fits x z)
  | [], [], z, x, _ => by simp [allFit]
  | n :: r, v :: s, z, x, h => by
    rw [List.cons_append, List.cons_append, allFit, allFit, allFit_snoc r s z x (by simpa using h), Bool.and_assoc]
  | [], v :: s, _, _, h => by simp at h
  | n :: r, [], _, _, h => by simp at h
theorem allFit_false : ∀ (a b : List Int) (k : Nat), k < a.length → k < b.length → fits (b.getD k 0) (a.getD k 0) = false → allFit a b = false
  | n :: r, v :: s, 0, _, _, h => by
    have h' : fits v n = false := h
    rw [allFit, h']; rfl
  | n :: r, v :: s, k + 1, h1, h2, h => by
    have h' : fits (s.getD k 0) (r.getD k 0) = false := by simpa using h
    rw [allFit, allFit_false r s k (by simpa using h1) (by simpa using h2) h', Bool.and_false]
  | [], _, k, h, _, _ => by simp at h
  | _ :: _, [], k, _, h, _ => by simp at h
theorem join_len_le : ∀ (a b : List Int), allSizes a = true → (join a b).length ≤ 4 * a.length
  | [], _, _ => by simp [join]
  | n :: r, [], _ => by simp [join]
  | n :: r, v :: s, h => by
    simp only [allSizes, List.all_cons, Bool.and_eq_true] at h
    have h1 := isSize_wide h.1
    have h2 := join_len_le r s h.2
    rw [join, List.length_append, bytes_len, List.length_cons]; omega
/-- A byte of a number below 0 too: shifted down. -/
theorem bytes_at (v : Int) (q t : Nat) (h : t < q) (hs0 : 0 ≤ v + ((256 ^ q : Nat) : Int)) : ((bytes v q).getD t 0).toNat = ((v / (2 : Int) ^ (8 * (q - 1 - t))) % 256).toNat := by
  have hp : (2 : Int) ^ (8 * (q - 1 - t)) = ((256 ^ (q - 1 - t) : Nat) : Int) := by
    rw [Int.pow_mul, Int.natCast_pow]; rfl
  rw [hp]
  unfold bytes tail
  have hg : ∀ u : Nat, ((List.range q).map fun t => dig u (q - 1 - t)).getD t 0 = dig u (q - 1 - t) := by
    intro u
    simp [List.getD, h]
  rw [hg, dig_toNat]
  generalize hj : q - 1 - t = j
  have hpos := pow_pos' j
  by_cases hv : v < 0
  · rw [if_pos hv]
    have hsp : 256 ^ q = 256 ^ j * (256 * 256 ^ t) := by
      rw [← Nat.pow_succ', ← Nat.pow_add]; congr 1; omega
    rw [hsp] at hs0 ⊢
    obtain ⟨u, hu⟩ := Int.eq_ofNat_of_zero_le hs0
    rw [hu, Int.toNat_natCast]
    have hv' : v = (u : Int) + ((256 ^ j : Nat) : Int) * (-(256 * 256 ^ t : Nat) : Int) := by
      rw [Int.mul_neg, ← Int.natCast_mul]; omega
    rw [hv', Int.add_mul_ediv_left _ _ (by omega)]
    have : ((u : Int) / ((256 ^ j : Nat) : Int) + (-(256 * 256 ^ t : Nat) : Int)) % 256 = (u / 256 ^ j % 256 : Nat) := by
      rw [← Int.natCast_ediv]
      omega
    rw [this, Int.toNat_natCast]
  · rw [if_neg hv]
    obtain ⟨u, rfl⟩ := Int.eq_ofNat_of_zero_le (show 0 ≤ v by omega)
    rw [Int.toNat_natCast, ← Int.natCast_ediv]
    omega
theorem fits_ge {v z : Int} (h : fits v z = true) : 0 ≤ v + ((256 ^ z.natAbs : Nat) : Int) := by
  unfold fits at h
  generalize 256 ^ z.natAbs = P at *
  by_cases hz : z < 0
  · rw [if_pos hz] at h; simp only [Bool.and_eq_true, decide_eq_true_eq] at h; omega
  · rw [if_neg hz] at h; simp only [Bool.and_eq_true, decide_eq_true_eq] at h; omega
end Bn
namespace Go.Proofs.Ytjeahgdefdlabaa
open Go.RowKit

set_option maxHeartbeats 400000 in
theorem put_size (l : List Int) (v u : Value) (w : World) (hr : Row w v l) (hs : Bn.allSizes l = false) :
    Calls Try.prog 21 #[v, u] w fun e w' => e = strErr ([], 1) ∧ Lo w w' := by
  have HA := Lib.hid (areSizes_any v l w hr)
  rw [hs] at HA
  obtain ⟨p, c, rfl, hlen⟩ := hr.form
  clear hr hs
  go_enter Try.func21, Try.ntmps21
  go_wp2_with fail
  refine HA.out.mono ?_
  rintro e w1 ⟨rfl, rfl⟩
  go_wp2_with fail
  go_ret2
  exact ⟨rfl, Lo.refl w⟩

set_option maxHeartbeats 400000 in
theorem put_many (l m : List Int) (v u : Value) (w : World) (hr : Row w v l) (hr2 : Row w u m) (hs : Bn.allSizes l = true) (hne : l.length ≠ m.length) :
    Calls Try.prog 21 #[v, u] w fun e w' => e = strErr ([], 1) ∧ Lo w w' := by
  have HA := Lib.hid (areSizes_any v l w hr)
  rw [hs] at HA
  obtain ⟨p, c, rfl, hlen⟩ := hr.form
  obtain ⟨p2, c2, rfl, hlen2⟩ := hr2.form
  have hb : ((m.length : Int) == (l.length : Int)) = false := by simp; omega
  clear hr hs hr2 hne
  go_enter Try.func21, Try.ntmps21
  go_wp2_with fail
  refine HA.out.mono ?_
  rintro e w1 ⟨rfl, rfl⟩
  go_wp2_with fail
  go_ret2
  exact ⟨rfl, Lo.refl w⟩

/-- What Put answers where the sizes are sizes, and as many as the values. -/
def putWork (l m : List Int) : List UInt8 × Int := if Bn.allFit l m = false then ([], 2) else (Bn.join l m, 0)

theorem below_lo {w W W' : World} (h : Lo w W) (k : Below w.heap.size W W') : Lo w W' := Below.trans h k

set_option maxHeartbeats 4000000 in
theorem put_work (l m : List Int) (v u : Value) (w : World) (hr : Row w v l) (hr2 : Row w u m) (hs : Bn.allSizes l = true) (heq : l.length = m.length) (hn : l.length ≤ 200000) :
    Calls Try.prog 21 #[v, u] w fun e w' => e = strErr (putWork l m) ∧ Lo w w' := by
  have HA := Lib.hid (areSizes_any v l w hr)
  rw [hs] at HA
  obtain ⟨p, c, rfl, hlen⟩ := hr.form
  obtain ⟨p2, c2, rfl, hlen2⟩ := hr2.form
  rw [← heq] at hr2 ⊢
  have HR := Lib.hid hr
  have HR2 := Lib.hid hr2
  have HS := Lib.hid hs
  generalize hy : putWork l m = y
  have HY := Lib.hid hy
  have HM := Lib.hid heq
  generalize hnn : l.length = n at *
  have HN := Lib.hid hnn
  have hj := Lib.hid (Bn.join_len_le l m hs)
  clear hr hs hr2 heq hnn hlen2 hy
  have HB := Lib.hid (Lib.fresh_isBuilder 69 5 w)
  have HL0 := Lib.hid ((Lo.refl w).alloc (.cells #[.pointer none, .slice none 0 0] 69))
  go_enter Try.func21, Try.ntmps21
  go_wp2_with fail
  refine HA.out.mono ?_
  rintro e w1 ⟨rfl, rfl⟩
  go_wp2_with fail
  go_loopw [22] (fun i W => ∃ k : Nat, k ≤ n ∧ i = .int .i64 k ∧ Hid (Bn.allFit (l.take k) (m.take k) = true) ∧ Hid (Lib.IsBuilder 69 5 w.heap.size w.heap.size (Lib.byteCells (Bn.join (l.take k) (m.take k))) W) ∧ Hid (Lo w W)) (fun i _ => n - (intOf i).toNat)
  case atStart => exact ⟨0, Nat.zero_le _, rfl, Lib.hid rfl, HB, HL0⟩
  case round =>
    obtain ⟨k, hk, rfl, HF, HB1, HL1⟩ := hrel
    by_cases hlt : k < n
    · obtain ⟨b, off, rfl, hcell⟩ := (HR.out.lo HL1.out).at_ hlt
      obtain ⟨b', off', rfl, hcell2⟩ := (HR2.out.lo HL1.out).at_ hlt
      have HK : Hid (k < l.length) := Lib.hid (by rw [HN.out]; exact hlt)
      have HK2 : Hid (k < m.length) := Lib.hid (by rw [← HM.out]; exact hlt)
      have HT := Lib.hid (Bn.take_snoc HK.out)
      have HT2 := Lib.hid (Bn.take_snoc HK2.out)
      have HZ := Lib.hid (Bn.allSizes_at HS.out HK.out)
      have HNo := Lib.hid (Bn.allFit_false l m k HK.out HK2.out)
      have HCell : Hid (∀ W, Lo w W → W.cell? ⟨b', off' + k, none⟩ = some (.int .i64 (m.getD k 0))) := Lib.hid (by
        intro W hW
        obtain ⟨b1, o1, he, hc⟩ := (HR2.out.lo hW).at_ hlt
        simp only [Option.some.injEq, Addr.mk.injEq, and_true] at he
        rw [he.1, he.2]; exact hc)
      generalize l.getD k 0 = z at *
      generalize m.getD k 0 = x at *
      have HFA := Lib.hid (fun W => fits_any x z W HZ.out)
      by_cases hfit : Bn.fits x z = true
      · have HX := Lib.hid (Bn.fits_ge hfit)
        have HFX := Lib.hid hfit
        rw [hfit] at HFA
        clear hfit HNo
        have HW := Lib.hid (fun W => width_any z W HZ.out)
        have hq4 := Bn.isSize_wide HZ.out
        generalize hq : z.natAbs = q at *
        have HQ := Lib.hid hq
        clear hq
        obtain ⟨hq1, hq4⟩ := hq4
        have HJL : Hid (∀ t, (Bn.join (l.take k) (m.take k) ++ (Bn.bytes x q).take t).length ≤ 800010) := Lib.hid (by
          intro t
          have hall : Bn.allSizes (l.take k) = true := by
            have := HS.out
            unfold Bn.allSizes at *
            rw [List.all_eq_true] at *
            exact fun y hy => this y (List.mem_of_mem_take hy)
          have h1 := Bn.join_len_le (l.take k) (m.take k) hall
          have h2 : (l.take k).length ≤ k := by simp; omega
          have h3 : ((Bn.bytes x q).take t).length ≤ q := by rw [List.length_take, Bn.bytes_len]; omega
          rw [List.length_append]; omega)
        have HJ : Hid (Bn.join (l.take (k + 1)) (m.take (k + 1)) = Bn.join (l.take k) (m.take k) ++ (Bn.bytes x q)) := Lib.hid (by
          rw [HT.out, HT2.out, Bn.join_snoc _ _ _ _ (by simp; have := HK.out; have := HK2.out; omega), HQ.out])
        have HF1 : Hid (Bn.allFit (l.take (k + 1)) (m.take (k + 1)) = true) := Lib.hid (by
          rw [HT.out, HT2.out, Bn.allFit_snoc _ _ _ _ (by simp; have := HK.out; have := HK2.out; omega), HF.out, HFX.out]; rfl)
        generalize Bn.join (l.take k) (m.take k) = pre at *
        go_wp2_with fail
        refine (HFA.out _).mono ?_
        rintro e w2 ⟨rfl, rfl⟩
        go_wp2_with fail
        refine (HW.out _).mono ?_
        rintro e w2 ⟨rfl, rfl⟩
        clear hcell hcell2 HFA HW
        go_wp2_with fail
        go_loopw [9] (fun s W => ∃ (t : Nat) (sv : Int), t ≤ q ∧ s = .int .i64 sv ∧ Hid (sv = 8 * ((q : Int) - 1 - t)) ∧ Hid (Lib.IsBuilder 69 5 w.heap.size w.heap.size (Lib.byteCells (pre ++ (Bn.bytes x q).take t)) W) ∧ Hid (Lo w W)) (fun s _ => (intOf s + 8).toNat)
        case atStart => exact ⟨0, _, Nat.zero_le _, rfl, Lib.hid (by omega), Lib.hid (by rw [List.take_zero, List.append_nil]; exact HB1.out), HL1⟩
        case round =>
          obtain ⟨t, sv, ht, rfl, HSV, HB2, HL2⟩ := hrel
          by_cases htq : t < q
          · have h0 : 0 ≤ sv := by rw [HSV.out]; omega
            obtain ⟨sn, rfl⟩ := Int.eq_ofNat_of_zero_le h0
            have hsn : sn = 8 * (q - 1 - t) := by have := HSV.out; omega
            have hsb : sn ≤ 24 := by omega
            have HSN := Lib.hid hsn
            clear hsn
            have hcell3 := HCell.out _ HL2.out
            have HBy := Lib.hid (Bn.bytes_at x q t htq HX.out)
            have HTk := Lib.hid (Gk.take_snoc (Bn.bytes x q) t (by rw [Bn.bytes_len]; exact htq))
            generalize (Bn.bytes x q).getD t 0 = by1 at *
            go_wp2_with fail
            refine (Try.Builder_WriteByte w.heap.size w.heap.size _ _ _ HB2.out (by rw [Lib.byteCells_length]; have := HJL.out t; omega) HL2.out.size).mono ?_
            rintro e w3 ⟨rfl, hb3, hlo3⟩
            have HB3 := Lib.hid hb3
            have HL3 := Lib.hid (below_lo HL2.out hlo3)
            clear hb3 hlo3
            go_wp2_with fail
            go_roundw
            case rel =>
              refine ⟨t + 1, (sn : Int) - 8, by omega, rfl, Lib.hid (by have := HSN.out; omega), Lib.hid ?_, HL3⟩
              have h := HB3.out
              rw [show (x / 2 ^ sn % 256 : Int) = (by1.toNat : Int) by rw [HBy.out, HSN.out, Int.toNat_of_nonneg (Int.emod_nonneg _ (by omega))]] at h
              rw [HTk.out, ← List.append_assoc, Lib.byteCells_append _ [by1]]
              exact .inr h
            case measure => simp [intOf]; omega
          · have hneg : sv < 0 := by rw [HSV.out]; omega
            obtain rfl : t = q := by omega
            have HB3 := HB2
            rw [List.take_of_length_le (by rw [Bn.bytes_len]; exact Nat.le_refl _), ← HJ.out] at HB3
            go_wp2_with fail
            go_roundw
            case rel => exact ⟨k + 1, by omega, by go_num, HF1, HB3, HL2⟩
            case measure => simp [intOf]; omega
      · rw [show Bn.fits x z = false by simpa using hfit] at HFA
        have HYY : Hid (y = ([], 2)) := Lib.hid (by rw [← HY.out, putWork, if_pos (HNo.out (by simpa using hfit))])
        clear hfit HNo
        go_wp2_with fail
        refine (HFA.out _).mono ?_
        rintro e w2 ⟨rfl, rfl⟩
        go_wp2_with fail
        go_ret2
        exact ⟨by rw [HYY.out]; rfl, HL1.out⟩
    · have h1 : l.take k = l := List.take_of_length_le (by rw [HN.out]; omega)
      have h2 : m.take k = m := List.take_of_length_le (by rw [← HM.out]; omega)
      have HB2 := HB1
      have HF2 := HF
      rw [h1, h2] at HB2 HF2
      have HYY : Hid (y = (Bn.join l m, 0)) := Lib.hid (by rw [← HY.out, putWork, if_neg (by rw [HF2.out]; simp)])
      have HString := Lib.hid (Try.Builder_String_any w.heap.size w.heap.size (Bn.join l m) _ HB2.out HL1.out.size)
      clear h1 h2
      go_wp2_with fail
      refine HString.out.mono ?_
      rintro e w2 ⟨rfl, hlo⟩
      go_wp2_with fail
      go_ret2
      exact ⟨by rw [HYY.out]; rfl, below_lo HL1.out hlo⟩

/-- bin.Put. -/
theorem put_any (l m : List Int) (v u : Value) (w : World) (hr : Row w v l) (hr2 : Row w u m) (hn : l.length ≤ 200000) :
    Calls Try.prog 21 #[v, u] w fun e w' => e = strErr (Bn.put l m) ∧ Lo w w' := by
  unfold Bn.put
  by_cases cs : Bn.allSizes l = false
  · rw [if_pos (.inl cs)]; exact put_size l v u w hr cs
  · have hs : Bn.allSizes l = true := by simpa using cs
    by_cases ce : l.length = m.length
    · rw [if_neg (by rintro (h | h) <;> contradiction)]; exact put_work l m v u w hr hr2 hs ce hn
    · rw [if_pos (.inr ce)]; exact put_many l m v u w hr hr2 hs ce
end Go.Proofs.Ytjeahgdefdlabaa
