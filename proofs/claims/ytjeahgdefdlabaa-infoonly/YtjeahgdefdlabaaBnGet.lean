/-
  The contracts of bin.Get and bin.Piece: they answer what the plain functions on bytes say. No conditions beyond those stated.
-/
import Derived.Test.YtjeahgdefdlabaaBnCaught
import Derived.StillTailTactics
namespace Bn
theorem fields_one (l : List UInt8) (z : Int) : fields l [z] = [one (l.take z.natAbs) z] := rfl
theorem fields_snoc (l : List UInt8) (a : List Int) (z : Int) : fields l (a ++ [z]) = fields l a ++ [one ((l.drop (many a)).take z.natAbs) z] := by rw [fields_append, fields_one]
theorem many_drop_le (l : List Int) (k : Nat) (h : k < l.length) : many (l.take k) + (l.getD k 0).natAbs ≤ many l := by
  have h1 : many l = many (l.take (k + 1)) + many (l.drop (k + 1)) := by rw [← many_append, List.take_append_drop]
  rw [take_snoc h, many_snoc] at h1
  omega
/-- Only what is read counts. -/
theorem fields_take : ∀ (sizes : List Int) (l : List UInt8) (n : Nat), many sizes ≤ n → fields (l.take n) sizes = fields l sizes
  | [], _, _, _ => rfl
  | z :: r, l, n, h => by
    rw [many_cons] at h
    rw [fields, fields, List.take_take, Nat.min_eq_left (by omega), List.drop_take, fields_take r _ _ (by omega)]
end Bn
namespace Go.Proofs.Ytjeahgdefdlabaa
open Go.RowKit

theorem quiet' {P : Program} {f : FuncId} {args : Array Value} {w : World} {n : Nat} {v : Value}
    (h : Calls P f args (w.drewN n) fun e w' => e = .returned v ∧ w.drewN n = w') : Calls P f args (w.drewN n) fun e w'' => e = .returned v ∧ ∃ m, w'' = w.drewN m :=
  h.mono fun _ _ ⟨he, hm⟩ => ⟨he, n, hm.symm⟩

set_option maxHeartbeats 2000000 in
theorem get1_ret (b0 b1 b2 : Nat) (l : List UInt8) (pos : Nat) (sizes : List Int) (v : Value) (w : World) (hc0 : w.cell? ⟨b0, 0, none⟩ = some (.string ⟨l.toArray⟩)) (hc1 : w.cell? ⟨b1, 0, none⟩ = some (.int .i64 pos)) (hc2 : w.cell? ⟨b2, 0, none⟩ = some v)
    (hb2 : b2 < w.heap.size) (hrow : Row w v sizes) (hs : Bn.allSizes sizes = true) (hn : sizes.length ≤ 200000) (hl : l.length ≤ 9223372036854775807) (hfit : pos + Bn.many sizes ≤ l.length) :
    Calls Try.prog 35 #[.pointer (some ⟨b0, 0, none⟩), .pointer (some ⟨b1, 0, none⟩), .pointer (some ⟨b2, 0, none⟩)] w fun e w' =>
      ∃ u, e = .returned u ∧ Own w' w.heap.size u (Bn.fields (l.drop pos) sizes) ∧ Lo w w' := by
  have HT := Lib.hid (fun k => total_any v sizes (w.drewN k) (hrow.lo ((Lo.refl w).drewN k)) hs (by omega))
  have HP := Lib.hid (fun W => piece_ret l pos (Bn.many sizes) W hfit hl)
  obtain ⟨p, c, rfl, hlen⟩ := hrow.form
  have HR := Lib.hid hrow
  have HS := Lib.hid hs
  have HF := Lib.hid (Bn.fields_take sizes (l.drop pos) (Bn.many sizes) (Nat.le_refl _)).symm
  have hbl : ((l.drop pos).take (Bn.many sizes)).length = Bn.many sizes := by rw [List.length_take, List.length_drop]; omega
  have hbl2 : Bn.many sizes ≤ l.length := by omega
  generalize (l.drop pos).take (Bn.many sizes) = body at *
  generalize hM : Bn.many sizes = M at *
  have HM := Lib.hid hM
  have HBL := Lib.hid hbl
  generalize hnn : sizes.length = n at *
  have HN := Lib.hid hnn
  have HB2 := Lib.hid hb2
  clear hM hbl hnn hrow hs hb2 hfit
  go_enter Try.func35, Try.ntmps35
  go_wp2_with fail
  go_quiet (first
    | (go_at_call 37; exact quiet' (HT.out _))
    | (go_at_call 36; exact quiet' (HP.out _)))
  have HL0 := Lib.hid ((Lo.refl w).drewN nq)
  have hsz : (w.drewN nq).heap.size = w.heap.size := rfl
  go_wp2_with (at_make; refine wpList_mk _ rfl _ _ rfl w.heap.size _ n rfl rfl (by simp) (by omega) (Nat.le_refl _) ?_; intro pv cv w1 hown hlo; have HL := Lib.hid (HL0.out.trans hlo); have HO := Lib.hid hown; clear hown hlo; have hc2' := (HL.out.cell HB2.out).trans hc2)
  clear hc0 hc1 hc2 hc2' HT HP HL0
  go_loopw [4, 5, 7, 18] (fun r u _ i W => ∃ (k : Nat) (m : List UInt8) (pu : Option Addr) (cu : Nat), k ≤ n ∧ i = .int .i64 k ∧ r = .string ⟨m.toArray⟩ ∧ u = .slice pu k cu ∧ Hid (m = body.drop (Bn.many (sizes.take k))) ∧ Hid (Own W w.heap.size (.slice pu k cu) (Bn.fields body (sizes.take k))) ∧ Hid (Lo w W)) (fun _ _ _ i _ => n - (intOf i).toNat)
  case atStart => exact ⟨0, body, pv, cv, Nat.zero_le _, rfl, rfl, rfl, Lib.hid (by simp [Bn.many]), HO, HL⟩
  case round =>
    obtain ⟨k, m, pu, cu, hk, rfl, rfl, rfl, HR1, HO1, HL1⟩ := hrel
    by_cases hlt : k < n
    · obtain ⟨b, off, rfl, hcell⟩ := (HR.out.lo HL1.out).at_ hlt
      have HK : Hid (k < sizes.length) := Lib.hid (by rw [HN.out]; exact hlt)
      have HTS := Lib.hid (Bn.take_snoc HK.out)
      have HZ := Lib.hid (Bn.allSizes_at HS.out HK.out)
      have hmd := Bn.many_drop_le sizes k HK.out
      have hml : m.length = M - Bn.many (sizes.take k) := by rw [HR1.out, List.length_drop, HBL.out]
      rw [HM.out] at hmd
      generalize sizes.getD k 0 = z at *
      have hqm : z.natAbs ≤ m.length := by omega
      have hmle : m.length ≤ 9223372036854775807 := by omega
      clear hml hmd
      generalize hq : z.natAbs = q at *
      have HQ := Lib.hid hq
      clear hq
      have hx1 : (⟨m.toArray⟩ : ByteArray).extract 0 q = ⟨(m.take q).toArray⟩ := by rw [Gk.extract_list]; simp
      have hx2 := Gk.extract_from m q
      have HVal := Lib.hid (fun W => value_any (m.take q) z W HZ.out (by rw [HQ.out, List.length_take]; omega))
      have HW := Lib.hid (fun W => width_any z W HZ.out)
      rw [HQ.out] at HW
      have HOne : Hid (Bn.fields body (sizes.take (k + 1)) = Bn.fields body (sizes.take k) ++ [Bn.one (m.take q) z]) := Lib.hid (by rw [HTS.out, Bn.fields_snoc, ← HR1.out, HQ.out])
      have HDrop : Hid (m.drop q = body.drop (Bn.many (sizes.take (k + 1)))) := Lib.hid (by rw [HTS.out, Bn.many_snoc, HQ.out, HR1.out, List.drop_drop])
      generalize Bn.one (m.take q) z = y at *
      have hfl : (Bn.fields body (sizes.take k)).length = k := by rw [Bn.fields_len, List.length_take]; have := HK.out; omega
      have HFL := Lib.hid hfl
      clear hfl
      go_wp2_with fail
      refine (HW.out _).mono ?_
      rintro e w2 ⟨rfl, rfl⟩
      go_wp2_with fail
      refine (HVal.out _).mono ?_
      rintro e w2 ⟨rfl, rfl⟩
      go_wp2_with (at_builtin; refine wpList_app _ rfl (.tmp 22) (.tmp 29) rfl w.heap.size (.slice pu k cu) _ rfl (HO1.out.lo ((Lo.refl _).alloc _)) _ [y] rfl (row1 _ _ (by simp) y) (by rw [HFL.out]; simp; omega) (by have := HL1.out.size; simp; omega) ?_; intro q1 c1 w3 hown hlo; have HO3 := Lib.hid hown; have HL3 := Lib.hid (hlo w (HL1.out.alloc _) rfl); clear hown hlo; rw [HFL.out, List.length_singleton] at HO3; rw [HFL.out, List.length_singleton])
      refine (HW.out _).mono ?_
      rintro e w4 ⟨rfl, rfl⟩
      go_wp2_with fail
      go_roundw
      case rel => exact ⟨k + 1, m.drop q, q1, c1, by omega, by go_num, rfl, rfl, HDrop, Lib.hid (by rw [HOne.out]; exact HO3.out), HL3⟩
      case measure => simp [intOf]; omega
    · go_wp2_with fail
      go_ret
      have h1 : sizes.take k = sizes := List.take_of_length_le (by rw [HN.out]; omega)
      have := HO1.out
      rw [h1, ← HF.out] at this
      exact ⟨_, rfl, this, HL1.out⟩

set_option maxRecDepth 100000 in
set_option maxHeartbeats 2000000 in
theorem get1_raise (b0 b1 b2 : Nat) (l : List UInt8) (pos : Int) (sizes : List Int) (v : Value) (w : World) (hc0 : w.cell? ⟨b0, 0, none⟩ = some (.string ⟨l.toArray⟩)) (hc1 : w.cell? ⟨b1, 0, none⟩ = some (.int .i64 pos)) (hc2 : w.cell? ⟨b2, 0, none⟩ = some v)
    (hrow : Row w v sizes) (hs : Bn.allSizes sizes = true) (hn : sizes.length ≤ 200000) (hl : l.length ≤ 9223372036854775807) (h0 : 0 ≤ pos) (h1 : pos ≤ 9223372036854775807) (hfit : (l.length : Int) - pos < (Bn.many sizes : Nat)) :
    Calls Try.prog 35 #[.pointer (some ⟨b0, 0, none⟩), .pointer (some ⟨b1, 0, none⟩), .pointer (some ⟨b2, 0, none⟩)] w fun e w' => e = .panicked (raise 4) ∧ Lo w w' := by
  have HT := Lib.hid (fun k => total_any v sizes (w.drewN k) (hrow.lo ((Lo.refl w).drewN k)) hs (by omega))
  have HP := Lib.hid (fun W => piece_raise l pos (Bn.many sizes : Nat) W h0 h1 hfit hl)
  obtain ⟨p, c, rfl, hlen⟩ := hrow.form
  generalize Bn.many sizes = M at *
  generalize sizes.length = n at *
  clear hrow hs hfit
  go_enter Try.func35, Try.ntmps35
  go_wp2_with fail
  refine wp_region_still_tail 4 (by kernel_rfl) (by kernel_rfl) ?_
  simp only [List.take_succ_cons, List.take_zero, List.drop_succ_cons, List.drop_zero]
  change wpStill _ _ (w.drewN 1) _ _ _
  still_step
  still_step
  still_step
  still_call ((HT.out 1).mono fun e w' h => ⟨h.1, h.2.symm⟩)
  refine wpStill_nil ?_
  change wpList _ _ _ _ _ (w.drewN 1)
  generalize hw : w.drewN 1 = w2
  have HL : Hid (Lo w w2) := Lib.hid (by rw [← hw]; exact (Lo.refl w).drewN 1)
  clear hw
  go_wp2_with fail
  refine (HP.out _).mono ?_
  rintro e w3 ⟨rfl, rfl⟩
  exact ⟨rfl, rfl, HL.out⟩
end Go.Proofs.Ytjeahgdefdlabaa
