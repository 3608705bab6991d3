/-
  The contract of the document's Put for layer 7 (up to 300 extents): it answers what the plain function says. No conditions beyond those stated.
-/
import Derived.Test.YtkfljalcnjdliaaGlRef
import Derived.Test.YtkfljalcnjdliaaBnRefB
namespace Gl
open Bn He
/-- loca, as far as k offsets go. -/
def locaTo (l : List Ext) (long : Bool) (k : Nat) : List UInt8 := flat ((wid long : Nat) : Int) ((places l long).take k)
theorem locaTo_zero (l : List Ext) (long : Bool) : locaTo l long 0 = [] := rfl
theorem locaTo_all (l : List Ext) (long : Bool) : locaTo l long (l.length + 1) = loca l long := by
  unfold locaTo loca
  rw [List.take_of_length_le (by rw [places_len]; exact Nat.le_refl _)]
def entry (l : List Ext) (long : Bool) (k : Nat) : Int := if long = true then ((off l k : Nat) : Int) else ((off l k / 2 : Nat) : Int)
theorem locaTo_succ {l : List Ext} {long : Bool} {k : Nat} (h : k ≤ l.length) : locaTo l long (k + 1) = locaTo l long k ++ bytes (entry l long k) (wid long) := by
  unfold locaTo
  have hk : k < (places l long).length := by rw [places_len]; omega
  rw [List.take_succ_eq_append_getElem hk, flat_append]
  congr 1
  have e : (places l long)[k] = entry l long k := by
    have := places_at (l := l) (long := long) h
    simp [List.getD, List.getElem?_eq_getElem hk] at this
    exact this
  rw [flat, flat, List.append_nil, e, wid_abs]
theorem locaTo_len (l : List Ext) (long : Bool) (k : Nat) : (locaTo l long k).length ≤ 4 * k := by
  unfold locaTo
  rw [flat_len, wid_abs]
  have : ((places l long).take k).length ≤ k := List.length_take_le _ _
  cases long with
  | true => show 4 * _ ≤ _; omega
  | false => show 2 * _ ≤ _; omega
/-- The first that is not right. -/
theorem first_no : ∀ l : List Ext, l.all isExt = false → ∃ k, k < l.length ∧ isExt (l.getD k none) = false ∧ ∀ j, j < k → isExt (l.getD j none) = true
  | [], h => by simp at h
  | x :: r, h => by
    cases hx : isExt x with
    | false => exact ⟨0, by simp, hx, by omega⟩
    | true =>
      rw [List.all_cons, hx, Bool.true_and] at h
      obtain ⟨k, h1, h2, h3⟩ := first_no r h
      refine ⟨k + 1, by simpa using h1, by simpa using h2, fun j hj => ?_⟩
      cases j with
      | zero => exact hx
      | succ j => exact h3 j (by omega)
theorem bodies_snoc {l : List Ext} {k : Nat} (h : k < l.length) : bodies (l.take (k + 1)) = bodies (l.take k) ++ body (l.getD k none) := by
  rw [take_snocE h, bodies_append, bodies, bodies, List.append_nil]
theorem bodies_bd (l : List Ext) (k : Nat) : (bodies (l.take k)).length ≤ 12 * k := by
  rw [bodies_len]
  have h1 := outlines_le (l.take k)
  have h2 : (l.take k).length ≤ k := List.length_take_le _ _
  omega
end Gl
namespace Go.Proofs.Ytkfljalcnjdliaa
open Go.RowKit

/-- An extent's numbers stand, further on. -/
abbrev ExtAt (T : Nat) (x0 y0 x1 y1 : Int) (w0 W : World) : Prop :=
  W.cell? ⟨T, 1, none⟩ = some (.int .i64 x0) ∧ W.cell? ⟨T, 2, none⟩ = some (.int .i64 y0) ∧ W.cell? ⟨T, 3, none⟩ = some (.int .i64 x1) ∧ W.cell? ⟨T, 4, none⟩ = some (.int .i64 y1) ∧ Hid (Lo w0 W)
theorem ExtAt.of {T : Nat} {a : Bool} {x0 y0 x1 y1 : Int} {w0 W : World} (h : w0.heap[T]? = some (.cells #[.bool a, .int .i64 x0, .int .i64 y0, .int .i64 x1, .int .i64 y1] 30 (0, 0))) (lo : Lo w0 W) : ExtAt T x0 y0 x1 y1 w0 W := by
  obtain ⟨⟨r0, r1, r2, r3, r4⟩, _⟩ := five_at (lo_block lo h)
  exact ⟨r1, r2, r3, r4, Lib.hid lo⟩
theorem eadd_run (a b c : List UInt8) (hc : a ++ b = c) (hl : a.length + b.length ≤ 100000) (W : World) : (Op.stringOp .add ⟨a.toArray⟩ ⟨b.toArray⟩).run Try.prog W = .ok (.string ⟨c.toArray⟩) W := by
  rw [run_string_add_sum W _ _ (by show a.length + b.length ≤ _; omega), Gk.cat_list, hc]
theorem ebytes2 (x : Int) (W : World) (h1 : -32768 ≤ x) (h2 : x ≤ 32767) : Calls Try.prog 27 #[.int .i64 x, .int .i64 2] W fun e w' => e = .returned (.string ⟨(Bn.bytes x 2).toArray⟩) ∧ Lo W w' := by
  have := rbytes_any x (-2) W (by decide) (He.fits2s h1 h2)
  rw [show Int.natAbs (-2) = 2 from rfl] at this
  exact this
theorem ebytesL (l : List Gl.Ext) (k : Nat) (W : World) (hk : k ≤ 300) : Calls Try.prog 27 #[.int .i64 ((Gl.bodies (l.take k)).length : Nat), .int .i64 4] W fun e w' => e = .returned (.string ⟨(Bn.bytes (Gl.entry l true k) 4).toArray⟩) ∧ Lo W w' := by
  have hb := Gl.bodies_bd l k
  have := rbytes_any ((Gl.bodies (l.take k)).length : Nat) 4 W (by decide) (by unfold Bn.fits; rw [if_neg (by omega)]; simp; omega)
  rw [show Int.natAbs 4 = 4 from rfl] at this
  exact this
theorem ebytesS (l : List Gl.Ext) (k : Nat) (W : World) (hk : k ≤ 300) (q : Int) (hq : q = ((Gl.bodies (l.take k)).length : Int) / 2) : Calls Try.prog 27 #[.int .i64 q, .int .i64 2] W fun e w' => e = .returned (.string ⟨(Bn.bytes (Gl.entry l false k) 2).toArray⟩) ∧ Lo W w' := by
  have hb := Gl.bodies_bd l k
  have he : Gl.entry l false k = q := by
    unfold Gl.entry Gl.off
    rw [if_neg (by simp), hq]; simp
  have := rbytes_any q 2 W (by decide) (He.fits2 (by omega) (by omega))
  rw [show Int.natAbs 2 = 2 from rfl] at this
  rw [he]; exact this

set_option maxHeartbeats 400000 in
theorem grput_none (v : Value) (l : List Gl.Ext) (long : Bool) (w : World) (hr : ERow w v l) (h : l.length = 0) :
    Calls Try.prog 10 #[v, .bool long] w fun e w' => e = strs3 ([], [], 1) ∧ Lo w w' := by
  obtain ⟨p, c, rfl, hlen⟩ := RowK.form hr
  rw [h]
  clear hr hlen
  go_enter Try.func10, Try.ntmps10
  go_wp2_with fail
  go_ret3
  exact ⟨rfl, Lo.refl _⟩

set_option maxRecDepth 100000 in
set_option maxHeartbeats 1600000 in
theorem grput_wrong (v : Value) (l : List Gl.Ext) (long : Bool) (w : World) (hr : ERow w v l) (h1 : 1 ≤ l.length) (hl : l.length ≤ 300) (hall : l.all Gl.isExt = false) :
    Calls Try.prog 10 #[v, .bool long] w fun e w' => e = strs3 ([], [], 1) ∧ Lo w w' := by
  obtain ⟨m, hm, hm2, hm3⟩ := Gl.first_no l hall
  obtain ⟨p, c, rfl, hlen⟩ := RowK.form hr
  have HR := Lib.hid hr
  have HX : Hid (∀ k, k < l.length → l[k]? = some (l.getD k Gl.none)) := Lib.hid (fun k hk => Gl.getD_some hk)
  have HM2 := Lib.hid hm2
  have HM3 := Lib.hid hm3
  generalize l.length = n at *
  have i1 : ¬ n < 1 := by omega
  have i2 : ¬ 65535 < n := by omega
  clear hr hall hm2 hm3
  go_enter Try.func10, Try.ntmps10
  go_wp2_with fail
  go_loopw [7, 8] (fun s i W => ∃ k t : Nat, k ≤ m ∧ t ≤ k ∧ i = .int .i64 k ∧ s = .int .i64 t ∧ Hid (Lo w W)) (fun _ i _ => m - (intOf i).toNat)
  case atStart => exact ⟨0, 0, Nat.zero_le _, Nat.le_refl _, rfl, rfl, Lib.hid (Lo.refl _)⟩
  case round =>
    obtain ⟨k, t, hk, ht, rfl, rfl, HL⟩ := hrel
    have hkn : k < n := by omega
    have hx1 := HX.out k hkn
    have HRr := Lib.hid (RowK.lo HR.out HL.out)
    obtain ⟨b, off, rfl, r0, r1, r2, r3, r4⟩ := ERow.at5 HRr.out hx1
    by_cases hlt : k < m
    · have hx2 := HM3.out k hlt
      generalize l.getD k Gl.none = x at *
      have HI := Lib.hid (fun W => gris_any x W)
      rw [hx2] at HI
      unfold aggE at HI
      have HX1 := Lib.hid hx1
      clear hx2 hx1
      go_wp2_with fail
      refine (HI.out _).mono ?_
      rintro e w3 ⟨rfl, lo⟩
      have HL3 := Lib.hid (HL.out.trans lo)
      have HR3 := Lib.hid (RowK.lo HRr.out lo)
      clear lo HI r0 r1 r2 r3 r4
      obtain ⟨b', off', he, r0, r1, r2, r3, r4⟩ := ERow.at5 HR3.out HX1.out
      simp only [Option.some.injEq, Addr.mk.injEq, and_true] at he
      obtain ⟨rfl, rfl⟩ := he
      obtain ⟨xa, x0, y0, x1, y1⟩ := x
      dsimp only at r0 r1 r2 r3 r4
      clear r1 r2 r3 r4
      cases xa with
      | true =>
        go_wp2_with fail
        go_roundw
        case rel => exact ⟨k + 1, t + 1, by omega, by omega, by go_num, by go_num, HL3⟩
        case measure => simp [intOf]; omega
      | false =>
        go_wp2_with fail
        go_roundw
        case rel => exact ⟨k + 1, t, by omega, by omega, by go_num, rfl, HL3⟩
        case measure => simp [intOf]; omega
    · obtain rfl : k = m := by omega
      have hx2 := HM2.out
      generalize l.getD k Gl.none = x at *
      have HI := Lib.hid (fun W => gris_any x W)
      rw [hx2] at HI
      unfold aggE at HI
      clear hx2 hx1
      go_wp2_with fail
      refine (HI.out _).mono ?_
      rintro e w3 ⟨rfl, lo⟩
      have HL3 := Lib.hid (HL.out.trans lo)
      clear lo HI r0 r1 r2 r3 r4
      go_wp2_with fail
      go_ret3
      exact ⟨rfl, HL3.out⟩

set_option maxRecDepth 100000 in
set_option maxHeartbeats 6400000 in
theorem grput_rightL (v : Value) (l : List Gl.Ext) (w : World) (hr : ERow w v l) (h1 : 1 ≤ l.length) (hl : l.length ≤ 300) (hall : l.all Gl.isExt = true) :
    Calls Try.prog 10 #[v, .bool true] w fun e w' => e = strs3 (Gl.loca l true, Gl.bodies l, 0) ∧ Lo w w' := by
  obtain ⟨p, c, rfl, hlen⟩ := RowK.form hr
  have HR := Lib.hid hr
  have HX : Hid (∀ k, k < l.length → l[k]? = some (l.getD k Gl.none) ∧ Gl.isExt (l.getD k Gl.none) = true) := Lib.hid (fun k hk => ⟨Gl.getD_some hk, List.all_eq_true.1 hall _ (by simp [List.getD, List.getElem?_eq_getElem hk])⟩)
  have HLs : Hid (∀ k, k ≤ l.length → Gl.locaTo l true (k + 1) = Gl.locaTo l true k ++ Bn.bytes (Gl.entry l true k) (Gl.wid true)) := Lib.hid (fun k hk => Gl.locaTo_succ hk)
  have HBs : Hid (∀ k, k < l.length → Gl.bodies (l.take (k + 1)) = Gl.bodies (l.take k) ++ Gl.body (l.getD k Gl.none)) := Lib.hid (fun k hk => Gl.bodies_snoc hk)
  have HLa := Lib.hid (Gl.locaTo_all l true)
  have HBa : Hid (∀ k, l.length ≤ k → Gl.bodies (l.take k) = Gl.bodies l) := Lib.hid (fun k hk => by rw [List.take_of_length_le hk])
  have HLl := Lib.hid (fun k => Gl.locaTo_len l true k)
  have HBl := Lib.hid (fun k => Gl.bodies_bd l k)
  have HBy : Hid (∀ k W, k ≤ 300 → Calls Try.prog 27 #[.int .i64 ((Gl.bodies (l.take k)).length : Nat), .int .i64 4] W fun e w' => e = .returned (.string ⟨(Bn.bytes (Gl.entry l true k) 4).toArray⟩) ∧ Lo W w') := Lib.hid (fun k W hk => ebytesL l k W hk)
  unfold strs3
  generalize Gl.loca l true = ansL at *
  generalize Gl.bodies l = ansB at *
  generalize l.length = n at *
  have i1 : ¬ n < 1 := by omega
  have i2 : ¬ 65535 < n := by omega
  clear hr hall
  go_enter Try.func10, Try.ntmps10
  go_wp2_with fail
  go_loopw [7, 8] (fun s i W => ∃ k t : Nat, k ≤ n ∧ t ≤ k ∧ i = .int .i64 k ∧ s = .int .i64 t ∧ Hid (Lo w W)) (fun _ i _ => n - (intOf i).toNat)
  case atStart => exact ⟨0, 0, Nat.zero_le _, Nat.le_refl _, rfl, rfl, Lib.hid (Lo.refl _)⟩
  case round =>
    obtain ⟨k, t, hk, ht, rfl, rfl, HL⟩ := hrel
    by_cases hlt : k < n
    · obtain ⟨hx1, hx2⟩ := HX.out k hlt
      have HRr := Lib.hid (RowK.lo HR.out HL.out)
      obtain ⟨b, off, rfl, r0, r1, r2, r3, r4⟩ := ERow.at5 HRr.out hx1
      generalize l.getD k Gl.none = x at *
      have HI := Lib.hid (fun W => gris_any x W)
      rw [hx2] at HI
      unfold aggE at HI
      have HX1 := Lib.hid hx1
      clear hx2 hx1
      go_wp2_with fail
      refine (HI.out _).mono ?_
      rintro e w3 ⟨rfl, lo⟩
      have HL3 := Lib.hid (HL.out.trans lo)
      have HR3 := Lib.hid (RowK.lo HRr.out lo)
      clear lo HI r0 r1 r2 r3 r4
      obtain ⟨b', off', he, r0, r1, r2, r3, r4⟩ := ERow.at5 HR3.out HX1.out
      simp only [Option.some.injEq, Addr.mk.injEq, and_true] at he
      obtain ⟨rfl, rfl⟩ := he
      obtain ⟨xa, x0, y0, x1, y1⟩ := x
      dsimp only at r0 r1 r2 r3 r4
      clear r1 r2 r3 r4
      cases xa with
      | true =>
        go_wp2_with fail
        go_roundw
        case rel => exact ⟨k + 1, t + 1, by omega, by omega, by go_num, by go_num, HL3⟩
        case measure => simp [intOf]; omega
      | false =>
        go_wp2_with fail
        go_roundw
        case rel => exact ⟨k + 1, t, by omega, by omega, by go_num, rfl, HL3⟩
        case measure => simp [intOf]; omega
    · obtain rfl : k = n := by omega
      have ht2 : ¬ 10922 < t := by omega
      go_wp2_with fail
      rename_i W1 _ _ _ _ _
      go_loopw [9, 10, 11, 12] (fun s g i _ W => ∃ (j : Nat) (tl tg : List UInt8), j ≤ k + 1 ∧ i = .int .i64 j ∧ s = .string ⟨tl.toArray⟩ ∧ g = .string ⟨tg.toArray⟩ ∧ tl.length ≤ 1300 ∧ tg.length ≤ 3700 ∧ Hid (tl = Gl.locaTo l true j) ∧ Hid (tg = Gl.bodies (l.take j)) ∧ Hid (Lo w W)) (fun _ _ i _ _ => k + 1 - (intOf i).toNat)
      case atStart => exact ⟨0, [], [], by omega, rfl, rfl, rfl, by simp, by simp, Lib.hid rfl, Lib.hid rfl, HL⟩
      case round =>
        obtain ⟨j, tl, tg, hj, rfl, rfl, rfl, hbl, hbg, HTl, HTg, HL2⟩ := hrel
        by_cases hlt2 : j ≤ k
        · have HB := Lib.hid (HBy.out j · (by omega))
          rw [← HTg.out] at HB
          have HLn := Lib.hid (HLs.out j hlt2)
          have HLb := Lib.hid (HLl.out (j + 1))
          have HBb := Lib.hid (HBl.out (j + 1))
          rw [← HTl.out] at HLn
          have hne := Bn.bytes_len (Gl.entry l true j) (Gl.wid true)
          have hne2 : (Bn.bytes (Gl.entry l true j) (Gl.wid true)).length ≤ 4 := by rw [hne]; decide
          have hadd := fun W => eadd_run tl (Bn.bytes (Gl.entry l true j) (Gl.wid true)) _ rfl (by omega) W
          rw [show Gl.wid true = 4 from rfl] at hadd HLn hne2
          rw [← HLn.out] at hadd
          clear hne
          generalize Bn.bytes (Gl.entry l true j) 4 = eb at *
          generalize hnl : Gl.locaTo l true (j + 1) = nl at *
          have hnlen : nl.length ≤ 1300 := by have := HLb.out; omega
          have HNL := Lib.hid hnl
          clear hnl HLn
          by_cases hlt3 : j < k
          · obtain ⟨hx1, hx2⟩ := HX.out j hlt3
            have HRr := Lib.hid (RowK.lo HR.out HL2.out)
            have HBn := Lib.hid (HBs.out j hlt3)
            rw [← HTg.out] at HBn
            have HX1 := Lib.hid hx1
            have HX2 := Lib.hid hx2
            clear hx1 hx2
            generalize l.getD j Gl.none = x at *
            obtain ⟨xa, x0, y0, x1, y1⟩ := x
            cases xa with
            | false =>
              have HBn2 : Hid (tg = Gl.bodies (l.take (j + 1))) := Lib.hid (by rw [HBn.out]; simp [Gl.body])
              clear HBn
              go_wp2_with fail
              refine (HB.out _).mono ?_
              rintro e w3 ⟨rfl, lo⟩
              have HL3 := Lib.hid (HL2.out.trans lo)
              have HR3 := Lib.hid (RowK.lo HRr.out lo)
              clear lo HB HRr
              obtain ⟨b, off, rfl, r0, r1, r2, r3, r4⟩ := ERow.at5 HR3.out HX1.out
              dsimp only at r0 r1 r2 r3 r4
              go_wp2_with fail
              go_roundw
              case rel => exact ⟨j + 1, nl, tg, by omega, by go_num, rfl, rfl, hnlen, hbg, Lib.hid HNL.out.symm, HBn2, HL3⟩
              case measure => simp [intOf]; omega
            | true =>
              obtain ⟨⟨a1, a2⟩, ⟨b1, b2⟩, ⟨c1, c2⟩, ⟨d1, d2⟩, _⟩ := Gl.isExt_any HX2.out rfl
              dsimp only at a1 a2 b1 b2 c1 c2 d1 d2
              have HBn2 : Hid (Gl.bodies (l.take (j + 1)) = tg ++ [0, 0] ++ Bn.bytes x0 2 ++ Bn.bytes y0 2 ++ Bn.bytes x1 2 ++ Bn.bytes y1 2 ++ [0, 0]) := Lib.hid (by rw [HBn.out]; simp [Gl.body])
              clear HBn
              have l1 := Bn.bytes_len x0 2
              have l2 := Bn.bytes_len y0 2
              have l3 := Bn.bytes_len x1 2
              have l4 := Bn.bytes_len y1 2
              have z1 := fun W => eadd_run tg [0, 0] _ rfl (by simp; omega) W
              have z2 := fun W => eadd_run (tg ++ [0, 0]) (Bn.bytes x0 2) _ rfl (by simp [l1]; omega) W
              have z3 := fun W => eadd_run (tg ++ [0, 0] ++ Bn.bytes x0 2) (Bn.bytes y0 2) _ rfl (by simp [l1, l2]; omega) W
              have z4 := fun W => eadd_run (tg ++ [0, 0] ++ Bn.bytes x0 2 ++ Bn.bytes y0 2) (Bn.bytes x1 2) _ rfl (by simp [l1, l2, l3]; omega) W
              have z5 := fun W => eadd_run (tg ++ [0, 0] ++ Bn.bytes x0 2 ++ Bn.bytes y0 2 ++ Bn.bytes x1 2) (Bn.bytes y1 2) _ rfl (by simp [l1, l2, l3, l4]; omega) W
              have z6 := fun W => eadd_run (tg ++ [0, 0] ++ Bn.bytes x0 2 ++ Bn.bytes y0 2 ++ Bn.bytes x1 2 ++ Bn.bytes y1 2) [0, 0] _ rfl (by simp [l1, l2, l3, l4]; omega) W
              rw [← HBn2.out] at z6
              have HBlen := Lib.hid (HBl.out (j + 1))
              generalize hngd : Gl.bodies (l.take (j + 1)) = ng at *
              have NGP := Lib.hid hngd
              clear hngd
              have hng : ng.length ≤ 3700 := by have := HBlen.out; omega
              generalize tg ++ [0, 0] ++ Bn.bytes x0 2 ++ Bn.bytes y0 2 ++ Bn.bytes x1 2 ++ Bn.bytes y1 2 = t5 at *
              generalize tg ++ [0, 0] ++ Bn.bytes x0 2 ++ Bn.bytes y0 2 ++ Bn.bytes x1 2 = t4 at *
              generalize tg ++ [0, 0] ++ Bn.bytes x0 2 ++ Bn.bytes y0 2 = t3 at *
              generalize tg ++ [0, 0] ++ Bn.bytes x0 2 = t2 at *
              generalize tg ++ [0, 0] = t1 at *
              clear l1 l2 l3 l4 HBn2
              go_wp2_with fail
              refine (HB.out _).mono ?_
              rintro e w3 ⟨rfl, lo⟩
              have HL3 := Lib.hid (HL2.out.trans lo)
              have HR3 := Lib.hid (RowK.lo HRr.out lo)
              clear lo HB HRr
              obtain ⟨b, off, rfl, r0, r1, r2, r3, r4⟩ := ERow.at5 HR3.out HX1.out
              dsimp only at r0 r1 r2 r3 r4
              go_wp2_with fail
              generalize hW : World.alloc w3 _ = w4
              have HT : Hid (w4.heap[w3.heap.size]? = some (.cells #[.bool true, .int .i64 x0, .int .i64 y0, .int .i64 x1, .int .i64 y1] 30 (0, 0))) := Lib.hid (by rw [← hW]; exact new_block w3 _)
              have HL4 : Hid (Lo w w4) := Lib.hid (by rw [← hW]; exact HL3.out.alloc _)
              clear hW r0 r1 r2 r3 r4 hadd
              generalize w3.heap.size = T at *
              have HS : Hid (∀ W, Lo w4 W → ExtAt T x0 y0 x1 y1 w4 W) := Lib.hid (fun W lo => ExtAt.of HT.out lo)
              have HBz : Hid (∀ (x : Int) (W : World), (-32768 ≤ x ∧ x ≤ 32767) → ExtAt T x0 y0 x1 y1 w4 W → Calls Try.prog 27 #[.int .i64 x, .int .i64 2] W fun e w' => e = .returned (.string ⟨(Bn.bytes x 2).toArray⟩) ∧ ExtAt T x0 y0 x1 y1 w4 w') :=
                Lib.hid (fun x W hc hW => (ebytes2 x W hc.1 hc.2).mono fun e w' hh => ⟨hh.1, HS.out w' (hW.2.2.2.2.out.trans hh.2)⟩)
              go_region_held3 (fun W => ExtAt T x0 y0 x1 y1 w4 W) (first | assumption | exact HS.out _ (Lo.drew (Lo.refl _)))
                (first | (go_at_call 27; refine (HBz.out _ _ (by omega) (by assumption)).mono ?_; rintro e w5 ⟨rfl, hSB⟩))
              have HL5 := Lib.hid (HL4.out.trans hSB.2.2.2.2.out)
              clear hSB z1 z2 z3 z4 z5 z6
              go_wp2_with fail
              go_roundw
              case rel => exact ⟨j + 1, nl, ng, by omega, by go_num, rfl, rfl, hnlen, hng, Lib.hid HNL.out.symm, Lib.hid NGP.out.symm, HL5⟩
              case measure => simp [intOf]; omega
          · obtain rfl : j = k := by omega
            have HBn2 : Hid (tg = Gl.bodies (l.take (j + 1))) := Lib.hid (by rw [HTg.out, HBa.out j (Nat.le_refl _), HBa.out (j + 1) (by omega)])
            go_wp2_with fail
            refine (HB.out _).mono ?_
            rintro e w3 ⟨rfl, lo⟩
            have HL3 := Lib.hid (HL2.out.trans lo)
            clear lo HB
            go_wp2_with fail
            go_roundw
            case rel => exact ⟨j + 1, nl, tg, by omega, by go_num, rfl, rfl, hnlen, hbg, Lib.hid HNL.out.symm, HBn2, HL3⟩
            case measure => simp [intOf]
        · obtain rfl : j = k + 1 := by omega
          have HE1 : Hid (tl = ansL) := Lib.hid (by rw [HTl.out, HLa.out])
          have HE2 : Hid (tg = ansB) := Lib.hid (by rw [HTg.out, HBa.out _ (by omega)])
          obtain rfl := HE1.out
          obtain rfl := HE2.out
          go_wp2_with fail
          go_ret3
          exact ⟨rfl, HL2.out⟩

set_option maxRecDepth 100000 in
set_option maxHeartbeats 6400000 in
theorem grput_rightS (v : Value) (l : List Gl.Ext) (w : World) (hr : ERow w v l) (h1 : 1 ≤ l.length) (hl : l.length ≤ 300) (hall : l.all Gl.isExt = true) :
    Calls Try.prog 10 #[v, .bool false] w fun e w' => e = strs3 (Gl.loca l false, Gl.bodies l, 0) ∧ Lo w w' := by
  obtain ⟨p, c, rfl, hlen⟩ := RowK.form hr
  have HR := Lib.hid hr
  have HX : Hid (∀ k, k < l.length → l[k]? = some (l.getD k Gl.none) ∧ Gl.isExt (l.getD k Gl.none) = true) := Lib.hid (fun k hk => ⟨Gl.getD_some hk, List.all_eq_true.1 hall _ (by simp [List.getD, List.getElem?_eq_getElem hk])⟩)
  have HLs : Hid (∀ k, k ≤ l.length → Gl.locaTo l false (k + 1) = Gl.locaTo l false k ++ Bn.bytes (Gl.entry l false k) (Gl.wid false)) := Lib.hid (fun k hk => Gl.locaTo_succ hk)
  have HBs : Hid (∀ k, k < l.length → Gl.bodies (l.take (k + 1)) = Gl.bodies (l.take k) ++ Gl.body (l.getD k Gl.none)) := Lib.hid (fun k hk => Gl.bodies_snoc hk)
  have HLa := Lib.hid (Gl.locaTo_all l false)
  have HBa : Hid (∀ k, l.length ≤ k → Gl.bodies (l.take k) = Gl.bodies l) := Lib.hid (fun k hk => by rw [List.take_of_length_le hk])
  have HLl := Lib.hid (fun k => Gl.locaTo_len l false k)
  have HBl := Lib.hid (fun k => Gl.bodies_bd l k)
  have HBy : Hid (∀ k W, k ≤ 300 → ∀ q : Int, q = ((Gl.bodies (l.take k)).length : Int) / 2 → Calls Try.prog 27 #[.int .i64 q, .int .i64 2] W fun e w' => e = .returned (.string ⟨(Bn.bytes (Gl.entry l false k) 2).toArray⟩) ∧ Lo W w') := Lib.hid (fun k W hk => fun q hq => ebytesS l k W hk q hq)
  unfold strs3
  generalize Gl.loca l false = ansL at *
  generalize Gl.bodies l = ansB at *
  generalize l.length = n at *
  have i1 : ¬ n < 1 := by omega
  have i2 : ¬ 65535 < n := by omega
  clear hr hall
  go_enter Try.func10, Try.ntmps10
  go_wp2_with fail
  go_loopw [7, 8] (fun s i W => ∃ k t : Nat, k ≤ n ∧ t ≤ k ∧ i = .int .i64 k ∧ s = .int .i64 t ∧ Hid (Lo w W)) (fun _ i _ => n - (intOf i).toNat)
  case atStart => exact ⟨0, 0, Nat.zero_le _, Nat.le_refl _, rfl, rfl, Lib.hid (Lo.refl _)⟩
  case round =>
    obtain ⟨k, t, hk, ht, rfl, rfl, HL⟩ := hrel
    by_cases hlt : k < n
    · obtain ⟨hx1, hx2⟩ := HX.out k hlt
      have HRr := Lib.hid (RowK.lo HR.out HL.out)
      obtain ⟨b, off, rfl, r0, r1, r2, r3, r4⟩ := ERow.at5 HRr.out hx1
      generalize l.getD k Gl.none = x at *
      have HI := Lib.hid (fun W => gris_any x W)
      rw [hx2] at HI
      unfold aggE at HI
      have HX1 := Lib.hid hx1
      clear hx2 hx1
      go_wp2_with fail
      refine (HI.out _).mono ?_
      rintro e w3 ⟨rfl, lo⟩
      have HL3 := Lib.hid (HL.out.trans lo)
      have HR3 := Lib.hid (RowK.lo HRr.out lo)
      clear lo HI r0 r1 r2 r3 r4
      obtain ⟨b', off', he, r0, r1, r2, r3, r4⟩ := ERow.at5 HR3.out HX1.out
      simp only [Option.some.injEq, Addr.mk.injEq, and_true] at he
      obtain ⟨rfl, rfl⟩ := he
      obtain ⟨xa, x0, y0, x1, y1⟩ := x
      dsimp only at r0 r1 r2 r3 r4
      clear r1 r2 r3 r4
      cases xa with
      | true =>
        go_wp2_with fail
        go_roundw
        case rel => exact ⟨k + 1, t + 1, by omega, by omega, by go_num, by go_num, HL3⟩
        case measure => simp [intOf]; omega
      | false =>
        go_wp2_with fail
        go_roundw
        case rel => exact ⟨k + 1, t, by omega, by omega, by go_num, rfl, HL3⟩
        case measure => simp [intOf]; omega
    · obtain rfl : k = n := by omega
      have ht2 : ¬ 10922 < t := by omega
      go_wp2_with fail
      rename_i W1 _ _ _ _ _
      go_loopw [9, 10, 11, 12] (fun s g i _ W => ∃ (j : Nat) (tl tg : List UInt8), j ≤ k + 1 ∧ i = .int .i64 j ∧ s = .string ⟨tl.toArray⟩ ∧ g = .string ⟨tg.toArray⟩ ∧ tl.length ≤ 1300 ∧ tg.length ≤ 3700 ∧ Hid (tl = Gl.locaTo l false j) ∧ Hid (tg = Gl.bodies (l.take j)) ∧ Hid (Lo w W)) (fun _ _ i _ _ => k + 1 - (intOf i).toNat)
      case atStart => exact ⟨0, [], [], by omega, rfl, rfl, rfl, by simp, by simp, Lib.hid rfl, Lib.hid rfl, HL⟩
      case round =>
        obtain ⟨j, tl, tg, hj, rfl, rfl, rfl, hbl, hbg, HTl, HTg, HL2⟩ := hrel
        by_cases hlt2 : j ≤ k
        · have HB := Lib.hid (HBy.out j · (by omega))
          rw [← HTg.out] at HB
          have HLn := Lib.hid (HLs.out j hlt2)
          have HLb := Lib.hid (HLl.out (j + 1))
          have HBb := Lib.hid (HBl.out (j + 1))
          rw [← HTl.out] at HLn
          have hne := Bn.bytes_len (Gl.entry l false j) (Gl.wid false)
          have hne2 : (Bn.bytes (Gl.entry l false j) (Gl.wid false)).length ≤ 4 := by rw [hne]; decide
          have hadd := fun W => eadd_run tl (Bn.bytes (Gl.entry l false j) (Gl.wid false)) _ rfl (by omega) W
          rw [show Gl.wid false = 2 from rfl] at hadd HLn hne2
          rw [← HLn.out] at hadd
          clear hne
          generalize Bn.bytes (Gl.entry l false j) 2 = eb at *
          generalize hnl : Gl.locaTo l false (j + 1) = nl at *
          have hnlen : nl.length ≤ 1300 := by have := HLb.out; omega
          have HNL := Lib.hid hnl
          clear hnl HLn
          by_cases hlt3 : j < k
          · obtain ⟨hx1, hx2⟩ := HX.out j hlt3
            have HRr := Lib.hid (RowK.lo HR.out HL2.out)
            have HBn := Lib.hid (HBs.out j hlt3)
            rw [← HTg.out] at HBn
            have HX1 := Lib.hid hx1
            have HX2 := Lib.hid hx2
            clear hx1 hx2
            generalize l.getD j Gl.none = x at *
            obtain ⟨xa, x0, y0, x1, y1⟩ := x
            cases xa with
            | false =>
              have HBn2 : Hid (tg = Gl.bodies (l.take (j + 1))) := Lib.hid (by rw [HBn.out]; simp [Gl.body])
              clear HBn
              go_wp2_with fail
              refine (HB.out _ _ rfl).mono ?_
              rintro e w3 ⟨rfl, lo⟩
              have HL3 := Lib.hid (HL2.out.trans lo)
              have HR3 := Lib.hid (RowK.lo HRr.out lo)
              clear lo HB HRr
              obtain ⟨b, off, rfl, r0, r1, r2, r3, r4⟩ := ERow.at5 HR3.out HX1.out
              dsimp only at r0 r1 r2 r3 r4
              go_wp2_with fail
              go_roundw
              case rel => exact ⟨j + 1, nl, tg, by omega, by go_num, rfl, rfl, hnlen, hbg, Lib.hid HNL.out.symm, HBn2, HL3⟩
              case measure => simp [intOf]; omega
            | true =>
              obtain ⟨⟨a1, a2⟩, ⟨b1, b2⟩, ⟨c1, c2⟩, ⟨d1, d2⟩, _⟩ := Gl.isExt_any HX2.out rfl
              dsimp only at a1 a2 b1 b2 c1 c2 d1 d2
              have HBn2 : Hid (Gl.bodies (l.take (j + 1)) = tg ++ [0, 0] ++ Bn.bytes x0 2 ++ Bn.bytes y0 2 ++ Bn.bytes x1 2 ++ Bn.bytes y1 2 ++ [0, 0]) := Lib.hid (by rw [HBn.out]; simp [Gl.body])
              clear HBn
              have l1 := Bn.bytes_len x0 2
              have l2 := Bn.bytes_len y0 2
              have l3 := Bn.bytes_len x1 2
              have l4 := Bn.bytes_len y1 2
              have z1 := fun W => eadd_run tg [0, 0] _ rfl (by simp; omega) W
              have z2 := fun W => eadd_run (tg ++ [0, 0]) (Bn.bytes x0 2) _ rfl (by simp [l1]; omega) W
              have z3 := fun W => eadd_run (tg ++ [0, 0] ++ Bn.bytes x0 2) (Bn.bytes y0 2) _ rfl (by simp [l1, l2]; omega) W
              have z4 := fun W => eadd_run (tg ++ [0, 0] ++ Bn.bytes x0 2 ++ Bn.bytes y0 2) (Bn.bytes x1 2) _ rfl (by simp [l1, l2, l3]; omega) W
              have z5 := fun W => eadd_run (tg ++ [0, 0] ++ Bn.bytes x0 2 ++ Bn.bytes y0 2 ++ Bn.bytes x1 2) (Bn.bytes y1 2) _ rfl (by simp [l1, l2, l3, l4]; omega) W
              have z6 := fun W => eadd_run (tg ++ [0, 0] ++ Bn.bytes x0 2 ++ Bn.bytes y0 2 ++ Bn.bytes x1 2 ++ Bn.bytes y1 2) [0, 0] _ rfl (by simp [l1, l2, l3, l4]; omega) W
              rw [← HBn2.out] at z6
              have HBlen := Lib.hid (HBl.out (j + 1))
              generalize hngd : Gl.bodies (l.take (j + 1)) = ng at *
              have NGP := Lib.hid hngd
              clear hngd
              have hng : ng.length ≤ 3700 := by have := HBlen.out; omega
              generalize tg ++ [0, 0] ++ Bn.bytes x0 2 ++ Bn.bytes y0 2 ++ Bn.bytes x1 2 ++ Bn.bytes y1 2 = t5 at *
              generalize tg ++ [0, 0] ++ Bn.bytes x0 2 ++ Bn.bytes y0 2 ++ Bn.bytes x1 2 = t4 at *
              generalize tg ++ [0, 0] ++ Bn.bytes x0 2 ++ Bn.bytes y0 2 = t3 at *
              generalize tg ++ [0, 0] ++ Bn.bytes x0 2 = t2 at *
              generalize tg ++ [0, 0] = t1 at *
              clear l1 l2 l3 l4 HBn2
              go_wp2_with fail
              refine (HB.out _ _ rfl).mono ?_
              rintro e w3 ⟨rfl, lo⟩
              have HL3 := Lib.hid (HL2.out.trans lo)
              have HR3 := Lib.hid (RowK.lo HRr.out lo)
              clear lo HB HRr
              obtain ⟨b, off, rfl, r0, r1, r2, r3, r4⟩ := ERow.at5 HR3.out HX1.out
              dsimp only at r0 r1 r2 r3 r4
              go_wp2_with fail
              generalize hW : World.alloc w3 _ = w4
              have HT : Hid (w4.heap[w3.heap.size]? = some (.cells #[.bool true, .int .i64 x0, .int .i64 y0, .int .i64 x1, .int .i64 y1] 30 (0, 0))) := Lib.hid (by rw [← hW]; exact new_block w3 _)
              have HL4 : Hid (Lo w w4) := Lib.hid (by rw [← hW]; exact HL3.out.alloc _)
              clear hW r0 r1 r2 r3 r4 hadd
              generalize w3.heap.size = T at *
              have HS : Hid (∀ W, Lo w4 W → ExtAt T x0 y0 x1 y1 w4 W) := Lib.hid (fun W lo => ExtAt.of HT.out lo)
              have HBz : Hid (∀ (x : Int) (W : World), (-32768 ≤ x ∧ x ≤ 32767) → ExtAt T x0 y0 x1 y1 w4 W → Calls Try.prog 27 #[.int .i64 x, .int .i64 2] W fun e w' => e = .returned (.string ⟨(Bn.bytes x 2).toArray⟩) ∧ ExtAt T x0 y0 x1 y1 w4 w') :=
                Lib.hid (fun x W hc hW => (ebytes2 x W hc.1 hc.2).mono fun e w' hh => ⟨hh.1, HS.out w' (hW.2.2.2.2.out.trans hh.2)⟩)
              go_region_held3 (fun W => ExtAt T x0 y0 x1 y1 w4 W) (first | assumption | exact HS.out _ (Lo.drew (Lo.refl _)))
                (first | (go_at_call 27; refine (HBz.out _ _ (by omega) (by assumption)).mono ?_; rintro e w5 ⟨rfl, hSB⟩))
              have HL5 := Lib.hid (HL4.out.trans hSB.2.2.2.2.out)
              clear hSB z1 z2 z3 z4 z5 z6
              go_wp2_with fail
              go_roundw
              case rel => exact ⟨j + 1, nl, ng, by omega, by go_num, rfl, rfl, hnlen, hng, Lib.hid HNL.out.symm, Lib.hid NGP.out.symm, HL5⟩
              case measure => simp [intOf]; omega
          · obtain rfl : j = k := by omega
            have HBn2 : Hid (tg = Gl.bodies (l.take (j + 1))) := Lib.hid (by rw [HTg.out, HBa.out j (Nat.le_refl _), HBa.out (j + 1) (by omega)])
            go_wp2_with fail
            refine (HB.out _ _ rfl).mono ?_
            rintro e w3 ⟨rfl, lo⟩
            have HL3 := Lib.hid (HL2.out.trans lo)
            clear lo HB
            go_wp2_with fail
            go_roundw
            case rel => exact ⟨j + 1, nl, tg, by omega, by go_num, rfl, rfl, hnlen, hbg, Lib.hid HNL.out.symm, HBn2, HL3⟩
            case measure => simp [intOf]
        · obtain rfl : j = k + 1 := by omega
          have HE1 : Hid (tl = ansL) := Lib.hid (by rw [HTl.out, HLa.out])
          have HE2 : Hid (tg = ansB) := Lib.hid (by rw [HTg.out, HBa.out _ (by omega)])
          obtain rfl := HE1.out
          obtain rfl := HE2.out
          go_wp2_with fail
          go_ret3
          exact ⟨rfl, HL2.out⟩

/-- The document's Put. -/
theorem grput_any (v : Value) (l : List Gl.Ext) (long : Bool) (w : World) (hr : ERow w v l) (h2 : l.length ≤ 300) :
    Calls Try.prog 10 #[v, .bool long] w fun e w' => e = strs3 (Gl.put l long) ∧ Lo w w' := by
  rcases Nat.lt_or_ge l.length 1 with h | h
  · rw [Gl.put_arg long (.inl h)]; exact grput_none v l long w hr (by omega)
  · cases ha : l.all Gl.isExt with
    | false => rw [Gl.put_arg long (.inr (.inr ha))]; exact grput_wrong v l long w hr h h2 ha
    | true =>
      have ho := Gl.outlines_le l
      rw [Gl.put_right h (by omega) ha (by split <;> omega)]
      cases long with
      | true => exact grput_rightL v l w hr h h2 ha
      | false => exact grput_rightS v l w hr h h2 ha
end Go.Proofs.Ytkfljalcnjdliaa
