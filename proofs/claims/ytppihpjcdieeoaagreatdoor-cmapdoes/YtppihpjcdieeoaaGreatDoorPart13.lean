/-
  Facts that the walks rest on: CmRecs, CmRead, CmUse. No conditions beyond those stated.
-/
import Derived.Test.YtppihpjcdieeoaaGreatDoorPart11
import Derived.Test.YtppihpjcdieeoaaGreatDoorPart12
import Derived.Test.YtppihpjcdieeoaaGreatDoorPart03
import Derived.Test.YtppihpjcdieeoaaGreatDoorGround
import Derived.Test.YtppihpjcdieeoaaGreatDoorChFacts
import Derived.Test.YtppihpjcdieeoaaGreatDoorPart08
import Derived.Deep.RegionHeld3
import Derived.Test.YtppihpjcdieeoaaGreatDoorPart02
import Derived.Test.YtppihpjcdieeoaaGreatDoorPart05
import Derived.Test.YtppihpjcdieeoaaGreatDoorPart07
/-
  The contract of cmap.records: the records of a table, in its order. Condition: the row of ranked ids lies as it was laid.
-/
namespace Cm
open Bn He Ch
theorem bget_one (s : List UInt8) (pos : Nat) : Bn.get s (pos : Int) [2] = if s.length < pos + 2 then ([], 4) else ([fld s pos 2], 0) := by
  have := Ch.bget_rep s pos 1 (size := 2) (by decide)
  rw [show List.replicate 1 (2 : Int) = [2] from rfl] at this
  rw [this]
  rfl
theorem bget_rec (s : List UInt8) (pos : Nat) : Bn.get s (pos : Int) [2, 2, 4] = if s.length < pos + 8 then ([], 4) else ([fld s pos 2, fld s (pos + 2) 2, fld s (pos + 4) 4], 0) := by
  unfold Bn.get
  rw [if_neg (by
    rintro (h | h)
    · exact absurd h (by decide)
    · omega)]
  have hm : Bn.many [2, 2, 4] = 8 := rfl
  rw [hm]
  by_cases c : s.length < pos + 8
  · rw [if_pos c, if_pos (by omega)]
  · rw [if_neg c, if_neg (by omega)]
    unfold fld
    simp only [fields, Int.toNat_natCast, List.drop_drop]
    rfl
/-- The records of a table, or an error. -/
def recs (s : List UInt8) : List Sy.Rec × Int :=
  if s.length < 4 then ([], 4) else if fld s 0 2 ≠ 0 then ([], 5) else if 64 < fld s 2 2 then ([], 7) else if (s.length : Int) < 4 + 8 * fld s 2 2 then ([], 4) else (recsTo s (fld s 2 2).toNat, 0)
end Cm
namespace Go.Proofs.YtppihpjcdieeoaaGreatDoor
open Go.RowKit

theorem Row.oneM {w : World} {p : Option Addr} {c : Nat} {x : Int} (h : Row w (.slice p 1 c) [x]) : ∃ b off, p = some ⟨b, off, none⟩ ∧ w.cell? ⟨b, off, none⟩ = some (.int .i64 x) ∧ b < w.heap.size := by
  obtain ⟨b, off, rfl, h0⟩ := h.at_ (k := 0) (by omega)
  exact ⟨b, off, rfl, h0, World.block_lt_of_cell? w _ h0⟩
theorem Row.twoM {w : World} {p : Option Addr} {c : Nat} {x y : Int} (h : Row w (.slice p 2 c) [x, y]) : ∃ b off, p = some ⟨b, off, none⟩ ∧ w.cell? ⟨b, off, none⟩ = some (.int .i64 x) ∧ w.cell? ⟨b, off + 1, none⟩ = some (.int .i64 y) ∧ b < w.heap.size := by
  obtain ⟨b, off, rfl, h0⟩ := h.at_ (k := 0) (by omega)
  obtain ⟨b1, off1, e1, h1⟩ := h.at_ (k := 1) (by omega)
  simp only [Option.some.injEq, Addr.mk.injEq, and_true] at e1
  obtain ⟨rfl, rfl⟩ := e1
  exact ⟨b, off, rfl, h0, h1, World.block_lt_of_cell? w _ h0⟩
theorem Row.threeM {w : World} {p : Option Addr} {c : Nat} {x y z : Int} (h : Row w (.slice p 3 c) [x, y, z]) : ∃ b off, p = some ⟨b, off, none⟩ ∧ w.cell? ⟨b, off, none⟩ = some (.int .i64 x) ∧ w.cell? ⟨b, off + 1, none⟩ = some (.int .i64 y) ∧ w.cell? ⟨b, off + 2, none⟩ = some (.int .i64 z) ∧ b < w.heap.size := by
  obtain ⟨b, off, rfl, h0⟩ := h.at_ (k := 0) (by omega)
  obtain ⟨b1, off1, e1, h1⟩ := h.at_ (k := 1) (by omega)
  obtain ⟨b2, off2, e2, h2⟩ := h.at_ (k := 2) (by omega)
  simp only [Option.some.injEq, Addr.mk.injEq, and_true] at e1 e2
  obtain ⟨rfl, rfl⟩ := e1
  obtain ⟨rfl, rfl⟩ := e2
  exact ⟨b, off, rfl, h0, h1, h2, World.block_lt_of_cell? w _ h0⟩

/-- Records in memory; records and an error, told. -/
abbrev RRow (w : World) (v : Value) (l : List Sy.Rec) : Prop := RowK encCm 2 w v l
def GotRecs (a : List Sy.Rec × Int) (w : World) (e : Ending) (w' : World) : Prop := ∃ p c, e = .returned (.tuple #[.slice p a.1.length c, .int .i64 a.2]) ∧ RRow w' (.slice p a.1.length c) a.1 ∧ Lo w w'
theorem GotRecs.nil {w w' : World} {k : Int} {e : Ending} (he : e = .returned (.tuple #[.slice none 0 0, .int .i64 k])) (h : Lo w w') : GotRecs ([], k) w e w' := by
  subst he
  exact ⟨_, _, rfl, RowK.nil _ _ _, h⟩

/-- A record's three numbers in memory, behind the world w0. -/
abbrev NumsAt (b o : Nat) (x y z : Int) (w0 W : World) : Prop := W.cell? ⟨b, o, none⟩ = some (.int .i64 x) ∧ W.cell? ⟨b, o + 1, none⟩ = some (.int .i64 y) ∧ W.cell? ⟨b, o + 2, none⟩ = some (.int .i64 z) ∧ Hid (b < W.heap.size) ∧ Hid (Lo w0 W)
theorem NumsAt.lo {b o : Nat} {x y z : Int} {w0 W W' : World} (h : NumsAt b o x y z w0 W) (l : Lo W W') : NumsAt b o x y z w0 W' :=
  ⟨(l.cell h.2.2.2.1.out).trans h.1, (l.cell h.2.2.2.1.out).trans h.2.1, (l.cell h.2.2.2.1.out).trans h.2.2.1, Lib.hid (Nat.lt_of_lt_of_le h.2.2.2.1.out l.size), Lib.hid (h.2.2.2.2.out.trans l)⟩
theorem NumsAt.alloc {b o : Nat} {x y z : Int} {w0 W : World} (h : NumsAt b o x y z w0 W) (u : Obj) : NumsAt b o x y z w0 (W.alloc u) := h.lo ((Lo.refl W).alloc u)
theorem NumsAt.drew {b o : Nat} {x y z : Int} {w0 W : World} (h : NumsAt b o x y z w0 W) : NumsAt b o x y z w0 W.drew := h.lo (Lo.refl W).drew

set_option maxRecDepth 100000 in
set_option maxHeartbeats 1600000 in
theorem crecs_more (s : List UInt8) (w : World) (h : s.length < 4) : Calls Tryz.prog 26 #[.string ⟨s.toArray⟩] w (GotRecs ([], 4) w) := by
  have HG := Lib.hid (fun (W : World) (v : Value) (hr : Row W v [2, 2]) => get_any s 0 v _ W hr (by simp) (by omega) (by omega))
  rw [show (0 : Int) = ((0 : Nat) : Int) from rfl, Ch.bget_two, if_pos (by omega)] at HG
  unfold GotRow at HG
  clear h
  go_enter Tryz.func26, Tryz.ntmps26
  go_wp2_with fail
  refine (HG.out _ _ (row2 w w.heap.size rfl 2 2)).mono ?_
  rintro e w2 ⟨p2, c2, rfl, _, lo⟩
  have HL := Lib.hid (((Lo.refl w).alloc (.cells #[.int .i64 2, .int .i64 2] 3)).trans lo)
  clear lo HG
  go_wp2_with fail
  go_ret2
  exact GotRecs.nil rfl HL.out

set_option maxRecDepth 100000 in
set_option maxHeartbeats 3200000 in
theorem crecs_rest (s : List UInt8) (w : World) (hs : s.length ≤ 9223372036854775807) (ht : RTab w) (h : 4 ≤ s.length) : Calls Tryz.prog 26 #[.string ⟨s.toArray⟩] w (GotRecs (Cm.recs s) w) := by
  have HG := Lib.hid (fun (W : World) (v : Value) (hr : Row W v [2, 2]) => get_any s 0 v _ W hr (by simp) hs (by omega))
  rw [show (0 : Int) = ((0 : Nat) : Int) from rfl, Ch.bget_two, if_neg (by omega)] at HG
  have HG3 := Lib.hid (fun (P : Nat) (hP : P ≤ 1000000) (W : World) (v : Value) (hr : Row W v [2, 2, 4]) => get_any s P v _ W hr (by simp) hs (by omega))
  have HBest := Lib.hid (fun (b o : Nat) (x y z : Int) (W0 : World) (hL : Lo w W0) (W : World) (hS : NumsAt b o x y z W0 W) => (best_any x y W (ht.lo (hL.trans hS.2.2.2.2.out))).mono (R' := fun e w' => e = .returned (.int .i64 (Cm.best x y : Int)) ∧ NumsAt b o x y z W0 w') (fun e w' h => ⟨h.1, hS.lo h.2⟩))
  unfold GotRow at HG HG3
  have hw0 := Gp.word_le s 0
  have hw2 := Gp.word_le s 2
  unfold Cm.recs
  rw [if_neg (by omega)]
  dsimp only at HG
  rw [show (0 + 2 : Nat) = 2 from rfl] at HG
  have HRec := Lib.hid (fun P => Cm.bget_rec s P)
  have HSt : Hid (∀ k, Cm.recsTo s (k + 1) = Cm.recsTo s k ++ [((Cm.best (He.fld s (4 + 8 * k) 2) (He.fld s (6 + 8 * k) 2) : Int), He.fld s (8 + 8 * k) 4, k)]) := Lib.hid (fun k => Cm.recsTo_step s k)
  have HLen := Lib.hid (fun k => Cm.recsTo_len s k)
  have H4 := Lib.hid h
  clear ht h
  generalize He.fld s 0 2 = v0 at *
  generalize hn2 : He.fld s 2 2 = n2 at *
  clear hn2
  by_cases c1 : v0 ≠ 0
  · rw [if_pos c1]
    clear HG3 HBest HRec HSt HLen
    go_enter Tryz.func26, Tryz.ntmps26
    go_wp2_with fail
    refine (HG.out _ _ (row2 w w.heap.size rfl 2 2)).mono ?_
    rintro e w2 ⟨p2, c2, rfl, hr, lo⟩
    obtain ⟨b, off, rfl, r0, r1, hb⟩ := Row.twoM hr
    have HL := Lib.hid (((Lo.refl w).alloc (.cells #[.int .i64 2, .int .i64 2] 3)).trans lo)
    clear lo HG hr
    go_wp2_with fail
    go_quiet (fail)
    go_wp2_with fail
    go_ret2
    exact GotRecs.nil rfl (HL.out.drewN _)
  · rw [if_neg c1]
    obtain rfl : v0 = 0 := by omega
    by_cases c2 : 64 < n2
    · rw [if_pos c2]
      clear HG3 HBest HRec HSt HLen
      go_enter Tryz.func26, Tryz.ntmps26
      go_wp2_with fail
      refine (HG.out _ _ (row2 w w.heap.size rfl 2 2)).mono ?_
      rintro e w2 ⟨p2, c2, rfl, hr, lo⟩
      obtain ⟨b, off, rfl, r0, r1, hb⟩ := Row.twoM hr
      have HL := Lib.hid (((Lo.refl w).alloc (.cells #[.int .i64 2, .int .i64 2] 3)).trans lo)
      clear lo HG hr
      go_wp2_with fail
      go_quiet (fail)
      go_wp2_with fail
      go_ret2
      exact GotRecs.nil rfl (HL.out.drewN _)
    · rw [if_neg c2]
      obtain ⟨n, rfl⟩ : ∃ n : Nat, n2 = (n : Int) := ⟨n2.toNat, by omega⟩
      rw [Int.toNat_natCast]
      have HE1 : Hid ((s.length : Int) < 4 + 8 * (n : Int) → (if (s.length : Int) < 4 + 8 * (n : Int) then (([] : List Sy.Rec), (4 : Int)) else (Cm.recsTo s n, 0)) = ([], 4)) := Lib.hid (fun h => if_pos h)
      have HE2 : Hid (¬ (s.length : Int) < 4 + 8 * (n : Int) → (if (s.length : Int) < 4 + 8 * (n : Int) then (([] : List Sy.Rec), (4 : Int)) else (Cm.recsTo s n, 0)) = (Cm.recsTo s n, 0)) := Lib.hid (fun h => if_neg h)
      generalize (if (s.length : Int) < 4 + 8 * (n : Int) then (([] : List Sy.Rec), (4 : Int)) else (Cm.recsTo s n, 0)) = ans at *
      have hn : n ≤ 64 := by omega
      clear c1 c2 hw0 hw2
      go_enter Tryz.func26, Tryz.ntmps26
      go_wp2_with fail
      refine (HG.out _ _ (row2 w w.heap.size rfl 2 2)).mono ?_
      rintro e w2 ⟨p2, c2, rfl, hr, lo⟩
      obtain ⟨b, off, rfl, r0, r1, hb⟩ := Row.twoM hr
      have HL := Lib.hid (((Lo.refl w).alloc (.cells #[.int .i64 2, .int .i64 2] 3)).trans lo)
      clear lo HG hr
      go_wp2_with fail
      go_quiet (fail)
      have HL2 := Lib.hid (HL.out.drewN nq)
      clear r0 r1 hb HL
      generalize w2.drewN nq = w2 at *
      go_wp2_with fail
      go_loopw [8, 32] (fun s8 s32 W => ∃ (k : Nat) (p : Option Addr) (c : Nat), k ≤ n ∧ s8 = .slice p k c ∧ s32 = .int .i64 k ∧ Hid (OwnK encCm 47 2 W w.heap.size (.slice p k c) (Cm.recsTo s k)) ∧ Hid (Lo w W) ∧ Hid (4 + 8 * k ≤ s.length)) (fun _ s32 _ => n - (intOf s32).toNat)
      case atStart => exact ⟨0, none, 0, Nat.zero_le _, rfl, rfl, Lib.hid (OwnK.none _ _ _ _ _), HL2, Lib.hid (by have := H4.out; omega)⟩
      case round =>
        obtain ⟨k, p, c, hk, rfl, rfl, HO, HL, HB⟩ := hrel
        by_cases hlt : k < n
        · obtain ⟨P, hP⟩ : ∃ P, P = 4 + 8 * k := ⟨_, rfl⟩
          have eP : 4 + 8 * (k : Int) = (P : Int) := by omega
          have C := Lib.hid (HG3.out P (by omega))
          rw [HRec.out P] at C
          have HTL := Lib.hid (HLen.out k)
          by_cases hsh : s.length < P + 8
          · rw [if_pos hsh] at C
            have HE := Lib.hid (HE1.out (by omega))
            clear HG3 HRec HSt HLen HBest HE1 HE2 HO hP hsh
            go_wp2_with fail
            refine (C.out _ _ (row3 wr wr.heap.size rfl 2 2 4)).mono ?_
            rintro e w3 ⟨p3, c3, rfl, _, lo⟩
            have HL3 := Lib.hid ((HL.out.alloc (.cells #[.int .i64 2, .int .i64 2, .int .i64 4] 3)).trans lo)
            clear lo C
            go_wp2_with fail
            go_ret2
            rw [HE.out]
            exact GotRecs.nil rfl HL3.out
          · rw [if_neg hsh] at C
            have HSk := Lib.hid (HSt.out k)
            rw [show P + 2 = 6 + 8 * k by omega, show P + 4 = 8 + 8 * k by omega, show He.fld s P 2 = He.fld s (4 + 8 * k) 2 by rw [hP]] at C
            generalize He.fld s (4 + 8 * k) 2 = x at *
            generalize He.fld s (6 + 8 * k) 2 = y at *
            generalize He.fld s (8 + 8 * k) 4 = z at *
            have HB2 : Hid (4 + 8 * (k + 1) ≤ s.length) := Lib.hid (by omega)
            clear HRec hP hsh HB
            go_wp2_with fail
            refine (C.out _ _ (row3 wr wr.heap.size rfl 2 2 4)).mono ?_
            rintro e w3 ⟨p3, c3, rfl, hr, lo⟩
            have hloA := (((Lo.refl wr).alloc (.cells #[.int .i64 2, .int .i64 2, .int .i64 4] 3)).trans lo)
            have HL3 := Lib.hid (HL.out.trans hloA)
            have HO2 := Lib.hid (OwnK.lo HO.out hloA)
            obtain ⟨b3, o3, rfl, q0, q1, q2, hb3⟩ := Row.threeM hr
            have HS : Hid (NumsAt b3 o3 x y z w3 w3) := Lib.hid ⟨q0, q1, q2, Lib.hid hb3, Lib.hid (Lo.refl _)⟩
            have HC := Lib.hid (fun W hS => HBest.out b3 o3 x y z w3 HL3.out W hS)
            clear lo C hr hloA HO q0 q1 q2 hb3 HL
            go_wp2_with fail
            obtain ⟨q0, q1, q2, q3, q4⟩ := HS.out
            go_region_law (first
              | (show (if Region.wanted (Oper.mk _ (Op.call { callee := .builtin .append, args := _, argTypes := _ }) _ _ _ _) _ = true then _ else _)
                 refine step_appK (enc := encCm) rfl (.tmp 47) (.tmp 59) 40 rfl 47 2 16 (.agg #[.int .i64 0, .int .i64 0]) (by kernel_rfl) (by kernel_rfl) rfl (by omega) (by omega) encCm_len encCm_one w.heap.size (.slice p k c) _ rfl (OwnK.lo HO2.out (HLC.out.alloc _)) _ ((Cm.best x y : Int), z, k) rfl (fun j u hj => block_cell (new_block _ _) (by simpa [encCm] using hj)) (by rw [HTL.out]; omega) (by have h1 := HL3.out.size; have h2 := HLC.out.size; simp; omega) ?_; intro q1 c1 w7 hown hlo; have HO7 := Lib.hid hown; have HL7 := Lib.hid (hlo w ((HL3.out.trans HLC.out).alloc _) (Nat.le_refl _)); clear hown hlo; rw [HTL.out] at HO7; rw [HTL.out])
              | (go_simp; go_at_call 18; refine (HC.out _ (by first | exact HS.out.drew | exact HS.out)).mono ?_; rintro e w5 ⟨rfl, ⟨z0, z1, z2, z3, z4⟩⟩; have HLC := Lib.hid z4.out; clear z3 z4))
            all_goals
              clear HC HS HO2 HLC z0 z1 z2 q0 q2 q3 q4
              go_wp2_with fail
              go_roundw
              case rel => exact ⟨k + 1, q1, c1, by omega, by go_num, rfl, Lib.hid (by rw [HSk.out]; exact HO7.out), HL7, HB2⟩
              case measure => simp [intOf]; omega
        · obtain rfl : k = n := by omega
          have HE := Lib.hid (HE2.out (by have := HB.out; omega))
          have HTL := Lib.hid (HLen.out k)
          clear HG3 HRec HSt HLen HBest HE1 HE2
          go_wp2_with fail
          go_ret2
          rw [HE.out]
          have h := OwnK.row encCm_len HO.out
          refine ⟨p, c, ?_, ?_, HL.out⟩
          · show Ending.returned (.tuple #[.slice p k c, .int .i64 0]) = .returned (.tuple #[.slice p (Cm.recsTo s k).length c, .int .i64 0])
            rw [HTL.out]
          · show RowK encCm 2 wr (.slice p (Cm.recsTo s k).length c) (Cm.recsTo s k)
            rw [HTL.out]
            exact h
end Go.Proofs.YtppihpjcdieeoaaGreatDoor
/-
  The contract of cmap.Read: one format. No conditions beyond those stated.
-/
namespace Go.Proofs.YtppihpjcdieeoaaGreatDoor
open Go.RowKit Go.Shelf

set_option maxRecDepth 100000 in
set_option maxHeartbeats 1600000 in
theorem cread_more (s : List UInt8) (w : World) (h : s.length < 2) : Calls Tryz.prog 10 #[.string ⟨s.toArray⟩] w (GotSp (Cm.read s) w) := by
  have HG := Lib.hid (fun (W : World) (v : Value) (hr : Row W v [2]) => get_any s 0 v _ W hr (by simp) (by omega) (by omega))
  rw [show (0 : Int) = ((0 : Nat) : Int) from rfl, Cm.bget_one, if_pos (by omega)] at HG
  unfold GotRow at HG
  rw [Cm.read_more h]
  clear h
  go_enter Tryz.func10, Tryz.ntmps10
  go_wp2_with fail
  refine (HG.out _ _ (row1 w w.heap.size rfl 2)).mono ?_
  rintro e w2 ⟨p2, c2, rfl, _, lo⟩
  have HL := Lib.hid (((Lo.refl w).alloc (.cells #[.int .i64 2] 3)).trans lo)
  clear lo HG
  go_wp2_with fail
  go_ret2
  exact GotSp.nil rfl HL.out

set_option maxRecDepth 100000 in
set_option maxHeartbeats 1600000 in
theorem cread_no (s : List UInt8) (w : World) (hs : s.length ≤ 9223372036854775807) (h : 2 ≤ s.length) (hn : Cm.fmt (He.fld s 0 2) = false) : Calls Tryz.prog 10 #[.string ⟨s.toArray⟩] w (GotSp (Cm.read s) w) := by
  have HG := Lib.hid (fun (W : World) (v : Value) (hr : Row W v [2]) => get_any s 0 v _ W hr (by simp) hs (by omega))
  rw [show (0 : Int) = ((0 : Nat) : Int) from rfl, Cm.bget_one, if_neg (by omega)] at HG
  unfold GotRow at HG
  rw [Cm.read_no h hn]
  have hw := Gp.word_le s 0
  have HF := Lib.hid (fun W => formats_any W)
  have HK : Hid (∀ x y, kindOf x y (He.fld s 0 2) = (noKind, false)) := Lib.hid (fun x y => by
    have hne : ¬ (He.fld s 0 2 = 0 ∨ He.fld s 0 2 = 4 ∨ He.fld s 0 2 = 6 ∨ He.fld s 0 2 = 12 ∨ He.fld s 0 2 = 13) := fun k => by rw [(Cm.fmt_iff _).2 k] at hn; cases hn
    unfold kindOf
    rw [if_neg (by omega), if_neg (by omega), if_neg (by omega), if_neg (by omega), if_neg (by omega)])
  have HB := Lib.hid hw
  clear h hn hw
  generalize He.fld s 0 2 = n at *
  go_enter Tryz.func10, Tryz.ntmps10
  go_wp2_with fail
  refine (HG.out _ _ (row1 w w.heap.size rfl 2)).mono ?_
  rintro e w2 ⟨p2, c2, rfl, hr, lo⟩
  obtain ⟨b, off, rfl, c0, hb⟩ := Row.oneM hr
  have HL := Lib.hid (((Lo.refl w).alloc (.cells #[.int .i64 2] 3)).trans lo)
  clear lo HG hr
  go_wp2_with fail
  have HA : Hid (∀ W, Lo w2 W → ∀ o, (W.alloc o).cell? ⟨b, off, none⟩ = some (.int .i64 n)) := Lib.hid (fun W l o => ((l.alloc o).cell hb).trans c0)
  have c0a := HA.out _ ((Lo.refl w2).drew)
  go_region_law (first | (go_simp; go_at_call 27; refine (HF.out _).mono ?_; rintro e w3 ⟨m, rfl, _, hk, lo⟩; have hl : Lo w2 w3 := (by first | exact Lo.trans (Lo.drew (Lo.refl w2)) lo | exact Lo.trans (Lo.alloc (Lo.drew (Lo.refl w2)) _) lo); have c0b := (hl.cell hb).trans c0; have c0c := HA.out _ hl; obtain ⟨x, y, kx, ky, hlk⟩ := kinds_look hk (n := n) (by have := HB.out; omega) (by have := HB.out; omega); rw [HK.out x y] at hlk; unfold noKind at hlk; have hlk1 := hlk w3 (Lo.refl _); have hlk2 := fun o => hlk (w3.alloc o) ((Lo.refl _).alloc o); have HL3 := Lib.hid (HL.out.trans hl); have HS3 := Lib.hid HL.out.size; (try (have hb4 := (lo.block w2.heap.size (by simp)).trans (new_block w2.drew (.cells #[.nilFunc, .nilFunc, .int .i64 0, .int .i64 0] 59)); obtain ⟨⟨m0, m1, m2, m3⟩, ⟨n0, n1, n2, n3⟩⟩ := four_at hb4; clear hb4)); clear kx ky; clear hlk lo hk hl))
  all_goals
    clear c0a c0b c0c hlk1 hlk2
    go_wp2_with fail
    go_ret2
    first
      | exact GotSp.nil rfl (HL3.out.alloc _)
      | exact GotSp.nil rfl ((((HL3.out.set (p := ⟨w2.heap.size, 0, none⟩) HS3.out _).set (p := ⟨w2.heap.size, 1, none⟩) HS3.out _).set (p := ⟨w2.heap.size, 2, none⟩) HS3.out _).set (p := ⟨w2.heap.size, 3, none⟩) HS3.out _)

set_option maxRecDepth 100000 in
set_option maxHeartbeats 3200000 in
/-- One format: its reader is called. -/
theorem cread_by (rf wf : Nat) (wc : Nat → Nat → Array Value) (i1 i2 n : Int) (s : List UInt8) (w : World) (hs : s.length ≤ 9223372036854775807) (h : 2 ≤ s.length) (hn : He.fld s 0 2 = n) (hb1 : 0 ≤ n) (hb2 : n ≤ 13)
    (eg : ∀ args w, (callFunc rf args).run Tryz.prog w = .ok (.enter rf args) w) (hk : ∀ x y, kindOf x y n = (.agg #[.func (.func rf) #[] #[], .func (.func wf) #[] (wc x y), .int .i64 i1, .int .i64 i2], true))
    (hc : ∀ W, Calls Tryz.prog rf #[.string ⟨s.toArray⟩] W (GotSp (Cm.read s) W)) : Calls Tryz.prog 10 #[.string ⟨s.toArray⟩] w (GotSp (Cm.read s) w) := by
  have HG := Lib.hid (fun (W : World) (v : Value) (hr : Row W v [2]) => get_any s 0 v _ W hr (by simp) hs (by omega))
  rw [show (0 : Int) = ((0 : Nat) : Int) from rfl, Cm.bget_one, if_neg (by omega), hn] at HG
  unfold GotRow at HG
  have HC := Lib.hid hc
  have HF := Lib.hid (fun W => formats_any W)
  have HK := Lib.hid hk
  have HB : Hid (0 ≤ n ∧ n ≤ 13) := Lib.hid ⟨hb1, hb2⟩
  unfold GotSp at HC
  clear h hn hb1 hb2 hk hc
  generalize Cm.read s = ans at *
  obtain ⟨al, ae⟩ := ans
  dsimp only at HC
  go_enter Tryz.func10, Tryz.ntmps10
  go_wp2_with fail
  refine (HG.out _ _ (row1 w w.heap.size rfl 2)).mono ?_
  rintro e w2 ⟨p2, c2, rfl, hr, lo⟩
  obtain ⟨b, off, rfl, c0, hb⟩ := Row.oneM hr
  have HL := Lib.hid (((Lo.refl w).alloc (.cells #[.int .i64 2] 3)).trans lo)
  clear lo HG hr
  go_wp2_with fail
  have HA : Hid (∀ W, Lo w2 W → ∀ o, (W.alloc o).cell? ⟨b, off, none⟩ = some (.int .i64 n)) := Lib.hid (fun W l o => ((l.alloc o).cell hb).trans c0)
  have c0a := HA.out _ ((Lo.refl w2).drew)
  go_region_law (first | (go_simp; go_at_call 27; refine (HF.out _).mono ?_; rintro e w3 ⟨m, rfl, _, hk, lo⟩; have hl : Lo w2 w3 := (by first | exact Lo.trans (Lo.drew (Lo.refl w2)) lo | exact Lo.trans (Lo.alloc (Lo.drew (Lo.refl w2)) _) lo); have c0b := (hl.cell hb).trans c0; have c0c := HA.out _ hl; obtain ⟨x, y, kx, ky, hlk⟩ := kinds_look hk (n := n) (by have := HB.out; omega) (by have := HB.out; omega); rw [HK.out x y] at hlk; skip; have hlk1 := hlk w3 (Lo.refl _); have hlk2 := fun o => hlk (w3.alloc o) ((Lo.refl _).alloc o); have HL3 := Lib.hid (HL.out.trans hl); have HS3 := Lib.hid HL.out.size; (try (have hb4 := (lo.block w2.heap.size (by simp)).trans (new_block w2.drew (.cells #[.nilFunc, .nilFunc, .int .i64 0, .int .i64 0] 59)); obtain ⟨⟨m0, m1, m2, m3⟩, ⟨n0, n1, n2, n3⟩⟩ := four_at hb4; clear hb4)); generalize wc x y = cc at hlk1 hlk2; clear kx ky; clear hlk lo hk hl))
  all_goals
    clear c0a c0b c0c hlk1 hlk2
    go_wp2_with (go_at_fn rf; refine (HC.out _).mono ?_; rintro e w4 ⟨q, qc, rfl, hrow, lo⟩; have HR4 := Lib.hid hrow; have HL4 := Lib.hid (show Lo w _ from by first | exact (HL3.out.alloc _).trans lo | exact ((((HL3.out.set (p := ⟨w2.heap.size, 0, none⟩) HS3.out _).set (p := ⟨w2.heap.size, 1, none⟩) HS3.out _).set (p := ⟨w2.heap.size, 2, none⟩) HS3.out _).set (p := ⟨w2.heap.size, 3, none⟩) HS3.out _).trans lo); clear hrow lo)
    go_ret2
    exact ⟨q, qc, rfl, HR4.out, HL4.out⟩

theorem cread_any (s : List UInt8) (w : World) (hs : s.length ≤ 9223372036854775807) : Calls Tryz.prog 10 #[.string ⟨s.toArray⟩] w (GotSp (Cm.read s) w) := by
  rcases Nat.lt_or_ge s.length 2 with h | h
  · exact cread_more s w h
  · cases hf : Cm.fmt (He.fld s 0 2) with
    | false => exact cread_no s w hs h hf
    | true =>
      rcases (Cm.fmt_iff _).1 hf with hn | hn | hn | hn | hn
      · exact cread_by 47 48 (fun _ _ => #[]) 1 0 0 s w hs h hn (by omega) (by omega) (enters_of Tryz.func47 (by kernel_rfl) rfl) (fun x y => rfl) (fun W => by rw [Cm.read_08 h (.inl hn)]; exact cget_any s W hs)
      · exact cread_by 49 50 (fun _ _ => #[]) 3 1 4 s w hs h hn (by omega) (by omega) (enters_of Tryz.func49 (by kernel_rfl) rfl) (fun x y => rfl) (fun W => by rw [Cm.read_09 h hn]; exact sget_any s W hs)
      · exact cread_by 47 51 (fun _ _ => #[]) 3 1 6 s w hs h hn (by omega) (by omega) (enters_of Tryz.func47 (by kernel_rfl) rfl) (fun x y => rfl) (fun W => by rw [Cm.read_08 h (.inr hn)]; exact cget_any s W hs)
      · exact cread_by 52 100 (fun x _ => #[.pointer (some ⟨x, 0, none⟩)]) 3 10 12 s w hs h hn (by omega) (by omega) (enters_of Tryz.func52 (by kernel_rfl) rfl) (fun x y => rfl) (fun W => by rw [Cm.read_10 h (.inl hn)]; exact gget_any s W hs)
      · exact cread_by 52 100 (fun _ y => #[.pointer (some ⟨y, 0, none⟩)]) 3 10 13 s w hs h hn (by omega) (by omega) (enters_of Tryz.func52 (by kernel_rfl) rfl) (fun x y => rfl) (fun W => by rw [Cm.read_10 h (.inr hn)]; exact gget_any s W hs)
end Go.Proofs.YtppihpjcdieeoaaGreatDoor
/-
  The contract of (cmap.record).isUsable: whether a record can be taken. Condition: the map is the one of the formats.
-/
namespace Go.Proofs.YtppihpjcdieeoaaGreatDoor
open Go.RowKit Go.Shelf

theorem kind_no {x y : Nat} {n : Int} (h : Cm.fmt n = false) : kindOf x y n = (noKind, false) := by
  have hne : ¬ (n = 0 ∨ n = 4 ∨ n = 6 ∨ n = 12 ∨ n = 13) := fun k => by rw [(Cm.fmt_iff _).2 k] at h; cases h
  unfold kindOf
  rw [if_neg (by omega), if_neg (by omega), if_neg (by omega), if_neg (by omega), if_neg (by omega)]
theorem kind_yes {n : Int} (h : Cm.fmt n = true) : ∃ (rf wf : Nat) (wc : Nat → Nat → Array Value) (i1 i2 : Int), ∀ x y, kindOf x y n = (.agg #[.func (.func rf) #[] #[], .func (.func wf) #[] (wc x y), .int .i64 i1, .int .i64 i2], true) := by
  rcases (Cm.fmt_iff _).1 h with rfl | rfl | rfl | rfl | rfl
  · exact ⟨_, _, fun _ _ => #[], _, _, fun x y => rfl⟩
  · exact ⟨_, _, fun _ _ => #[], _, _, fun x y => rfl⟩
  · exact ⟨_, _, fun _ _ => #[], _, _, fun x y => rfl⟩
  · exact ⟨_, _, fun x _ => #[.pointer (some ⟨x, 0, none⟩)], _, _, fun x y => rfl⟩
  · exact ⟨_, _, fun _ y => #[.pointer (some ⟨y, 0, none⟩)], _, _, fun x y => rfl⟩

set_option maxRecDepth 100000 in
set_option maxHeartbeats 1600000 in
theorem use_any (r o : Int) (s : List UInt8) (m : Nat) (w : World) (hs : s.length ≤ 9223372036854775807) (h0 : 0 ≤ o) (h1 : o ≤ 4294967295) (hk : Kinds w m) :
    Calls Tryz.prog 30 #[.agg #[.int .i64 r, .int .i64 o], .string ⟨s.toArray⟩, .map (some m)] w fun e w' => e = .returned (.bool (Cm.use s r o)) ∧ Lo w w' := by
  by_cases c1 : r = 0
  · subst c1
    have e : Cm.use s 0 o = false := by unfold Cm.use; simp
    rw [e]
    clear e hk
    go_enter Tryz.func30, Tryz.ntmps30
    go_wp2_with fail
    go_ret
    exact ⟨rfl, (Lo.refl w).alloc _⟩
  · obtain ⟨p, rfl⟩ : ∃ p : Nat, o = (p : Int) := ⟨o.toNat, by omega⟩
    have HG := Lib.hid (fun (W : World) (v : Value) (hr : Row W v [2]) => get_any s (p : Int) v _ W hr (by simp) hs (by omega))
    rw [Cm.bget_one] at HG
    have HU : Hid (Cm.use s r (p : Int) = (decide (p + 2 ≤ s.length) && Cm.fmt (He.fld s p 2))) := Lib.hid (by
      unfold Cm.use
      rw [show decide (r ≠ 0) = true by simpa using c1, Bool.true_and, Int.toNat_natCast]
      congr 1
      exact decide_eq_decide.2 (by omega))
    generalize Cm.use s r (p : Int) = u at *
    unfold GotRow at HG
    by_cases c2 : s.length < p + 2
    · rw [if_pos c2] at HG
      rw [show decide (p + 2 ≤ s.length) = false by simp; omega, Bool.false_and] at HU
      clear hk c2
      go_enter Tryz.func30, Tryz.ntmps30
      go_wp2_with fail
      refine (HG.out _ _ (row1 (w.alloc (.cells #[.int .i64 r, .int .i64 (p : Int)] 47)) (w.heap.size + 1) (by simp) 2)).mono ?_
      rintro e w2 ⟨p2, c2, rfl, _, lo⟩
      have HL := Lib.hid ((((Lo.refl w).alloc (.cells #[.int .i64 r, .int .i64 (p : Int)] 47)).alloc (.cells #[.int .i64 2] 3)).trans lo)
      clear lo HG
      go_wp2_with fail
      go_ret
      exact ⟨ret_bool HU.out.symm, HL.out⟩
    · rw [if_neg c2] at HG
      rw [show decide (p + 2 ≤ s.length) = true by simp; omega, Bool.true_and] at HU
      have hw := Gp.word_le s p
      generalize He.fld s p 2 = n at *
      have HK := Lib.hid (fun W (l : Lo w W) => kinds_look (hk.lo l) (n := n) (by omega) (by omega))
      clear hk c2 hw
      cases hf : Cm.fmt n with
      | false =>
        rw [hf] at HU
        have HKn := Lib.hid (fun x y => kind_no (x := x) (y := y) hf)
        clear hf
        go_enter Tryz.func30, Tryz.ntmps30
        go_wp2_with fail
        refine (HG.out _ _ (row1 (w.alloc (.cells #[.int .i64 r, .int .i64 (p : Int)] 47)) (w.heap.size + 1) (by simp) 2)).mono ?_
        rintro e w2 ⟨p2, c2, rfl, hr, lo⟩
        obtain ⟨b, off, rfl, q0, hb⟩ := Row.oneM hr
        have HL := Lib.hid ((((Lo.refl w).alloc (.cells #[.int .i64 r, .int .i64 (p : Int)] 47)).alloc (.cells #[.int .i64 2] 3)).trans lo)
        obtain ⟨x, y, _, _, hlk⟩ := HK.out _ HL.out
        have hl2 := hlk _ (Lo.refl _)
        rw [HKn.out x y] at hl2
        unfold noKind at hl2
        clear lo HG hr hlk HK HKn
        go_wp2_with fail
        go_ret
        exact ⟨ret_bool HU.out.symm, HL.out.alloc _⟩
      | true =>
        rw [hf] at HU
        obtain ⟨rf, wf, wc, i1, i2, hkn⟩ := kind_yes hf
        have HKn := Lib.hid hkn
        clear hf hkn
        go_enter Tryz.func30, Tryz.ntmps30
        go_wp2_with fail
        refine (HG.out _ _ (row1 (w.alloc (.cells #[.int .i64 r, .int .i64 (p : Int)] 47)) (w.heap.size + 1) (by simp) 2)).mono ?_
        rintro e w2 ⟨p2, c2, rfl, hr, lo⟩
        obtain ⟨b, off, rfl, q0, hb⟩ := Row.oneM hr
        have HL := Lib.hid ((((Lo.refl w).alloc (.cells #[.int .i64 r, .int .i64 (p : Int)] 47)).alloc (.cells #[.int .i64 2] 3)).trans lo)
        obtain ⟨x, y, _, _, hlk⟩ := HK.out _ HL.out
        have hl2 := hlk _ (Lo.refl _)
        rw [HKn.out x y] at hl2
        generalize wc x y = cc at hl2
        clear lo HG hr hlk HK HKn
        go_wp2_with fail
        go_ret
        exact ⟨ret_bool HU.out.symm, HL.out.alloc _⟩
end Go.Proofs.YtppihpjcdieeoaaGreatDoor
