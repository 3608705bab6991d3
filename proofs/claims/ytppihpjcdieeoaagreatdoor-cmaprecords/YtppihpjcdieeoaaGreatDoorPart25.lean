/-
  Facts that the walks rest on: CmTwo, CmRec, CmLawRecN. No conditions beyond those stated.
-/
import Derived.Test.YtppihpjcdieeoaaGreatDoorPart01
import Derived.Test.YtppihpjcdieeoaaGreatDoorPart23
import Derived.Test.YtppihpjcdieeoaaGreatDoorPart24
/-
  Plain facts (layer 11, cmap), further: of two records the better one is taken. No conditions beyond those stated.
-/
namespace Cm
open Bn He Ch

def head2 (p q f x y g : Int) : List UInt8 := [0, 0, 0, 2] ++ bytes p 2 ++ bytes q 2 ++ bytes f 4 ++ bytes x 2 ++ bytes y 2 ++ bytes g 4
theorem head2_len (p q f x y g : Int) : (head2 p q f x y g).length = 20 := by unfold head2; simp [bytes_len]
theorem fit2 {v : Int} (h0 : 0 ≤ v) (h1 : v ≤ 65535) : fits v 2 = true := by unfold fits; rw [if_neg (by omega)]; simp; omega
theorem head2_at {p q f x y g : Int} (hp : 0 ≤ p ∧ p ≤ 65535) (hq : 0 ≤ q ∧ q ≤ 65535) (hf : 0 ≤ f ∧ f ≤ 4294967295) (hx : 0 ≤ x ∧ x ≤ 65535) (hy : 0 ≤ y ∧ y ≤ 65535) (hg : 0 ≤ g ∧ g ≤ 4294967295) :
    fld (head2 p q f x y g) 0 2 = 0 ∧ fld (head2 p q f x y g) 2 2 = 2 ∧ fld (head2 p q f x y g) 4 2 = p ∧ fld (head2 p q f x y g) 6 2 = q ∧ fld (head2 p q f x y g) 8 4 = f ∧ fld (head2 p q f x y g) 12 2 = x ∧ fld (head2 p q f x y g) 14 2 = y ∧ fld (head2 p q f x y g) 16 4 = g := by
  have e0 : head2 p q f x y g = [0, 0, 0, 2] ++ (bytes p 2 ++ (bytes q 2 ++ (bytes f 4 ++ (bytes x 2 ++ (bytes y 2 ++ bytes g 4))))) := by unfold head2; simp only [List.append_assoc]
  refine ⟨?_, ?_, ?_, ?_, ?_, ?_, ?_, ?_⟩
  · rw [e0, fld_head _ _ 0 2 (by decide)]; decide +kernel
  · rw [e0, fld_head _ _ 2 2 (by decide)]; decide +kernel
  · exact fld_at [0, 0, 0, 2] (bytes q 2 ++ (bytes f 4 ++ (bytes x 2 ++ (bytes y 2 ++ bytes g 4)))) p 2 4 (by rw [e0]; simp only [List.append_assoc]; rfl) rfl (by decide) (fit2 hp.1 hp.2)
  · exact fld_at ([0, 0, 0, 2] ++ bytes p 2) (bytes f 4 ++ (bytes x 2 ++ (bytes y 2 ++ bytes g 4))) q 2 6 (by rw [e0]; simp only [List.append_assoc]; rfl) (by simp [bytes_len]) (by decide) (fit2 hq.1 hq.2)
  · exact fld_at ([0, 0, 0, 2] ++ bytes p 2 ++ bytes q 2) (bytes x 2 ++ (bytes y 2 ++ bytes g 4)) f 4 8 (by rw [e0]; simp only [List.append_assoc]; rfl) (by simp [bytes_len]) (by decide) (Gp.fits4 hf.1 hf.2)
  · exact fld_at ([0, 0, 0, 2] ++ bytes p 2 ++ bytes q 2 ++ bytes f 4) (bytes y 2 ++ bytes g 4) x 2 12 (by rw [e0]; simp only [List.append_assoc]; rfl) (by simp [bytes_len]) (by decide) (fit2 hx.1 hx.2)
  · exact fld_at ([0, 0, 0, 2] ++ bytes p 2 ++ bytes q 2 ++ bytes f 4 ++ bytes x 2) (bytes g 4) y 2 14 (by rw [e0]; simp only [List.append_assoc]; rfl) (by simp [bytes_len]) (by decide) (fit2 hy.1 hy.2)
  · exact fld_at ([0, 0, 0, 2] ++ bytes p 2 ++ bytes q 2 ++ bytes f 4 ++ bytes x 2 ++ bytes y 2) [] g 4 16 (by rw [e0]; simp only [List.append_assoc, List.append_nil]; rfl) (by simp [bytes_len]) (by decide) (Gp.fits4 hg.1 hg.2)
/-- A format with bytes behind it is read as without. -/
theorem read_behind {a : List UInt8} (ha : (Gp.get a).2 = 0) (more : List UInt8) : read (a ++ more) = read a ∧ fmt (fld (a ++ more) 0 2) = true := by
  have e := Gp.get_more (s := a) (more := more) (by rw [ha]; decide)
  have h2 : (Gp.get (a ++ more)).2 = 0 := by rw [e]; exact ha
  obtain ⟨r1, r2, _⟩ := read_gp h2
  obtain ⟨r3, _, _⟩ := read_gp ha
  exact ⟨by rw [r1, r3, e], r2⟩
theorem get_pick {A B : List UInt8} {p q x y : Int} {f g : Nat} {a b ra rb : List UInt8} (ha : (Gp.get a).2 = 0) (hb : (Gp.get b).2 = 0) (hp : 0 ≤ p ∧ p ≤ 65535) (hq : 0 ≤ q ∧ q ≤ 65535) (hx : 0 ≤ x ∧ x ≤ 65535) (hy : 0 ≤ y ∧ y ≤ 65535) (hf : f ≤ 4294967295) (hg : g ≤ 4294967295)
    (hA : A = head2 p q f x y g) (h1 : (A ++ B).drop f = a ++ ra) (h2 : (A ++ B).drop g = b ++ rb) :
    get (A ++ B) = if best p q = 0 ∧ best x y = 0 then ([], 6) else if best p q < best x y then read b else read a := by
  obtain ⟨f0, f2, f4, f6, f8, f12, f14, f16⟩ := head2_at hp hq (f := (f : Int)) (by omega) hx hy (g := (g : Int)) (by omega)
  have hl := head2_len p q f x y g
  rw [← hA] at f0 f2 f4 f6 f8 f12 f14 f16 hl
  have hh : ∀ k (size : Int), k + size.natAbs ≤ 20 → fld (A ++ B) k size = fld A k size := fun k size hk => fld_head A B k size (by omega)
  obtain ⟨ra1, ra2⟩ := read_behind ha ra
  obtain ⟨rb1, rb2⟩ := read_behind hb rb
  have la := (read_gp ha).2.2
  have lb := (read_gp hb).2.2
  have l1 : f + 2 ≤ (A ++ B).length := by
    have := congrArg List.length h1
    rw [List.length_drop, show (a ++ ra).length = a.length + ra.length from List.length_append] at this
    omega
  have l2 : g + 2 ≤ (A ++ B).length := by
    have := congrArg List.length h2
    rw [List.length_drop, show (b ++ rb).length = b.length + rb.length from List.length_append] at this
    omega
  have e1 : fld (A ++ B) f 2 = fld (a ++ ra) 0 2 := by unfold fld; rw [h1, List.drop_zero]
  have e2 : fld (A ++ B) g 2 = fld (b ++ rb) 0 2 := by unfold fld; rw [h2, List.drop_zero]
  have g0 : good (A ++ B) 0 = best p q := by
    unfold good
    rw [hh (4 + 8 * 0) 2 (by decide), hh (6 + 8 * 0) 2 (by decide)]
    rw [show 4 + 8 * 0 = 4 from rfl, show 6 + 8 * 0 = 6 from rfl, f4, f6]
  have g1 : good (A ++ B) 1 = best x y := by
    unfold good
    rw [hh (4 + 8 * 1) 2 (by decide), hh (6 + 8 * 1) 2 (by decide)]
    rw [show 4 + 8 * 1 = 12 from rfl, show 6 + 8 * 1 = 14 from rfl, f12, f14]
  have o0 : offAt (A ++ B) 0 = (f : Int) := by
    unfold offAt
    rw [hh (8 + 8 * 0) 4 (by decide), show 8 + 8 * 0 = 8 from rfl, f8]
  have o1 : offAt (A ++ B) 1 = (g : Int) := by
    unfold offAt
    rw [hh (8 + 8 * 1) 4 (by decide), show 8 + 8 * 1 = 16 from rfl, f16]
  have c0 : can (A ++ B) 0 0 = decide (0 < best p q) := by
    unfold can
    rw [g0, o0, Int.toNat_natCast, e1, ra2, Bool.and_true, show decide ((f : Int) + 2 ≤ ((A ++ B).length : Int)) = true by simp only [decide_eq_true_eq]; omega, Bool.and_true]
  have c1 : ∀ k, can (A ++ B) 1 k = decide (k < best x y) := by
    intro k
    unfold can
    rw [g1, o1, Int.toNat_natCast, e2, rb2, Bool.and_true, show decide ((g : Int) + 2 ≤ ((A ++ B).length : Int)) = true by simp only [decide_eq_true_eq]; omega, Bool.and_true]
  have p1 : pick (A ++ B) 1 = if 0 < best p q then (best p q, (f : Int)) else (0, 0) := by
    show (if can (A ++ B) 0 (pick (A ++ B) 0).1 = true then (good (A ++ B) 0, offAt (A ++ B) 0) else pick (A ++ B) 0) = _
    rw [show (pick (A ++ B) 0) = (0, 0) from rfl, c0, g0, o0]
    simp only [decide_eq_true_eq]
  have p2 : pick (A ++ B) 2 = if (pick (A ++ B) 1).1 < best x y then (best x y, (g : Int)) else pick (A ++ B) 1 := by
    show (if can (A ++ B) 1 (pick (A ++ B) 1).1 = true then (good (A ++ B) 1, offAt (A ++ B) 1) else pick (A ++ B) 1) = _
    rw [c1, g1, o1]
    simp only [decide_eq_true_eq]
  have hlen : 20 ≤ (A ++ B).length := by rw [List.length_append]; omega
  unfold get
  rw [hh 0 2 (by decide), hh 2 2 (by decide), f0, f2, if_neg (by omega), if_neg (by simp), if_neg (by omega), if_neg (by omega), show (2 : Int).toNat = 2 from rfl, p2, p1]
  by_cases q1 : 0 < best p q
  · rw [if_pos q1]
    dsimp only
    by_cases q2 : best p q < best x y
    · rw [if_pos q2, if_neg (by dsimp only; omega), Int.toNat_natCast, h2, rb1, if_neg (by omega), if_pos q2]
    · rw [if_neg q2, if_neg (by dsimp only; omega), Int.toNat_natCast, h1, ra1, if_neg (by omega), if_neg q2]
  · rw [if_neg q1]
    dsimp only
    by_cases q2 : 0 < best x y
    · rw [if_pos q2, if_neg (by dsimp only; omega), Int.toNat_natCast, h2, rb1, if_neg (by omega), if_pos (by omega)]
    · rw [if_neg q2, if_pos rfl, if_pos (by omega)]
end Cm
/-
  Plain facts for two records with a format each (layer 11), and the document's Bytes at two and at four. No conditions beyond those stated.
-/
namespace Cm
open Bn He Ch

theorem put_group {l : List Span} {n : Int} (hn : n = 12 ∨ n = 13) (h : (put l n).2 = 0) : 28 ≤ (put l n).1.length ∧ (Gp.get ((put l n).1.drop 12)).2 = 0 := by
  obtain ⟨_, hw, e⟩ := put_ok h
  have ew : write l n = Gp.put l n := by
    unfold write
    rw [if_neg (by omega), if_neg (by omega), if_neg (by omega)]
  have hd : (put l n).1.drop 12 = (Gp.put l n).1 := by
    rw [e, ew, List.drop_left' (by rw [List.length_append, recFor_len]; rfl)]
  have hl : (put l n).1.length = 12 + (Gp.put l n).1.length := by
    rw [e, ew, List.length_append, List.length_append, recFor_len]; rfl
  have hg := (Gp.get_put (l := l) (format := n) (by rw [← ew]; exact hw) []).1
  rw [List.append_nil] at hg
  have hg2 : (Gp.get (Gp.put l n).1).2 = 0 := by rw [hg]
  have h4 := (Gp.get_ok hg2).2.2.2
  rw [hd]
  exact ⟨by omega, hg2⟩

theorem records_plain {a b : List UInt8} {p q x y : Int} (ha : (Gp.get a).2 = 0) (hb : (Gp.get b).2 = 0) (hp : 0 ≤ p ∧ p ≤ 65535) (hq : 0 ≤ q ∧ q ≤ 65535) (hx : 0 ≤ x ∧ x ≤ 65535) (hy : 0 ≤ y ∧ y ≤ 65535) (la : a.length ≤ 900000) :
    get (head2 p q 20 x y (20 + (a.length : Int)) ++ (a ++ b)) = if best p q = 0 ∧ best x y = 0 then ([], 6) else if best p q < best x y then read b else read a := by
  have e : head2 p q 20 x y (20 + (a.length : Int)) = head2 p q ((20 : Nat) : Int) x y ((20 + a.length : Nat) : Int) := by rw [Int.natCast_add]; rfl
  have hl := head2_len p q ((20 : Nat) : Int) x y ((20 + a.length : Nat) : Int)
  rw [e]
  refine get_pick (f := 20) (g := 20 + a.length) (ra := b) (rb := []) ha hb hp hq hx hy (by omega) (by omega) rfl ?_ ?_
  · rw [List.drop_left' hl]
  · rw [← List.append_assoc, List.drop_left' (by rw [List.length_append, hl]), List.append_nil]

theorem records_turned {a b : List UInt8} {p q x y : Int} (ha : (Gp.get a).2 = 0) (hb : (Gp.get b).2 = 0) (hp : 0 ≤ p ∧ p ≤ 65535) (hq : 0 ≤ q ∧ q ≤ 65535) (hx : 0 ≤ x ∧ x ≤ 65535) (hy : 0 ≤ y ∧ y ≤ 65535) (lb : b.length ≤ 900000) :
    get (head2 p q (20 + (b.length : Int)) x y 20 ++ (b ++ a)) = if best p q = 0 ∧ best x y = 0 then ([], 6) else if best p q < best x y then read b else read a := by
  have e : head2 p q (20 + (b.length : Int)) x y 20 = head2 p q ((20 + b.length : Nat) : Int) x y ((20 : Nat) : Int) := by rw [Int.natCast_add]; rfl
  have hl := head2_len p q ((20 + b.length : Nat) : Int) x y ((20 : Nat) : Int)
  rw [e]
  refine get_pick (f := 20 + b.length) (g := 20) (ra := []) (rb := a) ha hb hp hq hx hy (by omega) (by omega) rfl ?_ ?_
  · rw [← List.append_assoc, List.drop_left' (by rw [List.length_append, hl]), List.append_nil]
  · rw [List.drop_left' hl]
end Cm
namespace Go.Proofs.YtppihpjcdieeoaaGreatDoor
open Go.RowKit
theorem cmbytes4 (x : Int) (W : World) (h0 : 0 ≤ x) (h1 : x < 4294967296) : Calls Tryz.prog 22 #[.int .i64 x, .int .i64 4] W fun e w' => e = .returned (.string ⟨(Bn.bytes x 4).toArray⟩) ∧ Lo W w' := by
  have h := rbytes_any x 4 W (by decide) (by unfold Bn.fits; rw [if_neg (by omega)]; simp; omega)
  rw [show ((4 : Int).natAbs) = 4 from rfl, show ((4 : Nat) : Int) = 4 from rfl] at h
  exact h
theorem cmbytes2 (x : Int) (W : World) (h0 : 0 ≤ x) (h1 : x ≤ 65535) : Calls Tryz.prog 22 #[.int .i64 x, .int .i64 2] W fun e w' => e = .returned (.string ⟨(Bn.bytes x 2).toArray⟩) ∧ Lo W w' := by
  have h := rbytes_any x 2 W (by decide) (by unfold Bn.fits; rw [if_neg (by omega)]; simp; omega)
  rw [show ((2 : Int).natAbs) = 2 from rfl, show ((2 : Nat) : Int) = 2 from rfl] at h
  exact h
end Go.Proofs.YtppihpjcdieeoaaGreatDoor
/-
  The ends of the law CmapRecords where a number is beyond its two bytes, or a format is refused. Condition: the row of ranked ids lies as it was laid.
-/
namespace Go.Proofs.YtppihpjcdieeoaaGreatDoor
open Go.RowKit Go.Shelf

set_option maxRecDepth 100000 in
set_option maxHeartbeats 6400000 in
theorem rec_out0 (v u : Value) (l m : List Ch.Span) (p q x y : Int) (tn : Bool) (w : World) (hr : SRow w v l) (hu : SRow w u m) (h : p < 0) : Calls Tryz.prog 6 #[v, u, .int .i64 p, .int .i64 q, .int .i64 x, .int .i64 y, .bool tn] w fun e w' => e = .returned (.bool true) ∧ Lo w w' := by
  have HS := Lib.hid (short11_any v l w hr)
  have HS2 := Lib.hid (fun (W : World) (h : SRow W u m) => short11_any u m W h)
  unfold GotShort11 at HS HS2
  have HR := Lib.hid hr
  have HU := Lib.hid hu
  obtain ⟨pv, cv, rfl, _⟩ := RowK.form hr
  obtain ⟨pu, cu, rfl, _⟩ := RowK.form hu
  clear hr hu
  go_enter Tryz.func6, Tryz.ntmps6
  go_wp2_with fail
  refine HS.out.mono ?_
  rintro e w1 ⟨b1, rfl, _, lo⟩
  have HL := Lib.hid lo
  have HR := Lib.hid (RowK.lo HR.out lo)
  have HU := Lib.hid (RowK.lo HU.out lo)
  have HS2 := Lib.hid (HS2.out _ HU.out)
  clear lo HS
  cases b1 with
  | false =>
    clear HR HU HS2
    go_wp2_with fail
    go_ret
    exact ⟨rfl, HL.out⟩
  | true =>
    go_wp2_with fail
    refine HS2.out.mono ?_
    rintro e w2 ⟨b2, rfl, _, lo⟩
    have HL := Lib.hid (HL.out.trans lo)
    have HR := Lib.hid (RowK.lo HR.out lo)
    have HU := Lib.hid (RowK.lo HU.out lo)
    clear lo HS2
    cases b2 with
    | false =>
      clear HR HU
      go_wp2_with fail
      go_ret
      exact ⟨rfl, HL.out⟩
    | true =>
      clear HR HU
      go_wp2_with fail
      go_ret
      exact ⟨rfl, HL.out⟩

set_option maxRecDepth 100000 in
set_option maxHeartbeats 6400000 in
theorem rec_out1 (v u : Value) (l m : List Ch.Span) (p q x y : Int) (tn : Bool) (w : World) (hr : SRow w v l) (hu : SRow w u m) (h0 : ¬ p < 0) (h : q < 0) : Calls Tryz.prog 6 #[v, u, .int .i64 p, .int .i64 q, .int .i64 x, .int .i64 y, .bool tn] w fun e w' => e = .returned (.bool true) ∧ Lo w w' := by
  have HS := Lib.hid (short11_any v l w hr)
  have HS2 := Lib.hid (fun (W : World) (h : SRow W u m) => short11_any u m W h)
  unfold GotShort11 at HS HS2
  have HR := Lib.hid hr
  have HU := Lib.hid hu
  obtain ⟨pv, cv, rfl, _⟩ := RowK.form hr
  obtain ⟨pu, cu, rfl, _⟩ := RowK.form hu
  clear hr hu
  go_enter Tryz.func6, Tryz.ntmps6
  go_wp2_with fail
  refine HS.out.mono ?_
  rintro e w1 ⟨b1, rfl, _, lo⟩
  have HL := Lib.hid lo
  have HR := Lib.hid (RowK.lo HR.out lo)
  have HU := Lib.hid (RowK.lo HU.out lo)
  have HS2 := Lib.hid (HS2.out _ HU.out)
  clear lo HS
  cases b1 with
  | false =>
    clear HR HU HS2
    go_wp2_with fail
    go_ret
    exact ⟨rfl, HL.out⟩
  | true =>
    go_wp2_with fail
    refine HS2.out.mono ?_
    rintro e w2 ⟨b2, rfl, _, lo⟩
    have HL := Lib.hid (HL.out.trans lo)
    have HR := Lib.hid (RowK.lo HR.out lo)
    have HU := Lib.hid (RowK.lo HU.out lo)
    clear lo HS2
    cases b2 with
    | false =>
      clear HR HU
      go_wp2_with fail
      go_ret
      exact ⟨rfl, HL.out⟩
    | true =>
      clear HR HU
      go_wp2_with fail
      go_ret
      exact ⟨rfl, HL.out⟩

set_option maxRecDepth 100000 in
set_option maxHeartbeats 6400000 in
theorem rec_out2 (v u : Value) (l m : List Ch.Span) (p q x y : Int) (tn : Bool) (w : World) (hr : SRow w v l) (hu : SRow w u m) (h0 : ¬ p < 0) (h1 : ¬ q < 0) (h : x < 0) : Calls Tryz.prog 6 #[v, u, .int .i64 p, .int .i64 q, .int .i64 x, .int .i64 y, .bool tn] w fun e w' => e = .returned (.bool true) ∧ Lo w w' := by
  have HS := Lib.hid (short11_any v l w hr)
  have HS2 := Lib.hid (fun (W : World) (h : SRow W u m) => short11_any u m W h)
  unfold GotShort11 at HS HS2
  have HR := Lib.hid hr
  have HU := Lib.hid hu
  obtain ⟨pv, cv, rfl, _⟩ := RowK.form hr
  obtain ⟨pu, cu, rfl, _⟩ := RowK.form hu
  clear hr hu
  go_enter Tryz.func6, Tryz.ntmps6
  go_wp2_with fail
  refine HS.out.mono ?_
  rintro e w1 ⟨b1, rfl, _, lo⟩
  have HL := Lib.hid lo
  have HR := Lib.hid (RowK.lo HR.out lo)
  have HU := Lib.hid (RowK.lo HU.out lo)
  have HS2 := Lib.hid (HS2.out _ HU.out)
  clear lo HS
  cases b1 with
  | false =>
    clear HR HU HS2
    go_wp2_with fail
    go_ret
    exact ⟨rfl, HL.out⟩
  | true =>
    go_wp2_with fail
    refine HS2.out.mono ?_
    rintro e w2 ⟨b2, rfl, _, lo⟩
    have HL := Lib.hid (HL.out.trans lo)
    have HR := Lib.hid (RowK.lo HR.out lo)
    have HU := Lib.hid (RowK.lo HU.out lo)
    clear lo HS2
    cases b2 with
    | false =>
      clear HR HU
      go_wp2_with fail
      go_ret
      exact ⟨rfl, HL.out⟩
    | true =>
      clear HR HU
      go_wp2_with fail
      go_ret
      exact ⟨rfl, HL.out⟩

set_option maxRecDepth 100000 in
set_option maxHeartbeats 6400000 in
theorem rec_out3 (v u : Value) (l m : List Ch.Span) (p q x y : Int) (tn : Bool) (w : World) (hr : SRow w v l) (hu : SRow w u m) (h0 : ¬ p < 0) (h1 : ¬ q < 0) (h2 : ¬ x < 0) (h : y < 0) : Calls Tryz.prog 6 #[v, u, .int .i64 p, .int .i64 q, .int .i64 x, .int .i64 y, .bool tn] w fun e w' => e = .returned (.bool true) ∧ Lo w w' := by
  have HS := Lib.hid (short11_any v l w hr)
  have HS2 := Lib.hid (fun (W : World) (h : SRow W u m) => short11_any u m W h)
  unfold GotShort11 at HS HS2
  have HR := Lib.hid hr
  have HU := Lib.hid hu
  obtain ⟨pv, cv, rfl, _⟩ := RowK.form hr
  obtain ⟨pu, cu, rfl, _⟩ := RowK.form hu
  clear hr hu
  go_enter Tryz.func6, Tryz.ntmps6
  go_wp2_with fail
  refine HS.out.mono ?_
  rintro e w1 ⟨b1, rfl, _, lo⟩
  have HL := Lib.hid lo
  have HR := Lib.hid (RowK.lo HR.out lo)
  have HU := Lib.hid (RowK.lo HU.out lo)
  have HS2 := Lib.hid (HS2.out _ HU.out)
  clear lo HS
  cases b1 with
  | false =>
    clear HR HU HS2
    go_wp2_with fail
    go_ret
    exact ⟨rfl, HL.out⟩
  | true =>
    go_wp2_with fail
    refine HS2.out.mono ?_
    rintro e w2 ⟨b2, rfl, _, lo⟩
    have HL := Lib.hid (HL.out.trans lo)
    have HR := Lib.hid (RowK.lo HR.out lo)
    have HU := Lib.hid (RowK.lo HU.out lo)
    clear lo HS2
    cases b2 with
    | false =>
      clear HR HU
      go_wp2_with fail
      go_ret
      exact ⟨rfl, HL.out⟩
    | true =>
      clear HR HU
      go_wp2_with fail
      go_ret
      exact ⟨rfl, HL.out⟩

set_option maxRecDepth 100000 in
set_option maxHeartbeats 6400000 in
theorem rec_out4 (v u : Value) (l m : List Ch.Span) (p q x y : Int) (tn : Bool) (w : World) (hr : SRow w v l) (hu : SRow w u m) (h0 : ¬ p < 0) (h1 : ¬ q < 0) (h2 : ¬ x < 0) (h3 : ¬ y < 0) (h : 65535 < p) : Calls Tryz.prog 6 #[v, u, .int .i64 p, .int .i64 q, .int .i64 x, .int .i64 y, .bool tn] w fun e w' => e = .returned (.bool true) ∧ Lo w w' := by
  have HS := Lib.hid (short11_any v l w hr)
  have HS2 := Lib.hid (fun (W : World) (h : SRow W u m) => short11_any u m W h)
  unfold GotShort11 at HS HS2
  have HR := Lib.hid hr
  have HU := Lib.hid hu
  obtain ⟨pv, cv, rfl, _⟩ := RowK.form hr
  obtain ⟨pu, cu, rfl, _⟩ := RowK.form hu
  clear hr hu
  go_enter Tryz.func6, Tryz.ntmps6
  go_wp2_with fail
  refine HS.out.mono ?_
  rintro e w1 ⟨b1, rfl, _, lo⟩
  have HL := Lib.hid lo
  have HR := Lib.hid (RowK.lo HR.out lo)
  have HU := Lib.hid (RowK.lo HU.out lo)
  have HS2 := Lib.hid (HS2.out _ HU.out)
  clear lo HS
  cases b1 with
  | false =>
    clear HR HU HS2
    go_wp2_with fail
    go_ret
    exact ⟨rfl, HL.out⟩
  | true =>
    go_wp2_with fail
    refine HS2.out.mono ?_
    rintro e w2 ⟨b2, rfl, _, lo⟩
    have HL := Lib.hid (HL.out.trans lo)
    have HR := Lib.hid (RowK.lo HR.out lo)
    have HU := Lib.hid (RowK.lo HU.out lo)
    clear lo HS2
    cases b2 with
    | false =>
      clear HR HU
      go_wp2_with fail
      go_ret
      exact ⟨rfl, HL.out⟩
    | true =>
      clear HR HU
      go_wp2_with fail
      go_ret
      exact ⟨rfl, HL.out⟩

set_option maxRecDepth 100000 in
set_option maxHeartbeats 6400000 in
theorem rec_out5 (v u : Value) (l m : List Ch.Span) (p q x y : Int) (tn : Bool) (w : World) (hr : SRow w v l) (hu : SRow w u m) (h0 : ¬ p < 0) (h1 : ¬ q < 0) (h2 : ¬ x < 0) (h3 : ¬ y < 0) (h4 : ¬ 65535 < p) (h : 65535 < q) : Calls Tryz.prog 6 #[v, u, .int .i64 p, .int .i64 q, .int .i64 x, .int .i64 y, .bool tn] w fun e w' => e = .returned (.bool true) ∧ Lo w w' := by
  have HS := Lib.hid (short11_any v l w hr)
  have HS2 := Lib.hid (fun (W : World) (h : SRow W u m) => short11_any u m W h)
  unfold GotShort11 at HS HS2
  have HR := Lib.hid hr
  have HU := Lib.hid hu
  obtain ⟨pv, cv, rfl, _⟩ := RowK.form hr
  obtain ⟨pu, cu, rfl, _⟩ := RowK.form hu
  clear hr hu
  go_enter Tryz.func6, Tryz.ntmps6
  go_wp2_with fail
  refine HS.out.mono ?_
  rintro e w1 ⟨b1, rfl, _, lo⟩
  have HL := Lib.hid lo
  have HR := Lib.hid (RowK.lo HR.out lo)
  have HU := Lib.hid (RowK.lo HU.out lo)
  have HS2 := Lib.hid (HS2.out _ HU.out)
  clear lo HS
  cases b1 with
  | false =>
    clear HR HU HS2
    go_wp2_with fail
    go_ret
    exact ⟨rfl, HL.out⟩
  | true =>
    go_wp2_with fail
    refine HS2.out.mono ?_
    rintro e w2 ⟨b2, rfl, _, lo⟩
    have HL := Lib.hid (HL.out.trans lo)
    have HR := Lib.hid (RowK.lo HR.out lo)
    have HU := Lib.hid (RowK.lo HU.out lo)
    clear lo HS2
    cases b2 with
    | false =>
      clear HR HU
      go_wp2_with fail
      go_ret
      exact ⟨rfl, HL.out⟩
    | true =>
      clear HR HU
      go_wp2_with fail
      go_ret
      exact ⟨rfl, HL.out⟩

set_option maxRecDepth 100000 in
set_option maxHeartbeats 6400000 in
theorem rec_out6 (v u : Value) (l m : List Ch.Span) (p q x y : Int) (tn : Bool) (w : World) (hr : SRow w v l) (hu : SRow w u m) (h0 : ¬ p < 0) (h1 : ¬ q < 0) (h2 : ¬ x < 0) (h3 : ¬ y < 0) (h4 : ¬ 65535 < p) (h5 : ¬ 65535 < q) (h : 65535 < x) : Calls Tryz.prog 6 #[v, u, .int .i64 p, .int .i64 q, .int .i64 x, .int .i64 y, .bool tn] w fun e w' => e = .returned (.bool true) ∧ Lo w w' := by
  have HS := Lib.hid (short11_any v l w hr)
  have HS2 := Lib.hid (fun (W : World) (h : SRow W u m) => short11_any u m W h)
  unfold GotShort11 at HS HS2
  have HR := Lib.hid hr
  have HU := Lib.hid hu
  obtain ⟨pv, cv, rfl, _⟩ := RowK.form hr
  obtain ⟨pu, cu, rfl, _⟩ := RowK.form hu
  clear hr hu
  go_enter Tryz.func6, Tryz.ntmps6
  go_wp2_with fail
  refine HS.out.mono ?_
  rintro e w1 ⟨b1, rfl, _, lo⟩
  have HL := Lib.hid lo
  have HR := Lib.hid (RowK.lo HR.out lo)
  have HU := Lib.hid (RowK.lo HU.out lo)
  have HS2 := Lib.hid (HS2.out _ HU.out)
  clear lo HS
  cases b1 with
  | false =>
    clear HR HU HS2
    go_wp2_with fail
    go_ret
    exact ⟨rfl, HL.out⟩
  | true =>
    go_wp2_with fail
    refine HS2.out.mono ?_
    rintro e w2 ⟨b2, rfl, _, lo⟩
    have HL := Lib.hid (HL.out.trans lo)
    have HR := Lib.hid (RowK.lo HR.out lo)
    have HU := Lib.hid (RowK.lo HU.out lo)
    clear lo HS2
    cases b2 with
    | false =>
      clear HR HU
      go_wp2_with fail
      go_ret
      exact ⟨rfl, HL.out⟩
    | true =>
      clear HR HU
      go_wp2_with fail
      go_ret
      exact ⟨rfl, HL.out⟩

set_option maxRecDepth 100000 in
set_option maxHeartbeats 6400000 in
theorem rec_out7 (v u : Value) (l m : List Ch.Span) (p q x y : Int) (tn : Bool) (w : World) (hr : SRow w v l) (hu : SRow w u m) (h0 : ¬ p < 0) (h1 : ¬ q < 0) (h2 : ¬ x < 0) (h3 : ¬ y < 0) (h4 : ¬ 65535 < p) (h5 : ¬ 65535 < q) (h6 : ¬ 65535 < x) (h : 65535 < y) : Calls Tryz.prog 6 #[v, u, .int .i64 p, .int .i64 q, .int .i64 x, .int .i64 y, .bool tn] w fun e w' => e = .returned (.bool true) ∧ Lo w w' := by
  have HS := Lib.hid (short11_any v l w hr)
  have HS2 := Lib.hid (fun (W : World) (h : SRow W u m) => short11_any u m W h)
  unfold GotShort11 at HS HS2
  have HR := Lib.hid hr
  have HU := Lib.hid hu
  obtain ⟨pv, cv, rfl, _⟩ := RowK.form hr
  obtain ⟨pu, cu, rfl, _⟩ := RowK.form hu
  clear hr hu
  go_enter Tryz.func6, Tryz.ntmps6
  go_wp2_with fail
  refine HS.out.mono ?_
  rintro e w1 ⟨b1, rfl, _, lo⟩
  have HL := Lib.hid lo
  have HR := Lib.hid (RowK.lo HR.out lo)
  have HU := Lib.hid (RowK.lo HU.out lo)
  have HS2 := Lib.hid (HS2.out _ HU.out)
  clear lo HS
  cases b1 with
  | false =>
    clear HR HU HS2
    go_wp2_with fail
    go_ret
    exact ⟨rfl, HL.out⟩
  | true =>
    go_wp2_with fail
    refine HS2.out.mono ?_
    rintro e w2 ⟨b2, rfl, _, lo⟩
    have HL := Lib.hid (HL.out.trans lo)
    have HR := Lib.hid (RowK.lo HR.out lo)
    have HU := Lib.hid (RowK.lo HU.out lo)
    clear lo HS2
    cases b2 with
    | false =>
      clear HR HU
      go_wp2_with fail
      go_ret
      exact ⟨rfl, HL.out⟩
    | true =>
      clear HR HU
      go_wp2_with fail
      go_ret
      exact ⟨rfl, HL.out⟩

set_option maxRecDepth 100000 in
set_option maxHeartbeats 6400000 in
theorem rec_noa (v u : Value) (l m : List Ch.Span) (p q x y : Int) (tn : Bool) (w : World) (ht : RTab w) (hr : SRow w v l) (hu : SRow w u m) (hp1 : ¬ p < 0) (hq1 : ¬ q < 0) (hx1 : ¬ x < 0) (hy1 : ¬ y < 0) (hp2 : ¬ 65535 < p) (hq2 : ¬ 65535 < q) (hx2 : ¬ 65535 < x) (hy2 : ¬ 65535 < y) (ha : (Cm.put l 12).2 ≠ 0) : Calls Tryz.prog 6 #[v, u, .int .i64 p, .int .i64 q, .int .i64 x, .int .i64 y, .bool tn] w fun e w' => e = .returned (.bool true) ∧ Lo w w' := by
  have HP := Lib.hid (fun (v : Value) (W : World) (h : SRow W v l) => cmput_any v l 12 W h (by omega) (by omega))
  have HQ := Lib.hid (fun (v : Value) (W : World) (h : SRow W v m) => cmput_any v m 13 W h (by omega) (by omega))
  have HD := Lib.hid (fun W (hW : Lo w W) => mapped_any W (ht.lo hW))
  unfold strErr at HP HQ
  have HS := Lib.hid (short11_any v l w hr)
  have HS2 := Lib.hid (fun (W : World) (h : SRow W u m) => short11_any u m W h)
  unfold GotShort11 at HS HS2
  have HR := Lib.hid hr
  have HU := Lib.hid hu
  obtain ⟨pv, cv, rfl, _⟩ := RowK.form hr
  obtain ⟨pu, cu, rfl, _⟩ := RowK.form hu
  clear hr hu
  generalize (Cm.put l 12).1 = A at *
  generalize (Cm.put m 13).2 = j at *
  generalize (Cm.put m 13).1 = B at *
  generalize (Cm.put l 12).2 = k at *
  have hne : (k != 0) = true := by simpa using ha
  clear ha ht
  go_enter Tryz.func6, Tryz.ntmps6
  go_wp2_with fail
  refine HS.out.mono ?_
  rintro e w1 ⟨b1, rfl, _, lo⟩
  have HL := Lib.hid lo
  have HR := Lib.hid (RowK.lo HR.out lo)
  have HU := Lib.hid (RowK.lo HU.out lo)
  have HS2 := Lib.hid (HS2.out _ HU.out)
  clear lo HS
  cases b1 with
  | false =>
    clear HP HQ HD HR HU HS2
    go_wp2_with fail
    go_ret
    exact ⟨rfl, HL.out⟩
  | true =>
    go_wp2_with fail
    refine HS2.out.mono ?_
    rintro e w2 ⟨b2, rfl, _, lo⟩
    have HL := Lib.hid (HL.out.trans lo)
    have HR := Lib.hid (RowK.lo HR.out lo)
    have HU := Lib.hid (RowK.lo HU.out lo)
    clear lo HS2
    cases b2 with
    | false =>
      clear HP HQ HD HR HU
      go_wp2_with fail
      go_ret
      exact ⟨rfl, HL.out⟩
    | true =>
      go_wp2_with fail
      refine (HP.out _ _ HR.out).mono ?_
      rintro e wX ⟨rfl, lo⟩
      have HL := Lib.hid (HL.out.trans lo)
      have HU := Lib.hid (RowK.lo HU.out lo)
      clear lo HP HR
      go_wp2_with fail
      refine (HQ.out _ _ HU.out).mono ?_
      rintro e wX ⟨rfl, lo⟩
      have HL := Lib.hid (HL.out.trans lo)
      clear lo HQ HU
      go_wp2_with fail
      refine (HD.out _ HL.out).mono ?_
      rintro e wX ⟨rfl, lo⟩
      have HL := Lib.hid (HL.out.trans lo)
      clear lo HD
      go_wp2_with fail
      go_ret
      exact ⟨ret_bool (by simp), HL.out⟩

set_option maxRecDepth 100000 in
set_option maxHeartbeats 6400000 in
theorem rec_nob (v u : Value) (l m : List Ch.Span) (p q x y : Int) (tn : Bool) (w : World) (ht : RTab w) (hr : SRow w v l) (hu : SRow w u m) (hp1 : ¬ p < 0) (hq1 : ¬ q < 0) (hx1 : ¬ x < 0) (hy1 : ¬ y < 0) (hp2 : ¬ 65535 < p) (hq2 : ¬ 65535 < q) (hx2 : ¬ 65535 < x) (hy2 : ¬ 65535 < y) (ha : (Cm.put l 12).2 = 0) (hb : (Cm.put m 13).2 ≠ 0) : Calls Tryz.prog 6 #[v, u, .int .i64 p, .int .i64 q, .int .i64 x, .int .i64 y, .bool tn] w fun e w' => e = .returned (.bool true) ∧ Lo w w' := by
  have HP := Lib.hid (fun (v : Value) (W : World) (h : SRow W v l) => cmput_any v l 12 W h (by omega) (by omega))
  have HQ := Lib.hid (fun (v : Value) (W : World) (h : SRow W v m) => cmput_any v m 13 W h (by omega) (by omega))
  have HD := Lib.hid (fun W (hW : Lo w W) => mapped_any W (ht.lo hW))
  unfold strErr at HP HQ
  have HS := Lib.hid (short11_any v l w hr)
  have HS2 := Lib.hid (fun (W : World) (h : SRow W u m) => short11_any u m W h)
  unfold GotShort11 at HS HS2
  have HR := Lib.hid hr
  have HU := Lib.hid hu
  obtain ⟨pv, cv, rfl, _⟩ := RowK.form hr
  obtain ⟨pu, cu, rfl, _⟩ := RowK.form hu
  clear hr hu
  rw [ha] at HP
  generalize (Cm.put l 12).1 = A at *
  generalize (Cm.put m 13).2 = j at *
  generalize (Cm.put m 13).1 = B at *
  have hne : (j != 0) = true := by simpa using hb
  clear ha hb ht
  go_enter Tryz.func6, Tryz.ntmps6
  go_wp2_with fail
  refine HS.out.mono ?_
  rintro e w1 ⟨b1, rfl, _, lo⟩
  have HL := Lib.hid lo
  have HR := Lib.hid (RowK.lo HR.out lo)
  have HU := Lib.hid (RowK.lo HU.out lo)
  have HS2 := Lib.hid (HS2.out _ HU.out)
  clear lo HS
  cases b1 with
  | false =>
    clear HP HQ HD HR HU HS2
    go_wp2_with fail
    go_ret
    exact ⟨rfl, HL.out⟩
  | true =>
    go_wp2_with fail
    refine HS2.out.mono ?_
    rintro e w2 ⟨b2, rfl, _, lo⟩
    have HL := Lib.hid (HL.out.trans lo)
    have HR := Lib.hid (RowK.lo HR.out lo)
    have HU := Lib.hid (RowK.lo HU.out lo)
    clear lo HS2
    cases b2 with
    | false =>
      clear HP HQ HD HR HU
      go_wp2_with fail
      go_ret
      exact ⟨rfl, HL.out⟩
    | true =>
      go_wp2_with fail
      refine (HP.out _ _ HR.out).mono ?_
      rintro e wX ⟨rfl, lo⟩
      have HL := Lib.hid (HL.out.trans lo)
      have HU := Lib.hid (RowK.lo HU.out lo)
      clear lo HP HR
      go_wp2_with fail
      refine (HQ.out _ _ HU.out).mono ?_
      rintro e wX ⟨rfl, lo⟩
      have HL := Lib.hid (HL.out.trans lo)
      clear lo HQ HU
      go_wp2_with fail
      refine (HD.out _ HL.out).mono ?_
      rintro e wX ⟨rfl, lo⟩
      have HL := Lib.hid (HL.out.trans lo)
      clear lo HD
      go_wp2_with fail
      go_ret
      exact ⟨ret_bool (by simp), HL.out⟩

end Go.Proofs.YtppihpjcdieeoaaGreatDoor
