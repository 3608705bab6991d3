/-
  Contracts of the document's Same (of rows that are alike) and of the closed rows 'drawn'. No conditions beyond those stated.
-/
import Derived.Test.YtkfljalcnjdliaaGlGet
import Derived.Test.YtkfljalcnjdliaaGlPut
import Derived.Test.YtkfljalcnjdliaaGlHi
namespace Go.Proofs.Ytkfljalcnjdliaa
open Go.RowKit

set_option maxHeartbeats 1600000 in
theorem esame_any (l : List Gl.Ext) (v u : Value) (w : World) (h : ERow w v l) (h2 : ERow w u l) : Calls Try.prog 14 #[v, u] w fun e w' => e = .returned (.bool true) ∧ Lo w w' := by
  obtain ⟨p, c, rfl, hlen⟩ := RowK.form h
  obtain ⟨p2, c2, rfl, _⟩ := RowK.form h2
  have HR := Lib.hid h
  have HR2 := Lib.hid h2
  generalize hn : l.length = n at *
  have HN := Lib.hid hn
  clear hn h h2
  go_enter Try.func14, Try.ntmps14
  go_wp2_with fail
  go_loopw [5] (fun i W => ∃ k : Nat, k ≤ n ∧ i = .int .i64 k ∧ Hid (Lo w W)) (fun i _ => n - (intOf i).toNat)
  case atStart => exact ⟨0, Nat.zero_le _, rfl, Lib.hid (Lo.refl _)⟩
  case round =>
    obtain ⟨k, hk, rfl, HL⟩ := hrel
    by_cases hlt : k < n
    · have hx : l[k]? = some (l.getD k Gl.none) := Gl.getD_some (by rw [HN.out]; exact hlt)
      obtain ⟨b, off, rfl, r0, r1, r2, r3, r4⟩ := ERow.at5 (RowK.lo HR.out HL.out) hx
      obtain ⟨b2, off2, rfl, s0, s1, s2, s3, s4⟩ := ERow.at5 (RowK.lo HR2.out HL.out) hx
      clear hx
      generalize l.getD k Gl.none = x at *
      go_wp2_with fail
      go_quiet (fail)
      have HL2 := Lib.hid (HL.out.drewN nq)
      go_wp2_with fail
      go_roundw
      case rel => exact ⟨k + 1, by omega, by go_num, HL2⟩
      case measure => simp [intOf]; omega
    · go_wp2_with fail
      go_ret
      exact ⟨rfl, HL.out⟩

def two : List Gl.Ext := [⟨true, 1, -2, 300, 400⟩, ⟨false, 0, 0, 0, 0⟩]
def twoL : List UInt8 := [0, 0, 0, 6, 0, 6]
def twoG : List UInt8 := [0, 0, 0, 1, 255, 254, 1, 44, 1, 144, 0, 0]
def twoH : He.Head := ⟨1000, 2, 1, 800, -200, false⟩
theorem two_put : Gl.put two false = (twoL, twoG, 0) := by decide +kernel
theorem two_get : Gl.get twoL twoG 2 false = (two, 0) := by kernel_rfl
theorem two_more : Gl.get twoL twoG 3 false = ([], 4) := by kernel_rfl
theorem two_high : Gl.high twoH two 0 = (400, 2, 0) := by decide +kernel
theorem two_all : two.all Gl.isExt = true := by decide +kernel
theorem two_no : Gl.isExt ⟨false, 0, 0, 1, 0⟩ = false := by decide +kernel
theorem two_yes : Gl.isExt ⟨false, 0, 0, 0, 0⟩ = true := by decide +kernel

set_option maxRecDepth 100000 in
set_option maxHeartbeats 3200000 in
theorem drawn_any (w : World) : Calls Try.prog 13 #[] w fun e w' => e = .returned (.bool true) ∧ Lo w w' := by
  have HP := Lib.hid (fun (v : Value) (W : World) (h : ERow W v two) => gput_any v two false W h (by decide))
  have HG := Lib.hid (fun W => gget_any twoL twoG 2 false W (by decide) (by decide))
  have HG2 := Lib.hid (fun W => gget_any twoL twoG 3 false W (by decide) (by decide))
  have HH := Lib.hid (fun (v : Value) (W : World) (h : ERow W v two) => ghigh_any twoH v two 0 W h two_all)
  have HSm := Lib.hid (fun (v u : Value) (W : World) (h : ERow W v two) (h2 : ERow W u two) => esame_any two v u W h h2)
  have HI1 := Lib.hid (fun W => gis_any ⟨false, 0, 0, 0, 0⟩ W)
  have HI2 := Lib.hid (fun W => gis_any ⟨false, 0, 0, 1, 0⟩ W)
  rw [two_put] at HP
  rw [two_get] at HG
  rw [two_more] at HG2
  rw [two_high] at HH
  rw [two_yes] at HI1
  rw [two_no] at HI2
  unfold strs3 at HP
  unfold GotExt at HG HG2
  unfold nums3 aggH twoH at HH
  unfold aggE at HI1 HI2
  rw [show (two, (0 : Int)).1.length = 2 from rfl] at HG
  unfold twoL twoG at HP HG HG2
  dsimp only at HP HG HG2 HH HI1 HI2
  go_enter Try.func13, Try.ntmps13
  go_wp2_with fail
  have HR : Hid (ERow (w.alloc (.cells #[.bool true, .int .i64 1, .int .i64 (-2), .int .i64 300, .int .i64 400, .bool false, .int .i64 0, .int .i64 0, .int .i64 0, .int .i64 0] 30)) (.slice (some ⟨w.heap.size, 0, none⟩) 2 2) two) := Lib.hid (erow2 w ⟨true, 1, -2, 300, 400⟩ ⟨false, 0, 0, 0, 0⟩ _)
  have HL : Hid (Lo w (w.alloc (.cells #[.bool true, .int .i64 1, .int .i64 (-2), .int .i64 300, .int .i64 400, .bool false, .int .i64 0, .int .i64 0, .int .i64 0, .int .i64 0] 30))) := Lib.hid ((Lo.refl w).alloc _)
  refine (HP.out _ _ HR.out).mono ?_
  rintro e w1 ⟨rfl, lo⟩
  have HL := Lib.hid (HL.out.trans lo)
  have HR := Lib.hid (RowK.lo HR.out lo)
  clear lo HP
  go_wp2_with fail
  refine (HG.out _).mono ?_
  rintro e w2 ⟨p, c, rfl, hrow, lo⟩
  have HL := Lib.hid (HL.out.trans lo)
  have HR := Lib.hid (RowK.lo HR.out lo)
  have HM := Lib.hid hrow
  clear lo hrow HG
  go_wp2_with fail
  refine (HG2.out _).mono ?_
  rintro e w3 ⟨p3, c3, rfl, _, lo⟩
  have HL := Lib.hid (HL.out.trans lo)
  have HR := Lib.hid (RowK.lo HR.out lo)
  have HM := Lib.hid (RowK.lo HM.out lo)
  clear lo HG2
  go_wp2_with fail
  refine (HH.out _ _ HR.out).mono ?_
  rintro e w4 ⟨rfl, lo⟩
  have HL := Lib.hid (HL.out.trans lo)
  have HR := Lib.hid (RowK.lo HR.out lo)
  have HM := Lib.hid (RowK.lo HM.out lo)
  clear lo HH
  go_wp2_with fail
  refine (HSm.out _ _ _ HR.out HM.out).mono ?_
  rintro e w5 ⟨rfl, lo⟩
  have HL := Lib.hid (HL.out.trans lo)
  have HR := Lib.hid (RowK.lo HR.out lo)
  clear lo HSm HM
  have hcells := ERow.at5 HR.out (show two[1]? = some ⟨false, 0, 0, 0, 0⟩ from rfl)
  obtain ⟨b, off, he, r0, r1, r2, r3, r4⟩ := hcells
  simp only [Option.some.injEq, Addr.mk.injEq, and_true] at he
  obtain ⟨rfl, rfl⟩ := he
  dsimp only at r0 r1 r2 r3 r4
  simp only [Nat.zero_add, Nat.one_mul] at r0 r1 r2 r3 r4
  go_wp2_with fail
  refine (HI1.out _).mono ?_
  rintro e w6 ⟨rfl, lo⟩
  have HL := Lib.hid (HL.out.trans lo)
  clear lo HI1 r0 r1 r2 r3 r4
  go_wp2_with fail
  refine (HI2.out _).mono ?_
  rintro e w7 ⟨rfl, lo⟩
  have HL := Lib.hid (HL.out.trans lo)
  clear lo HI2
  go_wp2_with fail
  go_ret
  exact ⟨rfl, HL.out⟩
end Go.Proofs.Ytkfljalcnjdliaa
