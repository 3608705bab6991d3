/-
  The contract of the document's answer for layer 5, Get. No conditions beyond those stated.
-/
import Derived.Test.YtbcilhdamjgoeaaHeRef
import Derived.Deep.RegionHeld3
namespace Go.Proofs.Ytbcilhdamjgoeaa
open Go.RowKit

set_option maxRecDepth 100000 in
set_option maxHeartbeats 1600000 in
theorem rget5_more (a b c : List UInt8) (w : World) (ha : a.length ≤ 9223372036854775807) (hb : b.length ≤ 9223372036854775807) (hc : c.length ≤ 9223372036854775807) (h : a.length < 54 ∨ b.length < 6 ∨ c.length < 36) :
    Calls Try.prog 21 #[.string ⟨a.toArray⟩, .string ⟨b.toArray⟩, .string ⟨c.toArray⟩] w fun e w' => e = headErr (He.zero, 4) ∧ Lo w w' := by
  by_cases h1 : a.length < 54
  · go_enter Try.func21, Try.ntmps21
    go_wp2_with fail
    refine bodyPost_ret (v := .tuple #[aggH He.zero, .int .i64 4]) ?_ rfl ⟨rfl, ?_⟩
    · simp [results, Try.results21, go_sem, aggH, He.zero]
    · exact (Lo.refl w).alloc _
  · by_cases h2 : b.length < 6
    · go_enter Try.func21, Try.ntmps21
      go_wp2_with fail
      refine bodyPost_ret (v := .tuple #[aggH He.zero, .int .i64 4]) ?_ rfl ⟨rfl, ?_⟩
      · simp [results, Try.results21, go_sem, aggH, He.zero]
      · exact (Lo.refl w).alloc _
    · have h3 : c.length < 36 := by omega
      go_enter Try.func21, Try.ntmps21
      go_wp2_with fail
      refine bodyPost_ret (v := .tuple #[aggH He.zero, .int .i64 4]) ?_ rfl ⟨rfl, ?_⟩
      · simp [results, Try.results21, go_sem, aggH, He.zero]
      · exact (Lo.refl w).alloc _

set_option maxRecDepth 100000 in
set_option maxHeartbeats 1600000 in
theorem rget5_form (a b c : List UInt8) (w : World) (ha : a.length ≤ 9223372036854775807) (hb : b.length ≤ 9223372036854775807) (hc : c.length ≤ 9223372036854775807) (h1 : 54 ≤ a.length) (h2 : 6 ≤ b.length) (h3 : 36 ≤ c.length) (hf : He.fld a 12 4 ≠ 1594834165 ∨ He.fld a 12 4 = 1594834165 ∧ (He.fld a 50 (-2) < 0 ∨ 1 < He.fld a 50 (-2))) :
    Calls Try.prog 21 #[.string ⟨a.toArray⟩, .string ⟨b.toArray⟩, .string ⟨c.toArray⟩] w fun e w' => e = headErr (He.zero, 5) ∧ Lo w w' := by
  have A50 := Lib.hid (fun W => rone_any ((a.drop 50).take 2) (-2) W (by simp; omega))
  rw [show Bn.one ((a.drop 50).take 2) (-2) = He.fld a 50 (-2) from rfl] at A50
  have eA50 : (⟨a.toArray⟩ : ByteArray).extract 50 52 = ⟨((a.drop 50).take 2).toArray⟩ := by rw [Gk.extract_list]
  have A12 := Lib.hid (fun W => rone_any ((a.drop 12).take 4) 4 W (by simp; omega))
  rw [show Bn.one ((a.drop 12).take 4) 4 = He.fld a 12 4 from rfl] at A12
  have eA12 : (⟨a.toArray⟩ : ByteArray).extract 12 16 = ⟨((a.drop 12).take 4).toArray⟩ := by rw [Gk.extract_list]
  generalize He.fld a 50 (-2) = f50 at *
  generalize He.fld a 12 4 = f12 at *
  generalize (a.drop 50).take 2 = lA50 at *
  generalize (a.drop 12).take 4 = lA12 at *
  have hcs : (f12 != 1594834165) = true ∨ (f12 = 1594834165 ∧ f50 < 0) ∨ (f12 = 1594834165 ∧ 1 < f50) := by
    rcases hf with h | ⟨h0, h | h⟩
    · exact .inl (by simpa using h)
    · exact .inr (.inl ⟨h0, h⟩)
    · exact .inr (.inr ⟨h0, h⟩)
  clear hf
  rcases hcs with hb1 | ⟨rfl, hb1⟩ | ⟨rfl, hb1⟩
  all_goals
    go_enter Try.func21, Try.ntmps21
    go_wp2_with fail
    generalize hW : World.alloc w _ = w0
    have HL : Hid (Lo w w0) := Lib.hid (by rw [← hW]; exact (Lo.refl w).alloc _)
    have HB : Hid (w0.heap[w.heap.size]? = some (.cells #[.int .i64 0, .int .i64 0, .int .i64 0, .int .i64 0, .int .i64 0, .bool false] 46 (0, 0))) := Lib.hid (by rw [← hW]; exact new_block w _)
    clear hW
    refine (A50.out _).mono ?_
    rintro e w1 ⟨rfl, rfl⟩
    go_wp2_with fail
    refine (A12.out _).mono ?_
    rintro e w2 ⟨rfl, rfl⟩
    obtain ⟨⟨r0, r1, r2, r3, r4, r5⟩, q0, q1, q2, q3, q4, q5⟩ := six_at HB.out
    go_wp2_with fail
    refine bodyPost_ret (v := .tuple #[aggH He.zero, .int .i64 5]) ?_ rfl ⟨rfl, ?_⟩
    · simp [results, Try.results21, go_sem, aggH, He.zero, r0, r1, r2, r3, r4, r5]
    · exact Lo.set6 HL.out (Nat.le_refl _) _ _ _ _ _ _

set_option maxRecDepth 100000 in
set_option maxHeartbeats 3200000 in
theorem rget5_read0 (a b c : List UInt8) (w : World) (ha : a.length ≤ 9223372036854775807) (hb : b.length ≤ 9223372036854775807) (hc : c.length ≤ 9223372036854775807) (h1 : 54 ≤ a.length) (h2 : 6 ≤ b.length) (h3 : 36 ≤ c.length) (hm : He.fld a 12 4 = 1594834165) (hf : He.fld a 50 (-2) = 0) :
    Calls Try.prog 21 #[.string ⟨a.toArray⟩, .string ⟨b.toArray⟩, .string ⟨c.toArray⟩] w fun e w' => e = headErr (headTold ⟨He.fld a 18 2, He.fld b 4 2, He.fld c 34 2, He.fld c 4 (-2), He.fld c 6 (-2), false⟩) ∧ Lo w w' := by
  have A50 := Lib.hid (fun W => rone_any ((a.drop 50).take 2) (-2) W (by simp; omega))
  rw [show Bn.one ((a.drop 50).take 2) (-2) = He.fld a 50 (-2) from rfl] at A50
  have eA50 : (⟨a.toArray⟩ : ByteArray).extract 50 52 = ⟨((a.drop 50).take 2).toArray⟩ := by rw [Gk.extract_list]
  have A12 := Lib.hid (fun W => rone_any ((a.drop 12).take 4) 4 W (by simp; omega))
  rw [show Bn.one ((a.drop 12).take 4) 4 = He.fld a 12 4 from rfl] at A12
  have eA12 : (⟨a.toArray⟩ : ByteArray).extract 12 16 = ⟨((a.drop 12).take 4).toArray⟩ := by rw [Gk.extract_list]
  rw [hm] at A12
  rw [hf] at A50
  have oA18 : Bn.one ((a.drop 18).take 2) 2 = He.fld a 18 2 := rfl
  have kA18 : ((a.drop 18).take 2).length ≤ 4 := by simp; omega
  have eA18 : (⟨a.toArray⟩ : ByteArray).extract 18 20 = ⟨((a.drop 18).take 2).toArray⟩ := by rw [Gk.extract_list]
  have oB4 : Bn.one ((b.drop 4).take 2) 2 = He.fld b 4 2 := rfl
  have kB4 : ((b.drop 4).take 2).length ≤ 4 := by simp; omega
  have eB4 : (⟨b.toArray⟩ : ByteArray).extract 4 6 = ⟨((b.drop 4).take 2).toArray⟩ := by rw [Gk.extract_list]
  have oC34 : Bn.one ((c.drop 34).take 2) 2 = He.fld c 34 2 := rfl
  have kC34 : ((c.drop 34).take 2).length ≤ 4 := by simp; omega
  have eC34 : (⟨c.toArray⟩ : ByteArray).extract 34 36 = ⟨((c.drop 34).take 2).toArray⟩ := by rw [Gk.extract_list]
  have oC4 : Bn.one ((c.drop 4).take 2) (-2) = He.fld c 4 (-2) := rfl
  have kC4 : ((c.drop 4).take 2).length ≤ 4 := by simp; omega
  have eC4 : (⟨c.toArray⟩ : ByteArray).extract 4 6 = ⟨((c.drop 4).take 2).toArray⟩ := by rw [Gk.extract_list]
  have oC6 : Bn.one ((c.drop 6).take 2) (-2) = He.fld c 6 (-2) := rfl
  have kC6 : ((c.drop 6).take 2).length ≤ 4 := by simp; omega
  have eC6 : (⟨c.toArray⟩ : ByteArray).extract 6 8 = ⟨((c.drop 6).take 2).toArray⟩ := by rw [Gk.extract_list]
  have HOne := Lib.hid (fun (l : List UInt8) (size : Int) (W : World) (h : l.length ≤ 4) => rone_any l size W h)
  have HI := Lib.hid (fun W => ris5_any ⟨He.fld a 18 2, He.fld b 4 2, He.fld c 34 2, He.fld c 4 (-2), He.fld c 6 (-2), false⟩ W)
  unfold headTold
  generalize He.fld a 18 2 = x0 at *
  generalize He.fld b 4 2 = x1 at *
  generalize He.fld c 34 2 = x2 at *
  generalize He.fld c 4 (-2) = x3 at *
  generalize He.fld c 6 (-2) = x4 at *
  generalize (a.drop 50).take 2 = lA50 at *
  generalize (a.drop 12).take 4 = lA12 at *
  generalize (a.drop 18).take 2 = lA18 at *
  generalize (b.drop 4).take 2 = lB4 at *
  generalize (c.drop 34).take 2 = lC34 at *
  generalize (c.drop 4).take 2 = lC4 at *
  generalize (c.drop 6).take 2 = lC6 at *
  unfold aggH at HI
  simp only at HI
  generalize hy : (if He.isHead ⟨x0, x1, x2, x3, x4, false⟩ = false then (He.zero, (5 : Int)) else (⟨x0, x1, x2, x3, x4, false⟩, 0)) = y
  have HY := Lib.hid hy
  clear hm hf hy
  go_enter Try.func21, Try.ntmps21
  go_wp2_with fail
  generalize hW : World.alloc w _ = w0
  have HL : Hid (Lo w w0) := Lib.hid (by rw [← hW]; exact (Lo.refl w).alloc _)
  have HB : Hid (w0.heap[w.heap.size]? = some (.cells #[.int .i64 0, .int .i64 0, .int .i64 0, .int .i64 0, .int .i64 0, .bool false] 46 (0, 0))) := Lib.hid (by rw [← hW]; exact new_block w _)
  clear hW
  refine (A50.out _).mono ?_
  rintro e w1 ⟨rfl, rfl⟩
  go_wp2_with fail
  refine (A12.out _).mono ?_
  rintro e w2 ⟨rfl, rfl⟩
  go_wp2_with fail
  have i1 : (20 : Int) ≤ (a.length : Int) := by omega
  have i2 : (6 : Int) ≤ (b.length : Int) := by omega
  have i3 : (36 : Int) ≤ (c.length : Int) := by omega
  have i4 : (6 : Int) ≤ (c.length : Int) := by omega
  have i5 : (8 : Int) ≤ (c.length : Int) := by omega
  go_region_held3 (fun W => Hid (Lo w0 W)) (first | assumption | exact Lib.hid ((Lo.refl _).drew) | exact Lib.hid (((Lo.refl _).alloc _).drew) | exact Lib.hid (((Lo.refl _).drew).alloc _) | exact Lib.hid ((Lo.refl _).alloc _))
    (first | (go_at_call 52; refine (HOne.out _ _ _ (by assumption)).mono ?_; rintro e wA ⟨rfl, rfl⟩))
  all_goals
    generalize hW : World.drew _ = w8
    have lo : Lo w0 w8 := by rw [← hW]; exact ((Lo.refl w0).alloc _).drew
    have HH : Hid (w8.heap[w0.heap.size]? = some (.cells #[.int .i64 x0, .int .i64 x1, .int .i64 x2, .int .i64 x3, .int .i64 x4, .bool false] 46 (0, 0))) := Lib.hid (by rw [← hW]; exact new_block w0 _)
    have HL := Lib.hid (HL.out.trans lo)
    have HB := Lib.hid (lo_block lo HB.out)
    clear lo hW
    obtain ⟨⟨s0, s1, s2, s3, s4, s5⟩, _⟩ := six_at HH.out
    go_wp2_with fail
    refine (HI.out _).mono ?_
    rintro e w9 ⟨rfl, lo⟩
    have HL := Lib.hid (HL.out.trans lo)
    have HB := Lib.hid (lo_block lo HB.out)
    have HH := Lib.hid (lo_block lo HH.out)
    clear lo HI s0 s1 s2 s3 s4 s5
    obtain ⟨⟨r0, r1, r2, r3, r4, r5⟩, q0, q1, q2, q3, q4, q5⟩ := six_at HB.out
    obtain ⟨⟨s0, s1, s2, s3, s4, s5⟩, _⟩ := six_at HH.out
    cases hi : He.isHead ⟨x0, x1, x2, x3, x4, false⟩ with
    | false =>
      have HE : Hid (y = (He.zero, 5)) := Lib.hid (by rw [← HY.out, if_pos hi])
      clear hi
      go_wp2_with fail
      refine bodyPost_ret (v := .tuple #[aggH He.zero, .int .i64 5]) ?_ rfl ⟨by rw [HE.out]; rfl, ?_⟩
      · simp [results, Try.results21, go_sem, aggH, He.zero, r0, r1, r2, r3, r4, r5]
      · exact Lo.set6 HL.out (Nat.le_refl _) _ _ _ _ _ _
    | true =>
      have HE : Hid (y = (⟨x0, x1, x2, x3, x4, false⟩, 0)) := Lib.hid (by rw [← HY.out, if_neg (by rw [hi]; simp)])
      clear hi
      go_wp2_with fail
      refine bodyPost_ret (v := .tuple #[aggH ⟨x0, x1, x2, x3, x4, false⟩, .int .i64 0]) ?_ rfl ⟨by rw [HE.out]; rfl, ?_⟩
      · simp [results, Try.results21, go_sem, aggH, r0, r1, r2, r3, r4, r5]
      · exact Lo.set6 HL.out (Nat.le_refl _) _ _ _ _ _ _

set_option maxRecDepth 100000 in
set_option maxHeartbeats 3200000 in
theorem rget5_read1 (a b c : List UInt8) (w : World) (ha : a.length ≤ 9223372036854775807) (hb : b.length ≤ 9223372036854775807) (hc : c.length ≤ 9223372036854775807) (h1 : 54 ≤ a.length) (h2 : 6 ≤ b.length) (h3 : 36 ≤ c.length) (hm : He.fld a 12 4 = 1594834165) (hf : He.fld a 50 (-2) = 1) :
    Calls Try.prog 21 #[.string ⟨a.toArray⟩, .string ⟨b.toArray⟩, .string ⟨c.toArray⟩] w fun e w' => e = headErr (headTold ⟨He.fld a 18 2, He.fld b 4 2, He.fld c 34 2, He.fld c 4 (-2), He.fld c 6 (-2), true⟩) ∧ Lo w w' := by
  have A50 := Lib.hid (fun W => rone_any ((a.drop 50).take 2) (-2) W (by simp; omega))
  rw [show Bn.one ((a.drop 50).take 2) (-2) = He.fld a 50 (-2) from rfl] at A50
  have eA50 : (⟨a.toArray⟩ : ByteArray).extract 50 52 = ⟨((a.drop 50).take 2).toArray⟩ := by rw [Gk.extract_list]
  have A12 := Lib.hid (fun W => rone_any ((a.drop 12).take 4) 4 W (by simp; omega))
  rw [show Bn.one ((a.drop 12).take 4) 4 = He.fld a 12 4 from rfl] at A12
  have eA12 : (⟨a.toArray⟩ : ByteArray).extract 12 16 = ⟨((a.drop 12).take 4).toArray⟩ := by rw [Gk.extract_list]
  rw [hm] at A12
  rw [hf] at A50
  have oA18 : Bn.one ((a.drop 18).take 2) 2 = He.fld a 18 2 := rfl
  have kA18 : ((a.drop 18).take 2).length ≤ 4 := by simp; omega
  have eA18 : (⟨a.toArray⟩ : ByteArray).extract 18 20 = ⟨((a.drop 18).take 2).toArray⟩ := by rw [Gk.extract_list]
  have oB4 : Bn.one ((b.drop 4).take 2) 2 = He.fld b 4 2 := rfl
  have kB4 : ((b.drop 4).take 2).length ≤ 4 := by simp; omega
  have eB4 : (⟨b.toArray⟩ : ByteArray).extract 4 6 = ⟨((b.drop 4).take 2).toArray⟩ := by rw [Gk.extract_list]
  have oC34 : Bn.one ((c.drop 34).take 2) 2 = He.fld c 34 2 := rfl
  have kC34 : ((c.drop 34).take 2).length ≤ 4 := by simp; omega
  have eC34 : (⟨c.toArray⟩ : ByteArray).extract 34 36 = ⟨((c.drop 34).take 2).toArray⟩ := by rw [Gk.extract_list]
  have oC4 : Bn.one ((c.drop 4).take 2) (-2) = He.fld c 4 (-2) := rfl
  have kC4 : ((c.drop 4).take 2).length ≤ 4 := by simp; omega
  have eC4 : (⟨c.toArray⟩ : ByteArray).extract 4 6 = ⟨((c.drop 4).take 2).toArray⟩ := by rw [Gk.extract_list]
  have oC6 : Bn.one ((c.drop 6).take 2) (-2) = He.fld c 6 (-2) := rfl
  have kC6 : ((c.drop 6).take 2).length ≤ 4 := by simp; omega
  have eC6 : (⟨c.toArray⟩ : ByteArray).extract 6 8 = ⟨((c.drop 6).take 2).toArray⟩ := by rw [Gk.extract_list]
  have HOne := Lib.hid (fun (l : List UInt8) (size : Int) (W : World) (h : l.length ≤ 4) => rone_any l size W h)
  have HI := Lib.hid (fun W => ris5_any ⟨He.fld a 18 2, He.fld b 4 2, He.fld c 34 2, He.fld c 4 (-2), He.fld c 6 (-2), true⟩ W)
  unfold headTold
  generalize He.fld a 18 2 = x0 at *
  generalize He.fld b 4 2 = x1 at *
  generalize He.fld c 34 2 = x2 at *
  generalize He.fld c 4 (-2) = x3 at *
  generalize He.fld c 6 (-2) = x4 at *
  generalize (a.drop 50).take 2 = lA50 at *
  generalize (a.drop 12).take 4 = lA12 at *
  generalize (a.drop 18).take 2 = lA18 at *
  generalize (b.drop 4).take 2 = lB4 at *
  generalize (c.drop 34).take 2 = lC34 at *
  generalize (c.drop 4).take 2 = lC4 at *
  generalize (c.drop 6).take 2 = lC6 at *
  unfold aggH at HI
  simp only at HI
  generalize hy : (if He.isHead ⟨x0, x1, x2, x3, x4, true⟩ = false then (He.zero, (5 : Int)) else (⟨x0, x1, x2, x3, x4, true⟩, 0)) = y
  have HY := Lib.hid hy
  clear hm hf hy
  go_enter Try.func21, Try.ntmps21
  go_wp2_with fail
  generalize hW : World.alloc w _ = w0
  have HL : Hid (Lo w w0) := Lib.hid (by rw [← hW]; exact (Lo.refl w).alloc _)
  have HB : Hid (w0.heap[w.heap.size]? = some (.cells #[.int .i64 0, .int .i64 0, .int .i64 0, .int .i64 0, .int .i64 0, .bool false] 46 (0, 0))) := Lib.hid (by rw [← hW]; exact new_block w _)
  clear hW
  refine (A50.out _).mono ?_
  rintro e w1 ⟨rfl, rfl⟩
  go_wp2_with fail
  refine (A12.out _).mono ?_
  rintro e w2 ⟨rfl, rfl⟩
  go_wp2_with fail
  have i1 : (20 : Int) ≤ (a.length : Int) := by omega
  have i2 : (6 : Int) ≤ (b.length : Int) := by omega
  have i3 : (36 : Int) ≤ (c.length : Int) := by omega
  have i4 : (6 : Int) ≤ (c.length : Int) := by omega
  have i5 : (8 : Int) ≤ (c.length : Int) := by omega
  go_region_held3 (fun W => Hid (Lo w0 W)) (first | assumption | exact Lib.hid ((Lo.refl _).drew) | exact Lib.hid (((Lo.refl _).alloc _).drew) | exact Lib.hid (((Lo.refl _).drew).alloc _) | exact Lib.hid ((Lo.refl _).alloc _))
    (first | (go_at_call 52; refine (HOne.out _ _ _ (by assumption)).mono ?_; rintro e wA ⟨rfl, rfl⟩))
  all_goals
    generalize hW : World.drew _ = w8
    have lo : Lo w0 w8 := by rw [← hW]; exact ((Lo.refl w0).alloc _).drew
    have HH : Hid (w8.heap[w0.heap.size]? = some (.cells #[.int .i64 x0, .int .i64 x1, .int .i64 x2, .int .i64 x3, .int .i64 x4, .bool true] 46 (0, 0))) := Lib.hid (by rw [← hW]; exact new_block w0 _)
    have HL := Lib.hid (HL.out.trans lo)
    have HB := Lib.hid (lo_block lo HB.out)
    clear lo hW
    obtain ⟨⟨s0, s1, s2, s3, s4, s5⟩, _⟩ := six_at HH.out
    go_wp2_with fail
    refine (HI.out _).mono ?_
    rintro e w9 ⟨rfl, lo⟩
    have HL := Lib.hid (HL.out.trans lo)
    have HB := Lib.hid (lo_block lo HB.out)
    have HH := Lib.hid (lo_block lo HH.out)
    clear lo HI s0 s1 s2 s3 s4 s5
    obtain ⟨⟨r0, r1, r2, r3, r4, r5⟩, q0, q1, q2, q3, q4, q5⟩ := six_at HB.out
    obtain ⟨⟨s0, s1, s2, s3, s4, s5⟩, _⟩ := six_at HH.out
    cases hi : He.isHead ⟨x0, x1, x2, x3, x4, true⟩ with
    | false =>
      have HE : Hid (y = (He.zero, 5)) := Lib.hid (by rw [← HY.out, if_pos hi])
      clear hi
      go_wp2_with fail
      refine bodyPost_ret (v := .tuple #[aggH He.zero, .int .i64 5]) ?_ rfl ⟨by rw [HE.out]; rfl, ?_⟩
      · simp [results, Try.results21, go_sem, aggH, He.zero, r0, r1, r2, r3, r4, r5]
      · exact Lo.set6 HL.out (Nat.le_refl _) _ _ _ _ _ _
    | true =>
      have HE : Hid (y = (⟨x0, x1, x2, x3, x4, true⟩, 0)) := Lib.hid (by rw [← HY.out, if_neg (by rw [hi]; simp)])
      clear hi
      go_wp2_with fail
      refine bodyPost_ret (v := .tuple #[aggH ⟨x0, x1, x2, x3, x4, true⟩, .int .i64 0]) ?_ rfl ⟨by rw [HE.out]; rfl, ?_⟩
      · simp [results, Try.results21, go_sem, aggH, r0, r1, r2, r3, r4, r5]
      · exact Lo.set6 HL.out (Nat.le_refl _) _ _ _ _ _ _

/-- The reference's Get. -/
theorem rget5_any (a b c : List UInt8) (w : World) (ha : a.length ≤ 9223372036854775807) (hb : b.length ≤ 9223372036854775807) (hc : c.length ≤ 9223372036854775807) :
    Calls Try.prog 21 #[.string ⟨a.toArray⟩, .string ⟨b.toArray⟩, .string ⟨c.toArray⟩] w fun e w' => e = headErr (He.get a b c) ∧ Lo w w' := by
  unfold He.get
  by_cases h : a.length < 54 ∨ b.length < 6 ∨ c.length < 36
  · rw [if_pos h]; exact rget5_more a b c w ha hb hc h
  · rw [if_neg h]
    have h1 : 54 ≤ a.length := by omega
    have h2 : 6 ≤ b.length := by omega
    have h3 : 36 ≤ c.length := by omega
    by_cases hm : He.fld a 12 4 = 1594834165
    · by_cases h0 : He.fld a 50 (-2) = 0
      · rw [if_neg (by rw [hm, h0]; simp)]
        have := rget5_read0 a b c w ha hb hc h1 h2 h3 hm h0
        unfold headTold at this
        unfold He.read
        rw [h0]
        exact this
      · by_cases h4 : He.fld a 50 (-2) = 1
        · rw [if_neg (by rw [hm, h4]; simp)]
          have := rget5_read1 a b c w ha hb hc h1 h2 h3 hm h4
          unfold headTold at this
          unfold He.read
          rw [h4]
          exact this
        · rw [if_pos (by omega)]
          exact rget5_form a b c w ha hb hc h1 h2 h3 (.inr ⟨hm, by omega⟩)
    · rw [if_pos (.inl hm)]
      exact rget5_form a b c w ha hb hc h1 h2 h3 (.inl hm)
end Go.Proofs.Ytbcilhdamjgoeaa
