/-
  Contracts of head's field and Get: what three tables tell. No conditions beyond those stated.
-/
import Derived.Test.YtbcilhdamjgoeaaHeIs
import Derived.Test.YtbcilhdamjgoeaaBnGet2
namespace He
theorem get_one (s : List UInt8) (pos : Nat) (size : Int) (hs : Bn.isSize size = true) (h : pos + size.natAbs ≤ s.length) : Bn.get s (pos : Int) [size] = ([fld s pos size], 0) := by
  unfold Bn.get
  rw [if_neg (by simp [Bn.allSizes, hs]), if_neg (by simp [Bn.many]; omega), Int.toNat_natCast]
  rfl
end He
namespace Go.Proofs.Ytbcilhdamjgoeaa
open Go.RowKit

set_option maxHeartbeats 800000 in
theorem field_any (s : List UInt8) (pos : Nat) (size : Int) (w : World) (hs : Bn.isSize size = true) (h : pos + size.natAbs ≤ s.length) (hl : s.length ≤ 9223372036854775807) :
    Calls Try.prog 51 #[.string ⟨s.toArray⟩, .int .i64 pos, .int .i64 size] w fun e w' => e = .returned (.int .i64 (He.fld s pos size)) ∧ Lo w w' := by
  have HG := Lib.hid (fun (W : World) (v : Value) (hr : Row W v [size]) => get_any s pos v [size] W hr (by simp) hl (by omega))
  rw [He.get_one s pos size hs h] at HG
  unfold GotRow at HG
  generalize He.fld s pos size = y at *
  clear hs h
  go_enter Try.func51, Try.ntmps51
  go_wp2_with fail
  refine (HG.out _ _ (row1 w _ rfl size)).mono ?_
  rintro e w1 ⟨p, c, rfl, hrow, lo⟩
  have HL := Lib.hid (((Lo.refl w).alloc _).trans lo)
  obtain ⟨b, off, rfl, hc⟩ := hrow.at_ (k := 0) (by simp)
  simp only [List.getD_cons_zero, Nat.add_zero] at hc
  clear lo hrow HG
  go_wp2_with fail
  go_ret
  exact ⟨rfl, HL.out⟩

/-- A head and an error, as they are told. -/
def headErr (a : He.Head × Int) : Ending := .returned (.tuple #[aggH a.1, .int .i64 a.2])
theorem Lo.set6 {a b : World} (h : Lo a b) {T : Nat} (hT : a.heap.size ≤ T) (v0 v1 v2 v3 v4 v5 : Value) : Lo a ((((((b.setCell ⟨T, 0, none⟩ v0).setCell ⟨T, 1, none⟩ v1).setCell ⟨T, 2, none⟩ v2).setCell ⟨T, 3, none⟩ v3).setCell ⟨T, 4, none⟩ v4).setCell ⟨T, 5, none⟩ v5) :=
  (((((h.set hT v0).set hT v1).set hT v2).set hT v3).set hT v4).set hT v5
def zeroCells : Array Value := #[.int .i64 0, .int .i64 0, .int .i64 0, .int .i64 0, .int .i64 0, .bool false]

set_option maxRecDepth 100000 in
set_option maxHeartbeats 1600000 in
theorem hget_more (a b c : List UInt8) (w : World) (ha : a.length ≤ 9223372036854775807) (hb : b.length ≤ 9223372036854775807) (hc : c.length ≤ 9223372036854775807) (h : a.length < 54 ∨ b.length < 6 ∨ c.length < 36) :
    Calls Try.prog 20 #[.string ⟨a.toArray⟩, .string ⟨b.toArray⟩, .string ⟨c.toArray⟩] w fun e w' => e = headErr (He.zero, 4) ∧ Lo w w' := by
  by_cases h1 : a.length < 54
  · go_enter Try.func20, Try.ntmps20
    go_wp2_with fail
    refine bodyPost_ret (v := .tuple #[aggH He.zero, .int .i64 4]) ?_ rfl ⟨rfl, ?_⟩
    · simp [results, Try.results20, go_sem, aggH, He.zero]
    · exact (Lo.refl w).alloc _
  · by_cases h2 : b.length < 6
    · go_enter Try.func20, Try.ntmps20
      go_wp2_with fail
      refine bodyPost_ret (v := .tuple #[aggH He.zero, .int .i64 4]) ?_ rfl ⟨rfl, ?_⟩
      · simp [results, Try.results20, go_sem, aggH, He.zero]
      · exact (Lo.refl w).alloc _
    · have h3 : c.length < 36 := by omega
      go_enter Try.func20, Try.ntmps20
      go_wp2_with fail
      refine bodyPost_ret (v := .tuple #[aggH He.zero, .int .i64 4]) ?_ rfl ⟨rfl, ?_⟩
      · simp [results, Try.results20, go_sem, aggH, He.zero]
      · exact (Lo.refl w).alloc _

set_option maxRecDepth 100000 in
set_option maxHeartbeats 1600000 in
theorem hget_magic (a b c : List UInt8) (w : World) (ha : a.length ≤ 9223372036854775807) (hb : b.length ≤ 9223372036854775807) (hc : c.length ≤ 9223372036854775807) (h1 : 54 ≤ a.length) (h2 : 6 ≤ b.length) (h3 : 36 ≤ c.length) (hm : He.fld a 12 4 ≠ 1594834165) :
    Calls Try.prog 20 #[.string ⟨a.toArray⟩, .string ⟨b.toArray⟩, .string ⟨c.toArray⟩] w fun e w' => e = headErr (He.zero, 5) ∧ Lo w w' := by
  have HA50 := Lib.hid (fun W => field_any a 50 (-2) W (by decide) (by omega) ha)
  have HA12 := Lib.hid (fun W => field_any a 12 4 W (by decide) (by omega) ha)
  generalize He.fld a 50 (-2) = f50 at *
  generalize He.fld a 12 4 = f12 at *
  have hb1 : (f12 != 1594834165) = true := by simpa using hm
  clear hm
  go_enter Try.func20, Try.ntmps20
  go_wp2_with fail
  generalize hW : World.alloc w _ = w0
  have HL : Hid (Lo w w0) := Lib.hid (by rw [← hW]; exact (Lo.refl w).alloc _)
  have HB : Hid (w0.heap[w.heap.size]? = some (.cells #[.int .i64 0, .int .i64 0, .int .i64 0, .int .i64 0, .int .i64 0, .bool false] 46 (0, 0))) := Lib.hid (by rw [← hW]; exact new_block w _)
  clear hW
  refine (HA50.out _).mono ?_
  rintro e w1 ⟨rfl, lo⟩
  have HL := Lib.hid (HL.out.trans lo)
  have HB := Lib.hid (lo_block lo HB.out)
  clear lo HA50
  go_wp2_with fail
  refine (HA12.out _).mono ?_
  rintro e w2 ⟨rfl, lo⟩
  have HL := Lib.hid (HL.out.trans lo)
  have HB := Lib.hid (lo_block lo HB.out)
  clear lo HA12
  obtain ⟨⟨r0, r1, r2, r3, r4, r5⟩, q0, q1, q2, q3, q4, q5⟩ := six_at HB.out
  go_wp2_with fail
  refine bodyPost_ret (v := .tuple #[aggH He.zero, .int .i64 5]) ?_ rfl ⟨rfl, ?_⟩
  · simp [results, Try.results20, go_sem, aggH, He.zero, r0, r1, r2, r3, r4, r5]
  · exact Lo.set6 HL.out (Nat.le_refl _) _ _ _ _ _ _

set_option maxRecDepth 100000 in
set_option maxHeartbeats 1600000 in
theorem hget_format (a b c : List UInt8) (w : World) (ha : a.length ≤ 9223372036854775807) (hb : b.length ≤ 9223372036854775807) (hc : c.length ≤ 9223372036854775807) (h1 : 54 ≤ a.length) (h2 : 6 ≤ b.length) (h3 : 36 ≤ c.length) (hm : He.fld a 12 4 = 1594834165) (hf : He.fld a 50 (-2) ≠ 0) (hf2 : He.fld a 50 (-2) ≠ 1) :
    Calls Try.prog 20 #[.string ⟨a.toArray⟩, .string ⟨b.toArray⟩, .string ⟨c.toArray⟩] w fun e w' => e = headErr (He.zero, 5) ∧ Lo w w' := by
  have HA50 := Lib.hid (fun W => field_any a 50 (-2) W (by decide) (by omega) ha)
  have HA12 := Lib.hid (fun W => field_any a 12 4 W (by decide) (by omega) ha)
  rw [hm] at HA12
  generalize He.fld a 50 (-2) = f50 at *
  have hb1 : (f50 != 0) = true := by simpa using hf
  have hb2 : (f50 != 1) = true := by simpa using hf2
  clear hm hf hf2
  go_enter Try.func20, Try.ntmps20
  go_wp2_with fail
  generalize hW : World.alloc w _ = w0
  have HL : Hid (Lo w w0) := Lib.hid (by rw [← hW]; exact (Lo.refl w).alloc _)
  have HB : Hid (w0.heap[w.heap.size]? = some (.cells #[.int .i64 0, .int .i64 0, .int .i64 0, .int .i64 0, .int .i64 0, .bool false] 46 (0, 0))) := Lib.hid (by rw [← hW]; exact new_block w _)
  clear hW
  refine (HA50.out _).mono ?_
  rintro e w1 ⟨rfl, lo⟩
  have HL := Lib.hid (HL.out.trans lo)
  have HB := Lib.hid (lo_block lo HB.out)
  clear lo HA50
  go_wp2_with fail
  refine (HA12.out _).mono ?_
  rintro e w2 ⟨rfl, lo⟩
  have HL := Lib.hid (HL.out.trans lo)
  have HB := Lib.hid (lo_block lo HB.out)
  clear lo HA12
  obtain ⟨⟨r0, r1, r2, r3, r4, r5⟩, q0, q1, q2, q3, q4, q5⟩ := six_at HB.out
  go_wp2_with fail
  refine bodyPost_ret (v := .tuple #[aggH He.zero, .int .i64 5]) ?_ rfl ⟨rfl, ?_⟩
  · simp [results, Try.results20, go_sem, aggH, He.zero, r0, r1, r2, r3, r4, r5]
  · exact Lo.set6 HL.out (Nat.le_refl _) _ _ _ _ _ _

/-- A head and its error, where the format is right. -/
def headTold (h : He.Head) : He.Head × Int := if He.isHead h = false then (He.zero, 5) else (h, 0)

set_option maxRecDepth 100000 in
set_option maxHeartbeats 3200000 in
theorem hget_read0 (a b c : List UInt8) (w : World) (ha : a.length ≤ 9223372036854775807) (hb : b.length ≤ 9223372036854775807) (hc : c.length ≤ 9223372036854775807) (h1 : 54 ≤ a.length) (h2 : 6 ≤ b.length) (h3 : 36 ≤ c.length) (hm : He.fld a 12 4 = 1594834165) (hf : He.fld a 50 (-2) = 0) :
    Calls Try.prog 20 #[.string ⟨a.toArray⟩, .string ⟨b.toArray⟩, .string ⟨c.toArray⟩] w fun e w' => e = headErr (headTold ⟨He.fld a 18 2, He.fld b 4 2, He.fld c 34 2, He.fld c 4 (-2), He.fld c 6 (-2), false⟩) ∧ Lo w w' := by
  have HA50 := Lib.hid (fun W => field_any a 50 (-2) W (by decide) (by omega) ha)
  have HA12 := Lib.hid (fun W => field_any a 12 4 W (by decide) (by omega) ha)
  rw [hm] at HA12
  rw [hf] at HA50
  have HA18 := Lib.hid (fun W => field_any a 18 2 W (by decide) (by omega) ha)
  have HB4 := Lib.hid (fun W => field_any b 4 2 W (by decide) (by omega) hb)
  have HC34 := Lib.hid (fun W => field_any c 34 2 W (by decide) (by omega) hc)
  have HC4 := Lib.hid (fun W => field_any c 4 (-2) W (by decide) (by omega) hc)
  have HC6 := Lib.hid (fun W => field_any c 6 (-2) W (by decide) (by omega) hc)
  have HI := Lib.hid (fun W => his_any ⟨He.fld a 18 2, He.fld b 4 2, He.fld c 34 2, He.fld c 4 (-2), He.fld c 6 (-2), false⟩ W)
  unfold headTold
  generalize He.fld a 18 2 = x0 at *
  generalize He.fld b 4 2 = x1 at *
  generalize He.fld c 34 2 = x2 at *
  generalize He.fld c 4 (-2) = x3 at *
  generalize He.fld c 6 (-2) = x4 at *
  unfold aggH at HI
  simp only at HI
  generalize hy : (if He.isHead ⟨x0, x1, x2, x3, x4, false⟩ = false then (He.zero, (5 : Int)) else (⟨x0, x1, x2, x3, x4, false⟩, 0)) = y
  have HY := Lib.hid hy
  clear hm hf hy
  go_enter Try.func20, Try.ntmps20
  go_wp2_with fail
  generalize hW : World.alloc w _ = w0
  have HL : Hid (Lo w w0) := Lib.hid (by rw [← hW]; exact (Lo.refl w).alloc _)
  have HB : Hid (w0.heap[w.heap.size]? = some (.cells #[.int .i64 0, .int .i64 0, .int .i64 0, .int .i64 0, .int .i64 0, .bool false] 46 (0, 0))) := Lib.hid (by rw [← hW]; exact new_block w _)
  clear hW
  refine (HA50.out _).mono ?_
  rintro e w1 ⟨rfl, lo⟩
  have HL := Lib.hid (HL.out.trans lo)
  have HB := Lib.hid (lo_block lo HB.out)
  clear lo HA50
  go_wp2_with fail
  refine (HA12.out _).mono ?_
  rintro e w2 ⟨rfl, lo⟩
  have HL := Lib.hid (HL.out.trans lo)
  have HB := Lib.hid (lo_block lo HB.out)
  clear lo HA12
  go_wp2_with fail
  refine (HA18.out _).mono ?_
  rintro e w3 ⟨rfl, lo⟩
  have HL := Lib.hid (HL.out.trans lo)
  have HB := Lib.hid (lo_block lo HB.out)
  clear lo HA18
  go_wp2_with fail
  refine (HB4.out _).mono ?_
  rintro e w4 ⟨rfl, lo⟩
  have HL := Lib.hid (HL.out.trans lo)
  have HB := Lib.hid (lo_block lo HB.out)
  clear lo HB4
  go_wp2_with fail
  refine (HC34.out _).mono ?_
  rintro e w5 ⟨rfl, lo⟩
  have HL := Lib.hid (HL.out.trans lo)
  have HB := Lib.hid (lo_block lo HB.out)
  clear lo HC34
  go_wp2_with fail
  refine (HC4.out _).mono ?_
  rintro e w6 ⟨rfl, lo⟩
  have HL := Lib.hid (HL.out.trans lo)
  have HB := Lib.hid (lo_block lo HB.out)
  clear lo HC4
  go_wp2_with fail
  refine (HC6.out _).mono ?_
  rintro e w7 ⟨rfl, lo⟩
  have HL := Lib.hid (HL.out.trans lo)
  have HB := Lib.hid (lo_block lo HB.out)
  clear lo HC6
  go_wp2_with fail
  generalize hW : World.alloc w7 _ = w8
  have lo : Lo w7 w8 := by rw [← hW]; exact (Lo.refl w7).alloc _
  have HH : Hid (w8.heap[w7.heap.size]? = some (.cells #[.int .i64 x0, .int .i64 x1, .int .i64 x2, .int .i64 x3, .int .i64 x4, .bool false] 46 (0, 0))) := Lib.hid (by rw [← hW]; exact new_block w7 _)
  have HL := Lib.hid (HL.out.trans lo)
  have HB := Lib.hid (lo_block lo HB.out)
  clear lo hW
  refine (HI.out _).mono ?_
  rintro e w9 ⟨rfl, lo⟩
  have HL := Lib.hid (HL.out.trans lo)
  have HB := Lib.hid (lo_block lo HB.out)
  have HH := Lib.hid (lo_block lo HH.out)
  clear lo HI
  obtain ⟨⟨r0, r1, r2, r3, r4, r5⟩, q0, q1, q2, q3, q4, q5⟩ := six_at HB.out
  obtain ⟨⟨s0, s1, s2, s3, s4, s5⟩, _⟩ := six_at HH.out
  cases hi : He.isHead ⟨x0, x1, x2, x3, x4, false⟩ with
  | false =>
    have HE : Hid (y = (He.zero, 5)) := Lib.hid (by rw [← HY.out, if_pos hi])
    clear hi
    go_wp2_with fail
    refine bodyPost_ret (v := .tuple #[aggH He.zero, .int .i64 5]) ?_ rfl ⟨by rw [HE.out]; rfl, ?_⟩
    · simp [results, Try.results20, go_sem, aggH, He.zero, r0, r1, r2, r3, r4, r5]
    · exact Lo.set6 HL.out (Nat.le_refl _) _ _ _ _ _ _
  | true =>
    have HE : Hid (y = (⟨x0, x1, x2, x3, x4, false⟩, 0)) := Lib.hid (by rw [← HY.out, if_neg (by rw [hi]; simp)])
    clear hi
    go_wp2_with fail
    refine bodyPost_ret (v := .tuple #[aggH ⟨x0, x1, x2, x3, x4, false⟩, .int .i64 0]) ?_ rfl ⟨by rw [HE.out]; rfl, ?_⟩
    · simp [results, Try.results20, go_sem, aggH, r0, r1, r2, r3, r4, r5]
    · exact Lo.set6 HL.out (Nat.le_refl _) _ _ _ _ _ _

set_option maxRecDepth 100000 in
set_option maxHeartbeats 3200000 in
theorem hget_read1 (a b c : List UInt8) (w : World) (ha : a.length ≤ 9223372036854775807) (hb : b.length ≤ 9223372036854775807) (hc : c.length ≤ 9223372036854775807) (h1 : 54 ≤ a.length) (h2 : 6 ≤ b.length) (h3 : 36 ≤ c.length) (hm : He.fld a 12 4 = 1594834165) (hf : He.fld a 50 (-2) = 1) :
    Calls Try.prog 20 #[.string ⟨a.toArray⟩, .string ⟨b.toArray⟩, .string ⟨c.toArray⟩] w fun e w' => e = headErr (headTold ⟨He.fld a 18 2, He.fld b 4 2, He.fld c 34 2, He.fld c 4 (-2), He.fld c 6 (-2), true⟩) ∧ Lo w w' := by
  have HA50 := Lib.hid (fun W => field_any a 50 (-2) W (by decide) (by omega) ha)
  have HA12 := Lib.hid (fun W => field_any a 12 4 W (by decide) (by omega) ha)
  rw [hm] at HA12
  rw [hf] at HA50
  have HA18 := Lib.hid (fun W => field_any a 18 2 W (by decide) (by omega) ha)
  have HB4 := Lib.hid (fun W => field_any b 4 2 W (by decide) (by omega) hb)
  have HC34 := Lib.hid (fun W => field_any c 34 2 W (by decide) (by omega) hc)
  have HC4 := Lib.hid (fun W => field_any c 4 (-2) W (by decide) (by omega) hc)
  have HC6 := Lib.hid (fun W => field_any c 6 (-2) W (by decide) (by omega) hc)
  have HI := Lib.hid (fun W => his_any ⟨He.fld a 18 2, He.fld b 4 2, He.fld c 34 2, He.fld c 4 (-2), He.fld c 6 (-2), true⟩ W)
  unfold headTold
  generalize He.fld a 18 2 = x0 at *
  generalize He.fld b 4 2 = x1 at *
  generalize He.fld c 34 2 = x2 at *
  generalize He.fld c 4 (-2) = x3 at *
  generalize He.fld c 6 (-2) = x4 at *
  unfold aggH at HI
  simp only at HI
  generalize hy : (if He.isHead ⟨x0, x1, x2, x3, x4, true⟩ = false then (He.zero, (5 : Int)) else (⟨x0, x1, x2, x3, x4, true⟩, 0)) = y
  have HY := Lib.hid hy
  clear hm hf hy
  go_enter Try.func20, Try.ntmps20
  go_wp2_with fail
  generalize hW : World.alloc w _ = w0
  have HL : Hid (Lo w w0) := Lib.hid (by rw [← hW]; exact (Lo.refl w).alloc _)
  have HB : Hid (w0.heap[w.heap.size]? = some (.cells #[.int .i64 0, .int .i64 0, .int .i64 0, .int .i64 0, .int .i64 0, .bool false] 46 (0, 0))) := Lib.hid (by rw [← hW]; exact new_block w _)
  clear hW
  refine (HA50.out _).mono ?_
  rintro e w1 ⟨rfl, lo⟩
  have HL := Lib.hid (HL.out.trans lo)
  have HB := Lib.hid (lo_block lo HB.out)
  clear lo HA50
  go_wp2_with fail
  refine (HA12.out _).mono ?_
  rintro e w2 ⟨rfl, lo⟩
  have HL := Lib.hid (HL.out.trans lo)
  have HB := Lib.hid (lo_block lo HB.out)
  clear lo HA12
  go_wp2_with fail
  refine (HA18.out _).mono ?_
  rintro e w3 ⟨rfl, lo⟩
  have HL := Lib.hid (HL.out.trans lo)
  have HB := Lib.hid (lo_block lo HB.out)
  clear lo HA18
  go_wp2_with fail
  refine (HB4.out _).mono ?_
  rintro e w4 ⟨rfl, lo⟩
  have HL := Lib.hid (HL.out.trans lo)
  have HB := Lib.hid (lo_block lo HB.out)
  clear lo HB4
  go_wp2_with fail
  refine (HC34.out _).mono ?_
  rintro e w5 ⟨rfl, lo⟩
  have HL := Lib.hid (HL.out.trans lo)
  have HB := Lib.hid (lo_block lo HB.out)
  clear lo HC34
  go_wp2_with fail
  refine (HC4.out _).mono ?_
  rintro e w6 ⟨rfl, lo⟩
  have HL := Lib.hid (HL.out.trans lo)
  have HB := Lib.hid (lo_block lo HB.out)
  clear lo HC4
  go_wp2_with fail
  refine (HC6.out _).mono ?_
  rintro e w7 ⟨rfl, lo⟩
  have HL := Lib.hid (HL.out.trans lo)
  have HB := Lib.hid (lo_block lo HB.out)
  clear lo HC6
  go_wp2_with fail
  generalize hW : World.alloc w7 _ = w8
  have lo : Lo w7 w8 := by rw [← hW]; exact (Lo.refl w7).alloc _
  have HH : Hid (w8.heap[w7.heap.size]? = some (.cells #[.int .i64 x0, .int .i64 x1, .int .i64 x2, .int .i64 x3, .int .i64 x4, .bool true] 46 (0, 0))) := Lib.hid (by rw [← hW]; exact new_block w7 _)
  have HL := Lib.hid (HL.out.trans lo)
  have HB := Lib.hid (lo_block lo HB.out)
  clear lo hW
  refine (HI.out _).mono ?_
  rintro e w9 ⟨rfl, lo⟩
  have HL := Lib.hid (HL.out.trans lo)
  have HB := Lib.hid (lo_block lo HB.out)
  have HH := Lib.hid (lo_block lo HH.out)
  clear lo HI
  obtain ⟨⟨r0, r1, r2, r3, r4, r5⟩, q0, q1, q2, q3, q4, q5⟩ := six_at HB.out
  obtain ⟨⟨s0, s1, s2, s3, s4, s5⟩, _⟩ := six_at HH.out
  cases hi : He.isHead ⟨x0, x1, x2, x3, x4, true⟩ with
  | false =>
    have HE : Hid (y = (He.zero, 5)) := Lib.hid (by rw [← HY.out, if_pos hi])
    clear hi
    go_wp2_with fail
    refine bodyPost_ret (v := .tuple #[aggH He.zero, .int .i64 5]) ?_ rfl ⟨by rw [HE.out]; rfl, ?_⟩
    · simp [results, Try.results20, go_sem, aggH, He.zero, r0, r1, r2, r3, r4, r5]
    · exact Lo.set6 HL.out (Nat.le_refl _) _ _ _ _ _ _
  | true =>
    have HE : Hid (y = (⟨x0, x1, x2, x3, x4, true⟩, 0)) := Lib.hid (by rw [← HY.out, if_neg (by rw [hi]; simp)])
    clear hi
    go_wp2_with fail
    refine bodyPost_ret (v := .tuple #[aggH ⟨x0, x1, x2, x3, x4, true⟩, .int .i64 0]) ?_ rfl ⟨by rw [HE.out]; rfl, ?_⟩
    · simp [results, Try.results20, go_sem, aggH, r0, r1, r2, r3, r4, r5]
    · exact Lo.set6 HL.out (Nat.le_refl _) _ _ _ _ _ _

/-- head.Get. -/
theorem hget_any (a b c : List UInt8) (w : World) (ha : a.length ≤ 9223372036854775807) (hb : b.length ≤ 9223372036854775807) (hc : c.length ≤ 9223372036854775807) :
    Calls Try.prog 20 #[.string ⟨a.toArray⟩, .string ⟨b.toArray⟩, .string ⟨c.toArray⟩] w fun e w' => e = headErr (He.get a b c) ∧ Lo w w' := by
  unfold He.get
  by_cases h : a.length < 54 ∨ b.length < 6 ∨ c.length < 36
  · rw [if_pos h]; exact hget_more a b c w ha hb hc h
  · rw [if_neg h]
    have h1 : 54 ≤ a.length := by omega
    have h2 : 6 ≤ b.length := by omega
    have h3 : 36 ≤ c.length := by omega
    by_cases hm : He.fld a 12 4 = 1594834165
    · by_cases h0 : He.fld a 50 (-2) = 0
      · rw [if_neg (by rw [hm, h0]; simp)]
        have := hget_read0 a b c w ha hb hc h1 h2 h3 hm h0
        unfold headTold at this
        unfold He.read
        rw [h0]
        exact this
      · by_cases h4 : He.fld a 50 (-2) = 1
        · rw [if_neg (by rw [hm, h4]; simp)]
          have := hget_read1 a b c w ha hb hc h1 h2 h3 hm h4
          unfold headTold at this
          unfold He.read
          rw [h4]
          exact this
        · rw [if_pos (by omega)]
          exact hget_format a b c w ha hb hc h1 h2 h3 hm h0 h4
    · rw [if_pos (.inl hm)]
      exact hget_magic a b c w ha hb hc h1 h2 h3 hm
end Go.Proofs.Ytbcilhdamjgoeaa
