/-
  Contracts of head's fillHead, fillMaxp and fillHhea: the fields of a right head are written. No conditions beyond those stated.
-/
import Derived.Test.YtbcilhdamjgoeaaHePut
namespace He
theorem over_mid {l a m b x : List UInt8} {pos : Nat} (h : l = a ++ m ++ b) (hp : a.length = pos) (hm : m.length = x.length) : over l pos x = a ++ x ++ b := by
  subst hp
  unfold over
  rw [h, show a ++ m ++ b = a ++ (m ++ b) from List.append_assoc _ _ _, List.take_left, ← hm, List.drop_append, List.drop_eq_nil_of_le (by omega), List.nil_append, show a.length + m.length - a.length = m.length by omega, List.drop_left]
theorem nts_add (m n : Nat) : nts (m + n) = nts m ++ nts n := by unfold nts; rw [List.replicate_append_replicate]
def fillA (l : List UInt8) (h : Head) : List UInt8 := over (over (over l 12 (Bn.bytes 1594834165 4)) 18 (Bn.bytes h.upem 2)) 50 (Bn.bytes (longN h) 2)
def fillB (l : List UInt8) (h : Head) : List UInt8 := over l 4 (Bn.bytes h.glyphs 2)
def fillC (l : List UInt8) (h : Head) : List UInt8 := over (over (over l 4 (Bn.bytes h.asc 2)) 6 (Bn.bytes h.desc 2)) 34 (Bn.bytes h.metrics 2)
theorem fillA_eq (h : Head) : fillA (nts 54) h = putA h := by
  unfold fillA putA
  have e1 : over (nts 54) 12 (Bn.bytes 1594834165 4) = nts 12 ++ Bn.bytes 1594834165 4 ++ nts 38 := over_mid (m := nts 4) (by rw [← nts_add, ← nts_add]) (nts_len _) (by rw [nts_len, Bn.bytes_len])
  rw [e1]
  have e2 : over (nts 12 ++ Bn.bytes 1594834165 4 ++ nts 38) 18 (Bn.bytes h.upem 2) = (nts 12 ++ Bn.bytes 1594834165 4 ++ nts 2) ++ Bn.bytes h.upem 2 ++ nts 34 := over_mid (m := nts 2) (by rw [show (38 : Nat) = 2 + (2 + 34) from rfl, nts_add, nts_add]; simp only [List.append_assoc]) (by simp [nts_len, Bn.bytes_len]) (by rw [nts_len, Bn.bytes_len])
  rw [e2]
  have e3 : over ((nts 12 ++ Bn.bytes 1594834165 4 ++ nts 2) ++ Bn.bytes h.upem 2 ++ nts 34) 50 (Bn.bytes (longN h) 2) = ((nts 12 ++ Bn.bytes 1594834165 4 ++ nts 2) ++ Bn.bytes h.upem 2 ++ nts 30) ++ Bn.bytes (longN h) 2 ++ nts 2 := over_mid (m := nts 2) (by rw [show (34 : Nat) = 30 + (2 + 2) from rfl, nts_add, nts_add]; simp only [List.append_assoc]) (by simp [nts_len, Bn.bytes_len]) (by rw [nts_len, Bn.bytes_len])
  rw [e3]
theorem fillB_eq (h : Head) : fillB (nts 6) h = putB h := by
  unfold fillB putB
  rw [over_mid (a := nts 4) (m := nts 2) (b := []) (by rw [List.append_nil, ← nts_add]) (nts_len _) (by rw [nts_len, Bn.bytes_len]), List.append_nil]
theorem fillC_eq (h : Head) : fillC (nts 36) h = putC h := by
  unfold fillC putC
  have e1 : over (nts 36) 4 (Bn.bytes h.asc 2) = nts 4 ++ Bn.bytes h.asc 2 ++ nts 30 := over_mid (m := nts 2) (by rw [← nts_add, ← nts_add]) (nts_len _) (by rw [nts_len, Bn.bytes_len])
  rw [e1]
  have e2 : over (nts 4 ++ Bn.bytes h.asc 2 ++ nts 30) 6 (Bn.bytes h.desc 2) = (nts 4 ++ Bn.bytes h.asc 2) ++ Bn.bytes h.desc 2 ++ nts 28 := over_mid (m := nts 2) (by rw [show (30 : Nat) = 2 + 28 from rfl, nts_add]; simp only [List.append_assoc]) (by simp [nts_len, Bn.bytes_len]) (by rw [nts_len, Bn.bytes_len])
  rw [e2]
  have e3 : over ((nts 4 ++ Bn.bytes h.asc 2) ++ Bn.bytes h.desc 2 ++ nts 28) 34 (Bn.bytes h.metrics 2) = ((nts 4 ++ Bn.bytes h.asc 2) ++ Bn.bytes h.desc 2 ++ nts 26) ++ Bn.bytes h.metrics 2 ++ [] := over_mid (m := nts 2) (by rw [show (28 : Nat) = 26 + 2 from rfl, nts_add]; simp only [List.append_assoc, List.append_nil]) (by simp [nts_len, Bn.bytes_len]) (by rw [nts_len, Bn.bytes_len])
  rw [e3, List.append_nil]
end He
namespace Go.Proofs.Ytbcilhdamjgoeaa
open Go.RowKit

theorem Buf.lo {w w' : World} {B : Nat} {l : List UInt8} (h : Buf w B l) (k : Lo w w') : Buf w' B l := lo_block k h
theorem Buf.kept {w w' : World} {B T : Nat} {l : List UInt8} (h : Buf w T l) (k : Kept B w w') (hne : T ≠ B) : Buf w' T l := k.block h hne
theorem Buf.lt {w : World} {B : Nat} {l : List UInt8} (h : Buf w B l) : B < w.heap.size := by
  rcases Nat.lt_or_ge B w.heap.size with hlt | hge
  · exact hlt
  · unfold Buf at h; rw [Array.getElem?_eq_none hge] at h; cases h

set_option maxRecDepth 100000 in
set_option maxHeartbeats 1600000 in
theorem fillHead_long (h : He.Head) (B : Nat) (l : List UInt8) (w : World) (hB : Buf w B l) (hn : l.length = 54) (hh : He.isHead h = true) (hlg : h.long = true) :
    Calls Try.prog 53 #[.func (.func 54) #[.slice (some ⟨B, 0, none⟩) 54 54] #[], aggH h] w fun e w' => e = .returned (.tuple #[]) ∧ Buf w' B (He.fillA l h) ∧ Kept B w w' := by
  have hr := (He.isHead_iff h).1 hh
  have hln : He.longN h = 1 := by unfold He.longN; rw [hlg]; rfl
  have hl1 : (He.over l 12 (Bn.bytes 1594834165 4)).length = 54 := by rw [He.over_len _ _ _ (by rw [Bn.bytes_len, hn]; decide)]; exact hn
  have HP0 := Lib.hid (fun (W : World) (hb : Buf W B l) => tput_any l B 54 12 4 1594834165 W hb hn (by decide) (by decide) (by decide))
  rw [show Int.natAbs 4 = 4 from rfl] at HP0
  have hl2 : (He.over (He.over l 12 (Bn.bytes 1594834165 4)) 18 (Bn.bytes h.upem 2)).length = 54 := by rw [He.over_len _ _ _ (by rw [Bn.bytes_len, hl1]; decide)]; exact hl1
  have HP1 := Lib.hid (fun (W : World) (hb : Buf W B (He.over l 12 (Bn.bytes 1594834165 4))) => tput_any (He.over l 12 (Bn.bytes 1594834165 4)) B 54 18 2 h.upem W hb hl1 (by decide) (He.fits2 (by omega) (by omega)) (by decide))
  rw [show Int.natAbs 2 = 2 from rfl] at HP1
  have hl3 : (He.over (He.over (He.over l 12 (Bn.bytes 1594834165 4)) 18 (Bn.bytes h.upem 2)) 50 (Bn.bytes 1 2)).length = 54 := by rw [He.over_len _ _ _ (by rw [Bn.bytes_len, hl2]; decide)]; exact hl2
  have HP2 := Lib.hid (fun (W : World) (hb : Buf W B (He.over (He.over l 12 (Bn.bytes 1594834165 4)) 18 (Bn.bytes h.upem 2))) => tput_any (He.over (He.over l 12 (Bn.bytes 1594834165 4)) 18 (Bn.bytes h.upem 2)) B 54 50 (-2) 1 W hb hl2 (by decide) (by decide) (by decide))
  rw [show Int.natAbs (-2) = 2 from rfl] at HP2
  unfold He.fillA aggH
  rw [hln, hlg]
  have HB := Lib.hid hB
  have hBw := hB.lt
  generalize He.over l 12 (Bn.bytes 1594834165 4) = l1 at *
  generalize He.over l1 18 (Bn.bytes h.upem 2) = l2 at *
  generalize He.over l2 50 (Bn.bytes 1 2) = l3 at *
  generalize h.upem = x0 at *
  generalize h.glyphs = x1 at *
  generalize h.metrics = x2 at *
  generalize h.asc = x3 at *
  generalize h.desc = x4 at *
  clear hB hr hh hln hlg
  go_enter Try.func53, Try.ntmps53
  go_wp2_with fail
  generalize hW : World.alloc w _ = w0
  have HK : Hid (Kept B w w0) := Lib.hid (by rw [← hW]; exact Kept.of_lo ((Lo.refl w).alloc _))
  have HT : Hid (w0.heap[w.heap.size]? = some (.cells #[.int .i64 x0, .int .i64 x1, .int .i64 x2, .int .i64 x3, .int .i64 x4, .bool true] 46 (0, 0))) := Lib.hid (by rw [← hW]; exact new_block w _)
  have HB := Lib.hid (HB.out.lo (w' := w0) (by rw [← hW]; exact (Lo.refl w).alloc _))
  clear hW
  refine (HP0.out _ HB.out).mono ?_
  rintro e w1 ⟨rfl, hb, hk⟩
  have HB := Lib.hid hb
  have HK := Lib.hid (HK.out.trans hk)
  have HT := Lib.hid (hk.block HT.out (by omega))
  clear hb hk HP0
  obtain ⟨⟨r0, r1, r2, r3, r4, r5⟩, _⟩ := six_at HT.out
  go_wp2_with fail
  clear r0 r1 r2 r3 r4 r5
  refine (HP1.out _ HB.out).mono ?_
  rintro e w2 ⟨rfl, hb, hk⟩
  have HB := Lib.hid hb
  have HK := Lib.hid (HK.out.trans hk)
  have HT := Lib.hid (hk.block HT.out (by omega))
  clear hb hk HP1
  obtain ⟨⟨r0, r1, r2, r3, r4, r5⟩, _⟩ := six_at HT.out
  go_wp2_with fail
  clear r0 r1 r2 r3 r4 r5
  refine (HP2.out _ HB.out).mono ?_
  rintro e w3 ⟨rfl, hb, hk⟩
  have HB := Lib.hid hb
  have HK := Lib.hid (HK.out.trans hk)
  have HT := Lib.hid (hk.block HT.out (by omega))
  clear hb hk HP2
  obtain ⟨⟨r0, r1, r2, r3, r4, r5⟩, _⟩ := six_at HT.out
  go_wp2_with fail
  go_end0
  exact ⟨rfl, HB.out, HK.out⟩

set_option maxRecDepth 100000 in
set_option maxHeartbeats 1600000 in
theorem fillHead_short (h : He.Head) (B : Nat) (l : List UInt8) (w : World) (hB : Buf w B l) (hn : l.length = 54) (hh : He.isHead h = true) (hlg : h.long = false) :
    Calls Try.prog 53 #[.func (.func 54) #[.slice (some ⟨B, 0, none⟩) 54 54] #[], aggH h] w fun e w' => e = .returned (.tuple #[]) ∧ Buf w' B (He.fillA l h) ∧ Kept B w w' := by
  have hr := (He.isHead_iff h).1 hh
  have hln : He.longN h = 0 := by unfold He.longN; rw [hlg]; rfl
  have hl1 : (He.over l 12 (Bn.bytes 1594834165 4)).length = 54 := by rw [He.over_len _ _ _ (by rw [Bn.bytes_len, hn]; decide)]; exact hn
  have HP0 := Lib.hid (fun (W : World) (hb : Buf W B l) => tput_any l B 54 12 4 1594834165 W hb hn (by decide) (by decide) (by decide))
  rw [show Int.natAbs 4 = 4 from rfl] at HP0
  have hl2 : (He.over (He.over l 12 (Bn.bytes 1594834165 4)) 18 (Bn.bytes h.upem 2)).length = 54 := by rw [He.over_len _ _ _ (by rw [Bn.bytes_len, hl1]; decide)]; exact hl1
  have HP1 := Lib.hid (fun (W : World) (hb : Buf W B (He.over l 12 (Bn.bytes 1594834165 4))) => tput_any (He.over l 12 (Bn.bytes 1594834165 4)) B 54 18 2 h.upem W hb hl1 (by decide) (He.fits2 (by omega) (by omega)) (by decide))
  rw [show Int.natAbs 2 = 2 from rfl] at HP1
  have hl3 : (He.over (He.over (He.over l 12 (Bn.bytes 1594834165 4)) 18 (Bn.bytes h.upem 2)) 50 (Bn.bytes 0 2)).length = 54 := by rw [He.over_len _ _ _ (by rw [Bn.bytes_len, hl2]; decide)]; exact hl2
  have HP2 := Lib.hid (fun (W : World) (hb : Buf W B (He.over (He.over l 12 (Bn.bytes 1594834165 4)) 18 (Bn.bytes h.upem 2))) => tput_any (He.over (He.over l 12 (Bn.bytes 1594834165 4)) 18 (Bn.bytes h.upem 2)) B 54 50 (-2) 0 W hb hl2 (by decide) (by decide) (by decide))
  rw [show Int.natAbs (-2) = 2 from rfl] at HP2
  unfold He.fillA aggH
  rw [hln, hlg]
  have HB := Lib.hid hB
  have hBw := hB.lt
  generalize He.over l 12 (Bn.bytes 1594834165 4) = l1 at *
  generalize He.over l1 18 (Bn.bytes h.upem 2) = l2 at *
  generalize He.over l2 50 (Bn.bytes 0 2) = l3 at *
  generalize h.upem = x0 at *
  generalize h.glyphs = x1 at *
  generalize h.metrics = x2 at *
  generalize h.asc = x3 at *
  generalize h.desc = x4 at *
  clear hB hr hh hln hlg
  go_enter Try.func53, Try.ntmps53
  go_wp2_with fail
  generalize hW : World.alloc w _ = w0
  have HK : Hid (Kept B w w0) := Lib.hid (by rw [← hW]; exact Kept.of_lo ((Lo.refl w).alloc _))
  have HT : Hid (w0.heap[w.heap.size]? = some (.cells #[.int .i64 x0, .int .i64 x1, .int .i64 x2, .int .i64 x3, .int .i64 x4, .bool false] 46 (0, 0))) := Lib.hid (by rw [← hW]; exact new_block w _)
  have HB := Lib.hid (HB.out.lo (w' := w0) (by rw [← hW]; exact (Lo.refl w).alloc _))
  clear hW
  refine (HP0.out _ HB.out).mono ?_
  rintro e w1 ⟨rfl, hb, hk⟩
  have HB := Lib.hid hb
  have HK := Lib.hid (HK.out.trans hk)
  have HT := Lib.hid (hk.block HT.out (by omega))
  clear hb hk HP0
  obtain ⟨⟨r0, r1, r2, r3, r4, r5⟩, _⟩ := six_at HT.out
  go_wp2_with fail
  clear r0 r1 r2 r3 r4 r5
  refine (HP1.out _ HB.out).mono ?_
  rintro e w2 ⟨rfl, hb, hk⟩
  have HB := Lib.hid hb
  have HK := Lib.hid (HK.out.trans hk)
  have HT := Lib.hid (hk.block HT.out (by omega))
  clear hb hk HP1
  obtain ⟨⟨r0, r1, r2, r3, r4, r5⟩, _⟩ := six_at HT.out
  go_wp2_with fail
  clear r0 r1 r2 r3 r4 r5
  refine (HP2.out _ HB.out).mono ?_
  rintro e w3 ⟨rfl, hb, hk⟩
  have HB := Lib.hid hb
  have HK := Lib.hid (HK.out.trans hk)
  have HT := Lib.hid (hk.block HT.out (by omega))
  clear hb hk HP2
  obtain ⟨⟨r0, r1, r2, r3, r4, r5⟩, _⟩ := six_at HT.out
  go_wp2_with fail
  go_end0
  exact ⟨rfl, HB.out, HK.out⟩

theorem fillHead_any (h : He.Head) (B : Nat) (l : List UInt8) (w : World) (hB : Buf w B l) (hn : l.length = 54) (hh : He.isHead h = true) :
    Calls Try.prog 53 #[.func (.func 54) #[.slice (some ⟨B, 0, none⟩) 54 54] #[], aggH h] w fun e w' => e = .returned (.tuple #[]) ∧ Buf w' B (He.fillA l h) ∧ Kept B w w' := by
  cases hl : h.long with
  | true => exact fillHead_long h B l w hB hn hh hl
  | false => exact fillHead_short h B l w hB hn hh hl
set_option maxRecDepth 100000 in
set_option maxHeartbeats 1600000 in
theorem fillMaxp_any (h : He.Head) (B : Nat) (l : List UInt8) (w : World) (hB : Buf w B l) (hn : l.length = 6) (hh : He.isHead h = true) :
    Calls Try.prog 55 #[.func (.func 54) #[.slice (some ⟨B, 0, none⟩) 6 6] #[], aggH h] w fun e w' => e = .returned (.tuple #[]) ∧ Buf w' B (He.fillB l h) ∧ Kept B w w' := by
  have hr := (He.isHead_iff h).1 hh
  have hl1 : (He.over l 4 (Bn.bytes h.glyphs 2)).length = 6 := by rw [He.over_len _ _ _ (by rw [Bn.bytes_len, hn]; decide)]; exact hn
  have HP0 := Lib.hid (fun (W : World) (hb : Buf W B l) => tput_any l B 6 4 2 h.glyphs W hb hn (by decide) (He.fits2 (by omega) (by omega)) (by decide))
  rw [show Int.natAbs 2 = 2 from rfl] at HP0
  unfold He.fillB aggH
  have HB := Lib.hid hB
  have hBw := hB.lt
  generalize He.over l 4 (Bn.bytes h.glyphs 2) = l1 at *
  generalize h.upem = x0 at *
  generalize h.glyphs = x1 at *
  generalize h.metrics = x2 at *
  generalize h.asc = x3 at *
  generalize h.desc = x4 at *
  generalize h.long = x5 at *
  clear hB hr hh
  go_enter Try.func55, Try.ntmps55
  go_wp2_with fail
  generalize hW : World.alloc w _ = w0
  have HK : Hid (Kept B w w0) := Lib.hid (by rw [← hW]; exact Kept.of_lo ((Lo.refl w).alloc _))
  have HT : Hid (w0.heap[w.heap.size]? = some (.cells #[.int .i64 x0, .int .i64 x1, .int .i64 x2, .int .i64 x3, .int .i64 x4, .bool x5] 46 (0, 0))) := Lib.hid (by rw [← hW]; exact new_block w _)
  have HB := Lib.hid (HB.out.lo (w' := w0) (by rw [← hW]; exact (Lo.refl w).alloc _))
  clear hW
  refine (HP0.out _ HB.out).mono ?_
  rintro e w1 ⟨rfl, hb, hk⟩
  have HB := Lib.hid hb
  have HK := Lib.hid (HK.out.trans hk)
  have HT := Lib.hid (hk.block HT.out (by omega))
  clear hb hk HP0
  obtain ⟨⟨r0, r1, r2, r3, r4, r5⟩, _⟩ := six_at HT.out
  go_wp2_with fail
  go_end0
  exact ⟨rfl, HB.out, HK.out⟩

set_option maxRecDepth 100000 in
set_option maxHeartbeats 1600000 in
theorem fillHhea_any (h : He.Head) (B : Nat) (l : List UInt8) (w : World) (hB : Buf w B l) (hn : l.length = 36) (hh : He.isHead h = true) :
    Calls Try.prog 56 #[.func (.func 54) #[.slice (some ⟨B, 0, none⟩) 36 36] #[], aggH h] w fun e w' => e = .returned (.tuple #[]) ∧ Buf w' B (He.fillC l h) ∧ Kept B w w' := by
  have hr := (He.isHead_iff h).1 hh
  have hl1 : (He.over l 4 (Bn.bytes h.asc 2)).length = 36 := by rw [He.over_len _ _ _ (by rw [Bn.bytes_len, hn]; decide)]; exact hn
  have HP0 := Lib.hid (fun (W : World) (hb : Buf W B l) => tput_any l B 36 4 (-2) h.asc W hb hn (by decide) (He.fits2s (by omega) (by omega)) (by decide))
  rw [show Int.natAbs (-2) = 2 from rfl] at HP0
  have hl2 : (He.over (He.over l 4 (Bn.bytes h.asc 2)) 6 (Bn.bytes h.desc 2)).length = 36 := by rw [He.over_len _ _ _ (by rw [Bn.bytes_len, hl1]; decide)]; exact hl1
  have HP1 := Lib.hid (fun (W : World) (hb : Buf W B (He.over l 4 (Bn.bytes h.asc 2))) => tput_any (He.over l 4 (Bn.bytes h.asc 2)) B 36 6 (-2) h.desc W hb hl1 (by decide) (He.fits2s (by omega) (by omega)) (by decide))
  rw [show Int.natAbs (-2) = 2 from rfl] at HP1
  have hl3 : (He.over (He.over (He.over l 4 (Bn.bytes h.asc 2)) 6 (Bn.bytes h.desc 2)) 34 (Bn.bytes h.metrics 2)).length = 36 := by rw [He.over_len _ _ _ (by rw [Bn.bytes_len, hl2]; decide)]; exact hl2
  have HP2 := Lib.hid (fun (W : World) (hb : Buf W B (He.over (He.over l 4 (Bn.bytes h.asc 2)) 6 (Bn.bytes h.desc 2))) => tput_any (He.over (He.over l 4 (Bn.bytes h.asc 2)) 6 (Bn.bytes h.desc 2)) B 36 34 2 h.metrics W hb hl2 (by decide) (He.fits2 (by omega) (by omega)) (by decide))
  rw [show Int.natAbs 2 = 2 from rfl] at HP2
  unfold He.fillC aggH
  have HB := Lib.hid hB
  have hBw := hB.lt
  generalize He.over l 4 (Bn.bytes h.asc 2) = l1 at *
  generalize He.over l1 6 (Bn.bytes h.desc 2) = l2 at *
  generalize He.over l2 34 (Bn.bytes h.metrics 2) = l3 at *
  generalize h.upem = x0 at *
  generalize h.glyphs = x1 at *
  generalize h.metrics = x2 at *
  generalize h.asc = x3 at *
  generalize h.desc = x4 at *
  generalize h.long = x5 at *
  clear hB hr hh
  go_enter Try.func56, Try.ntmps56
  go_wp2_with fail
  generalize hW : World.alloc w _ = w0
  have HK : Hid (Kept B w w0) := Lib.hid (by rw [← hW]; exact Kept.of_lo ((Lo.refl w).alloc _))
  have HT : Hid (w0.heap[w.heap.size]? = some (.cells #[.int .i64 x0, .int .i64 x1, .int .i64 x2, .int .i64 x3, .int .i64 x4, .bool x5] 46 (0, 0))) := Lib.hid (by rw [← hW]; exact new_block w _)
  have HB := Lib.hid (HB.out.lo (w' := w0) (by rw [← hW]; exact (Lo.refl w).alloc _))
  clear hW
  refine (HP0.out _ HB.out).mono ?_
  rintro e w1 ⟨rfl, hb, hk⟩
  have HB := Lib.hid hb
  have HK := Lib.hid (HK.out.trans hk)
  have HT := Lib.hid (hk.block HT.out (by omega))
  clear hb hk HP0
  obtain ⟨⟨r0, r1, r2, r3, r4, r5⟩, _⟩ := six_at HT.out
  go_wp2_with fail
  clear r0 r1 r2 r3 r4 r5
  refine (HP1.out _ HB.out).mono ?_
  rintro e w2 ⟨rfl, hb, hk⟩
  have HB := Lib.hid hb
  have HK := Lib.hid (HK.out.trans hk)
  have HT := Lib.hid (hk.block HT.out (by omega))
  clear hb hk HP1
  obtain ⟨⟨r0, r1, r2, r3, r4, r5⟩, _⟩ := six_at HT.out
  go_wp2_with fail
  clear r0 r1 r2 r3 r4 r5
  refine (HP2.out _ HB.out).mono ?_
  rintro e w3 ⟨rfl, hb, hk⟩
  have HB := Lib.hid hb
  have HK := Lib.hid (HK.out.trans hk)
  have HT := Lib.hid (hk.block HT.out (by omega))
  clear hb hk HP2
  obtain ⟨⟨r0, r1, r2, r3, r4, r5⟩, _⟩ := six_at HT.out
  go_wp2_with fail
  go_end0
  exact ⟨rfl, HB.out, HK.out⟩

end Go.Proofs.Ytbcilhdamjgoeaa
