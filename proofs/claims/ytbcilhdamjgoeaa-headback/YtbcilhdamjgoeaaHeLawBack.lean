/-
  The walk of the law HeadBack: it returns true for all heads and texts. No conditions.
-/
import Derived.Test.YtbcilhdamjgoeaaHeHeaded
namespace Go.Proofs.Ytbcilhdamjgoeaa
open Go.RowKit

set_option maxRecDepth 100000 in
set_option maxHeartbeats 800000 in
theorem headBack_long (h : He.Head) (a : ByteArray) (w : World) (hl : ¬ a.size ≤ 1000) :
    Calls Try.prog 8 #[aggH h, .string a] w fun e w' => e = .returned (.bool true) ∧ Lo w w' := by
  unfold aggH
  go_enter Try.func8, Try.ntmps8
  go_wp2_with fail
  go_ret
  exact ⟨rfl, (Lo.refl w).alloc _⟩
set_option maxRecDepth 100000 in
set_option maxHeartbeats 1600000 in
theorem headBack_none (h : He.Head) (a : ByteArray) (w : World) (hl : a.size ≤ 1000) (hh : He.isHead h = false) :
    Calls Try.prog 8 #[aggH h, .string a] w fun e w' => e = .returned (.bool true) ∧ Lo w w' := by
  have HP := Lib.hid (fun W => hput_any h W)
  rw [show He.put h = ([], [], [], 1) by unfold He.put; rw [if_pos hh]] at HP
  have HI := Lib.hid (fun W => his_any h W)
  rw [hh] at HI
  unfold threeErr at HP
  unfold aggH at *
  simp only at HP
  have e0 : (⟨#[]⟩ : ByteArray) ++ ⟨#[]⟩ = ⟨#[]⟩ := Gk.cat_list [] []
  clear hh
  go_enter Try.func8, Try.ntmps8
  go_wp2_with fail
  refine (HP.out _).mono ?_
  rintro e w1 ⟨rfl, lo⟩
  have HL := Lib.hid (((Lo.refl w).alloc _).trans lo)
  have HB := Lib.hid (lo_block lo (new_block w _))
  clear lo HP
  go_wp2_with fail
  refine (headed_any _).mono ?_
  rintro e w2 ⟨rfl, lo⟩
  have HL := Lib.hid (HL.out.trans lo)
  have HB := Lib.hid (lo_block lo HB.out)
  clear lo
  obtain ⟨⟨r0, r1, r2, r3, r4, r5⟩, _⟩ := six_at HB.out
  go_wp2_with fail
  refine (HI.out _).mono ?_
  rintro e w3 ⟨rfl, lo⟩
  have HL := Lib.hid (HL.out.trans lo)
  clear lo r0 r1 r2 r3 r4 r5
  go_wp2_with fail
  go_ret
  exact ⟨rfl, HL.out⟩
set_option maxRecDepth 100000 in
set_option maxHeartbeats 3200000 in
theorem headBack_some (h : He.Head) (m : List UInt8) (w : World) (hl : m.length ≤ 1000) (hh : He.isHead h = true) :
    Calls Try.prog 8 #[aggH h, .string ⟨m.toArray⟩] w fun e w' => e = .returned (.bool true) ∧ Lo w w' := by
  have HP := Lib.hid (fun W => hput_any h W)
  rw [show He.put h = (He.putA h, He.putB h, He.putC h, 0) by unfold He.put; rw [if_neg (by rw [hh]; simp)]] at HP
  have hlA := He.putA_len h
  have hlB := He.putB_len h
  have hlC := He.putC_len h
  have HG := Lib.hid (fun W => hget_any (He.putA h) (He.putB h) (He.putC h) W (by omega) (by omega) (by omega))
  rw [He.get_put h hh] at HG
  have HG2 := Lib.hid (fun W => hget_any (He.putA h ++ m) (He.putB h ++ m) (He.putC h ++ m) W (by simp; omega) (by simp; omega) (by simp; omega))
  rw [He.get_more h hh] at HG2
  unfold threeErr at HP
  unfold headErr at HG HG2
  have cA := Gk.cat_list (He.putA h) m
  have cB := Gk.cat_list (He.putB h) m
  have cC := Gk.cat_list (He.putC h) m
  unfold aggH at *
  simp only at HP HG HG2
  generalize He.putA h = pa at *
  generalize He.putB h = pb at *
  generalize He.putC h = pc at *
  generalize pa ++ m = qa at *
  generalize pb ++ m = qb at *
  generalize pc ++ m = qc at *
  clear hh
  generalize h.upem = x0 at *
  generalize h.glyphs = x1 at *
  generalize h.metrics = x2 at *
  generalize h.asc = x3 at *
  generalize h.desc = x4 at *
  generalize h.long = x5 at *
  go_enter Try.func8, Try.ntmps8
  go_wp2_with fail
  refine (HP.out _).mono ?_
  rintro e w1 ⟨rfl, lo⟩
  have HL := Lib.hid (((Lo.refl w).alloc _).trans lo)
  have HB := Lib.hid (lo_block lo (new_block w _))
  clear lo HP
  go_wp2_with fail
  refine (HG.out _).mono ?_
  rintro e w2 ⟨rfl, lo⟩
  have HL := Lib.hid (HL.out.trans lo)
  have HB := Lib.hid (lo_block lo HB.out)
  clear lo HG
  go_wp2_with fail
  generalize hW : World.alloc w2 _ = w3
  have lo : Lo w2 w3 := by rw [← hW]; exact (Lo.refl w2).alloc _
  have HG1 : Hid (w3.heap[w2.heap.size]? = some (.cells #[.int .i64 x0, .int .i64 x1, .int .i64 x2, .int .i64 x3, .int .i64 x4, .bool x5] 46 (0, 0))) := Lib.hid (by rw [← hW]; exact new_block w2 _)
  have HL := Lib.hid (HL.out.trans lo)
  have HB := Lib.hid (lo_block lo HB.out)
  clear lo hW
  refine (HG2.out _).mono ?_
  rintro e w4 ⟨rfl, lo⟩
  have HL := Lib.hid (HL.out.trans lo)
  have HB := Lib.hid (lo_block lo HB.out)
  have HG1 := Lib.hid (lo_block lo HG1.out)
  clear lo HG2 cA cB cC
  go_wp2_with fail
  generalize hW : World.alloc w4 _ = w5
  have lo : Lo w4 w5 := by rw [← hW]; exact (Lo.refl w4).alloc _
  have HG2 : Hid (w5.heap[w4.heap.size]? = some (.cells #[.int .i64 x0, .int .i64 x1, .int .i64 x2, .int .i64 x3, .int .i64 x4, .bool x5] 46 (0, 0))) := Lib.hid (by rw [← hW]; exact new_block w4 _)
  have HL := Lib.hid (HL.out.trans lo)
  have HB := Lib.hid (lo_block lo HB.out)
  have HG1 := Lib.hid (lo_block lo HG1.out)
  clear lo hW
  refine (headed_any _).mono ?_
  rintro e w6 ⟨rfl, lo⟩
  have HL := Lib.hid (HL.out.trans lo)
  obtain ⟨⟨r0, r1, r2, r3, r4, r5⟩, _⟩ := six_at (lo_block lo HB.out)
  obtain ⟨⟨s0, s1, s2, s3, s4, s5⟩, _⟩ := six_at (lo_block lo HG1.out)
  obtain ⟨⟨t0, t1, t2, t3, t4, t5⟩, _⟩ := six_at (lo_block lo HG2.out)
  clear lo
  go_wp2_with fail
  go_ret
  refine ⟨?_, HL.out⟩
  first | rfl | (apply ret_bool; simp)

theorem headBack_walk (h : He.Head) (a : ByteArray) (w : World) (_w1 : a.size ≤ maxLen) :
    Calls Try.prog 8 #[aggH h, .string a] w fun e w' => e = .returned (.bool true) ∧ Below w.heap.size w w' := by
  by_cases hl : a.size ≤ 1000
  · cases hh : He.isHead h with
    | false => exact headBack_none h a w hl hh
    | true => exact headBack_some h a.data.toList w hl hh
  · exact headBack_long h a w hl
end Go.Proofs.Ytbcilhdamjgoeaa
