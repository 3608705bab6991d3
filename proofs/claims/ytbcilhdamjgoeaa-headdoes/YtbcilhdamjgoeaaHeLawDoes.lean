/-
  The walk of the law HeadDoes: it returns true for all texts, heads and numbers. No conditions.
-/
import Derived.Test.YtbcilhdamjgoeaaHeRefGet
import Derived.Test.YtbcilhdamjgoeaaHeRefPut
namespace Go.Proofs.Ytbcilhdamjgoeaa
open Go.RowKit

theorem block_ltd {T : Nat} {o : Obj} {w : World} (hT : w.heap[T]? = some o) : T < w.heap.size := by
  rcases Nat.lt_or_ge T w.heap.size with hlt | hge
  · exact hlt
  · rw [Array.getElem?_eq_none hge] at hT; cases hT
set_option maxRecDepth 100000 in
set_option maxHeartbeats 800000 in
theorem headDoes_long (a b c : List UInt8) (h : He.Head) (n size : Int) (w : World) (hs : 3000 < wrap64 (wrap64 ((a.length : Int) + (b.length : Int)) + (c.length : Int))) :
    Calls Try.prog 7 #[.string ⟨a.toArray⟩, .string ⟨b.toArray⟩, .string ⟨c.toArray⟩, aggH h, .int .i64 n, .int .i64 size] w fun e w' => e = .returned (.bool true) ∧ Lo w w' := by
  unfold aggH
  go_enter Try.func7, Try.ntmps7
  go_wp2_with fail
  go_ret
  exact ⟨rfl, (Lo.refl w).alloc _⟩

set_option maxRecDepth 100000 in
set_option maxHeartbeats 6400000 in
theorem headDoes_some (a b c : List UInt8) (h : He.Head) (n size : Int) (w : World) (ha : a.length ≤ 9223372036854775807) (hb : b.length ≤ 9223372036854775807) (hc : c.length ≤ 9223372036854775807) (hs : ¬ 3000 < wrap64 (wrap64 ((a.length : Int) + (b.length : Int)) + (c.length : Int))) :
    Calls Try.prog 7 #[.string ⟨a.toArray⟩, .string ⟨b.toArray⟩, .string ⟨c.toArray⟩, aggH h, .int .i64 n, .int .i64 size] w fun e w' => e = .returned (.bool true) ∧ Lo w w' := by
  have HG := Lib.hid (fun W => hget_any a b c W ha hb hc)
  have HG2 := Lib.hid (fun W => rget5_any a b c W ha hb hc)
  have HP := Lib.hid (fun W => hput_any h W)
  have HP2 := Lib.hid (fun W => rput5_any h W)
  have HU := Lib.hid (fun W => units_any h n size W)
  have HU2 := Lib.hid (fun W => runits_any h n size W)
  have HI := Lib.hid (fun W => his_any h W)
  have HI2 := Lib.hid (fun W => ris5_any h W)
  unfold headErr at HG HG2
  unfold threeErr at HP HP2
  unfold tup at HU HU2
  generalize He.get a b c = g at *
  obtain ⟨gh, ge⟩ := g
  generalize He.put h = p at *
  obtain ⟨p1, p2, p3, p4⟩ := p
  generalize He.units h n size = u at *
  obtain ⟨u1, u2⟩ := u
  generalize He.isHead h = ih at *
  unfold aggH at *
  simp only at HG HG2 HP HP2 HU HU2
  generalize gh.upem = y0 at *
  generalize gh.glyphs = y1 at *
  generalize gh.metrics = y2 at *
  generalize gh.asc = y3 at *
  generalize gh.desc = y4 at *
  generalize gh.long = y5 at *
  generalize h.upem = x0 at *
  generalize h.glyphs = x1 at *
  generalize h.metrics = x2 at *
  generalize h.asc = x3 at *
  generalize h.desc = x4 at *
  generalize h.long = x5 at *
  clear ha hb hc
  go_enter Try.func7, Try.ntmps7
  go_wp2_with fail
  generalize hW : World.alloc w _ = w0
  have HL : Hid (Lo w w0) := Lib.hid (by rw [← hW]; exact (Lo.refl w).alloc _)
  have HH : Hid (w0.heap[w.heap.size]? = some (.cells #[.int .i64 x0, .int .i64 x1, .int .i64 x2, .int .i64 x3, .int .i64 x4, .bool x5] 46 (0, 0))) := Lib.hid (by rw [← hW]; exact new_block w _)
  clear hW
  refine (HG.out _).mono ?_
  rintro e w1 ⟨rfl, lo⟩
  have HL := Lib.hid (HL.out.trans lo)
  have HH := Lib.hid (lo_block lo HH.out)
  clear lo HG
  go_wp2_with fail
  generalize hW : World.alloc w1 _ = w2
  have lo : Lo w1 w2 := by rw [← hW]; exact (Lo.refl w1).alloc _
  have HX : Hid (w2.heap[w1.heap.size]? = some (.cells #[.int .i64 y0, .int .i64 y1, .int .i64 y2, .int .i64 y3, .int .i64 y4, .bool y5] 46 (0, 0))) := Lib.hid (by rw [← hW]; exact new_block w1 _)
  have HL := Lib.hid (HL.out.trans lo)
  have HH := Lib.hid (lo_block lo HH.out)
  clear lo hW
  refine (HG2.out _).mono ?_
  rintro e w3 ⟨rfl, lo⟩
  have HL := Lib.hid (HL.out.trans lo)
  have HH := Lib.hid (lo_block lo HH.out)
  have HX := Lib.hid (lo_block lo HX.out)
  clear lo HG2
  have hlt3 := block_ltd HH.out
  obtain ⟨⟨r0, r1, r2, r3, r4, r5⟩, _⟩ := six_at HH.out
  go_wp2_with fail
  clear r0 r1 r2 r3 r4 r5
  clear hlt3
  generalize hW : World.alloc w3 _ = w4
  have lo : Lo w3 w4 := by rw [← hW]; exact (Lo.refl w3).alloc _
  have HY : Hid (w4.heap[w3.heap.size]? = some (.cells #[.int .i64 y0, .int .i64 y1, .int .i64 y2, .int .i64 y3, .int .i64 y4, .bool y5] 46 (0, 0))) := Lib.hid (by rw [← hW]; exact new_block w3 _)
  have HL := Lib.hid (HL.out.trans lo)
  have HH := Lib.hid (lo_block lo HH.out)
  have HX := Lib.hid (lo_block lo HX.out)
  clear lo hW
  refine (HP.out _).mono ?_
  rintro e w5 ⟨rfl, lo⟩
  have HL := Lib.hid (HL.out.trans lo)
  have HH := Lib.hid (lo_block lo HH.out)
  have HX := Lib.hid (lo_block lo HX.out)
  have HY := Lib.hid (lo_block lo HY.out)
  clear lo HP
  obtain ⟨⟨r0, r1, r2, r3, r4, r5⟩, _⟩ := six_at HH.out
  go_wp2_with fail
  clear r0 r1 r2 r3 r4 r5
  refine (HP2.out _).mono ?_
  rintro e w6 ⟨rfl, lo⟩
  have HL := Lib.hid (HL.out.trans lo)
  have HH := Lib.hid (lo_block lo HH.out)
  have HX := Lib.hid (lo_block lo HX.out)
  have HY := Lib.hid (lo_block lo HY.out)
  clear lo HP2
  obtain ⟨⟨r0, r1, r2, r3, r4, r5⟩, _⟩ := six_at HH.out
  go_wp2_with fail
  clear r0 r1 r2 r3 r4 r5
  refine (HU.out _).mono ?_
  rintro e w7 ⟨rfl, lo⟩
  have HL := Lib.hid (HL.out.trans lo)
  have HH := Lib.hid (lo_block lo HH.out)
  have HX := Lib.hid (lo_block lo HX.out)
  have HY := Lib.hid (lo_block lo HY.out)
  clear lo HU
  obtain ⟨⟨r0, r1, r2, r3, r4, r5⟩, _⟩ := six_at HH.out
  go_wp2_with fail
  clear r0 r1 r2 r3 r4 r5
  refine (HU2.out _).mono ?_
  rintro e w8 ⟨rfl, lo⟩
  have HL := Lib.hid (HL.out.trans lo)
  have HH := Lib.hid (lo_block lo HH.out)
  have HX := Lib.hid (lo_block lo HX.out)
  have HY := Lib.hid (lo_block lo HY.out)
  clear lo HU2
  have HS : Hid (∀ W, Lo w8 W → (HeadAt w.heap.size x0 x1 x2 x3 x4 x5 w8 W ∧ HeadAt w1.heap.size y0 y1 y2 y3 y4 y5 w8 W ∧ HeadAt w3.heap.size y0 y1 y2 y3 y4 y5 w8 W)) := Lib.hid (fun W lo => ⟨HeadAt.of HH.out lo, HeadAt.of HX.out lo, HeadAt.of HY.out lo⟩)
  clear HH HX HY
  generalize w.heap.size = A at *
  generalize w1.heap.size = X at *
  generalize w3.heap.size = Y at *
  have HHd : Hid (∀ W, (HeadAt A x0 x1 x2 x3 x4 x5 w8 W ∧ HeadAt X y0 y1 y2 y3 y4 y5 w8 W ∧ HeadAt Y y0 y1 y2 y3 y4 y5 w8 W) → Calls Try.prog 26 #[] W fun e w' => e = .returned (.bool true) ∧ (HeadAt A x0 x1 x2 x3 x4 x5 w8 w' ∧ HeadAt X y0 y1 y2 y3 y4 y5 w8 w' ∧ HeadAt Y y0 y1 y2 y3 y4 y5 w8 w')) := Lib.hid (fun W hW => (headed_any W).mono fun e w' hh => ⟨hh.1, HS.out w' (hW.1.2.2.2.2.2.2.out.trans hh.2)⟩)
  have HI3 : Hid (∀ W, (HeadAt A x0 x1 x2 x3 x4 x5 w8 W ∧ HeadAt X y0 y1 y2 y3 y4 y5 w8 W ∧ HeadAt Y y0 y1 y2 y3 y4 y5 w8 W) → Calls Try.prog 27 #[.agg #[.int .i64 x0, .int .i64 x1, .int .i64 x2, .int .i64 x3, .int .i64 x4, .bool x5]] W fun e w' => e = .returned (.bool ih) ∧ (HeadAt A x0 x1 x2 x3 x4 x5 w8 w' ∧ HeadAt X y0 y1 y2 y3 y4 y5 w8 w' ∧ HeadAt Y y0 y1 y2 y3 y4 y5 w8 w')) := Lib.hid (fun W hW => (HI.out W).mono fun e w' hh => ⟨hh.1, HS.out w' (hW.1.2.2.2.2.2.2.out.trans hh.2)⟩)
  have HI4 : Hid (∀ W, (HeadAt A x0 x1 x2 x3 x4 x5 w8 W ∧ HeadAt X y0 y1 y2 y3 y4 y5 w8 W ∧ HeadAt Y y0 y1 y2 y3 y4 y5 w8 W) → Calls Try.prog 28 #[.agg #[.int .i64 x0, .int .i64 x1, .int .i64 x2, .int .i64 x3, .int .i64 x4, .bool x5]] W fun e w' => e = .returned (.bool ih) ∧ (HeadAt A x0 x1 x2 x3 x4 x5 w8 w' ∧ HeadAt X y0 y1 y2 y3 y4 y5 w8 w' ∧ HeadAt Y y0 y1 y2 y3 y4 y5 w8 w')) := Lib.hid (fun W hW => (HI2.out W).mono fun e w' hh => ⟨hh.1, HS.out w' (hW.1.2.2.2.2.2.2.out.trans hh.2)⟩)
  clear HI HI2
  go_wp2_with fail
  go_region_held3 (fun W => HeadAt A x0 x1 x2 x3 x4 x5 w8 W ∧ HeadAt X y0 y1 y2 y3 y4 y5 w8 W ∧ HeadAt Y y0 y1 y2 y3 y4 y5 w8 W) (first | assumption | exact HS.out _ ((Lo.refl _).drew))
    (first
      | (go_at_call 26; refine (HHd.out _ (by assumption)).mono ?_; rintro e wA ⟨rfl, hSA⟩)
      | (go_at_call 27; refine (HI3.out _ (by assumption)).mono ?_; rintro e wB ⟨rfl, hSB⟩)
      | (go_at_call 28; refine (HI4.out _ (by assumption)).mono ?_; rintro e wC ⟨rfl, hSC⟩))
  all_goals
    have HL9 : Hid (Lo w _) := Lib.hid (HL.out.trans hSC.1.2.2.2.2.2.2.out)
    clear hSA hSB hSC
    go_wp2_with fail
    go_ret
    refine ⟨?_, HL9.out⟩
    first | rfl | (apply ret_bool; simp)

theorem headDoes_walk (a b c : ByteArray) (h : He.Head) (n size : Int) (w : World) (w0 : a.size ≤ maxLen) (w1 : b.size ≤ maxLen) (w2 : c.size ≤ maxLen) (_w4 : (Lit.int .i64 n).wf = true) (_w5 : (Lit.int .i64 size).wf = true) :
    Calls Try.prog 7 #[.string a, .string b, .string c, aggH h, .int .i64 n, .int .i64 size] w fun e w' => e = .returned (.bool true) ∧ Below w.heap.size w w' := by
  have e : ∀ z : ByteArray, z.size ≤ maxLen → z.data.toList.length ≤ 9223372036854775807 := by
    intro z hz; unfold maxLen at hz; exact hz
  by_cases hs : 3000 < wrap64 (wrap64 ((a.data.toList.length : Int) + (b.data.toList.length : Int)) + (c.data.toList.length : Int))
  · exact headDoes_long a.data.toList b.data.toList c.data.toList h n size w hs
  · exact headDoes_some a.data.toList b.data.toList c.data.toList h n size w (e a w0) (e b w1) (e c w2) hs
end Go.Proofs.Ytbcilhdamjgoeaa
