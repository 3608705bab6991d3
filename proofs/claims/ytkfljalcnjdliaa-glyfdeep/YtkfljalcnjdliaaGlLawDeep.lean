/-
  The walk of the law GlyfDeep: it returns true, whatever head, extents and number, and nothing that was there turns. No conditions.
-/
import Derived.Test.YtkfljalcnjdliaaGlSame
namespace Gl
/-- The first that is not right. -/
theorem first_wrong : ∀ l : List Ext, l.all isExt = false → ∃ k, k < l.length ∧ isExt (l.getD k none) = false ∧ ∀ j, j < k → isExt (l.getD j none) = true
  | [], h => by simp at h
  | x :: r, h => by
    cases hx : isExt x with
    | false => exact ⟨0, by simp, hx, by omega⟩
    | true =>
      rw [List.all_cons, hx, Bool.true_and] at h
      obtain ⟨k, h1, h2, h3⟩ := first_wrong r h
      refine ⟨k + 1, by simpa using h1, by simpa using h2, fun j hj => ?_⟩
      cases j with
      | zero => exact hx
      | succ j => exact h3 j (by omega)
end Gl
namespace Go.Proofs.Ytkfljalcnjdliaa
open Go.RowKit

set_option maxHeartbeats 400000 in
theorem glyfDeep_long (h : He.Head) (v : Value) (l : List Gl.Ext) (g : Int) (w : World) (hr : ERow w v l) (hl : 300 < l.length) :
    Calls Try.prog 6 #[aggH h, v, .int .i64 g] w fun e w' => e = .returned (.bool true) ∧ Lo w w' := by
  obtain ⟨p, c, rfl, hlen⟩ := RowK.form hr
  generalize l.length = n at *
  unfold aggH
  clear hr
  go_enter Try.func6, Try.ntmps6
  go_wp2_with fail
  go_ret
  exact ⟨rfl, (Lo.refl _).alloc _⟩

set_option maxRecDepth 100000 in
set_option maxHeartbeats 1600000 in
theorem glyfDeep_wrong (h : He.Head) (v : Value) (l : List Gl.Ext) (g : Int) (w : World) (hr : ERow w v l) (hl : l.length ≤ 300) (hall : l.all Gl.isExt = false) :
    Calls Try.prog 6 #[aggH h, v, .int .i64 g] w fun e w' => e = .returned (.bool true) ∧ Lo w w' := by
  obtain ⟨m, hm, hm2, hm3⟩ := Gl.first_wrong l hall
  have HD := Lib.hid (fun W => drawn_any W)
  obtain ⟨p, c, rfl, hlen⟩ := RowK.form hr
  have HR := Lib.hid hr
  have HX : Hid (∀ k, k < l.length → l[k]? = some (l.getD k Gl.none)) := Lib.hid (fun k hk => Gl.getD_some hk)
  have HM2 := Lib.hid hm2
  have HM3 := Lib.hid hm3
  generalize l.length = n at *
  unfold aggH
  have i1 : ¬ 300 < n := by omega
  clear hr hall hm2 hm3
  go_enter Try.func6, Try.ntmps6
  go_wp2_with fail
  go_loopw [7] (fun i W => ∃ k : Nat, k ≤ m ∧ i = .int .i64 k ∧ Hid (Lo w W)) (fun i _ => m - (intOf i).toNat)
  case atStart => exact ⟨0, Nat.zero_le _, rfl, Lib.hid ((Lo.refl _).alloc _)⟩
  case round =>
    obtain ⟨k, hk, rfl, HL⟩ := hrel
    have hkn : k < n := by omega
    obtain ⟨b, off, rfl, r0, r1, r2, r3, r4⟩ := ERow.at5 (RowK.lo HR.out HL.out) (HX.out k hkn)
    by_cases hlt : k < m
    · have hx2 := HM3.out k hlt
      generalize l.getD k Gl.none = x at *
      have HI := Lib.hid (fun W => gis_any x W)
      rw [hx2] at HI
      unfold aggE at HI
      clear hx2
      go_wp2_with fail
      refine (HI.out _).mono ?_
      rintro e w3 ⟨rfl, lo⟩
      have HL3 := Lib.hid (HL.out.trans lo)
      clear lo HI r0 r1 r2 r3 r4
      go_wp2_with fail
      go_roundw
      case rel => exact ⟨k + 1, by omega, by go_num, HL3⟩
      case measure => simp [intOf]; omega
    · obtain rfl : k = m := by omega
      have hx2 := HM2.out
      generalize l.getD k Gl.none = x at *
      have HI := Lib.hid (fun W => gis_any x W)
      rw [hx2] at HI
      unfold aggE at HI
      clear hx2
      go_wp2_with fail
      refine (HI.out _).mono ?_
      rintro e w3 ⟨rfl, lo⟩
      have HL3 := Lib.hid (HL.out.trans lo)
      clear lo HI r0 r1 r2 r3 r4
      go_wp2_with fail
      refine (HD.out _).mono ?_
      rintro e w4 ⟨rfl, lo⟩
      have HL4 := Lib.hid (HL3.out.trans lo)
      clear lo HD
      go_wp2_with fail
      go_ret
      exact ⟨rfl, HL4.out⟩

set_option maxRecDepth 100000 in
set_option maxHeartbeats 3200000 in
theorem glyfDeep_ok (h : He.Head) (v : Value) (l : List Gl.Ext) (g : Int) (w : World) (hr : ERow w v l) (hl : l.length ≤ 300) (hall : l.all Gl.isExt = true) (he : (Gl.high h l g).2.2 = 0) :
    Calls Try.prog 6 #[aggH h, v, .int .i64 g] w fun e w' => e = .returned (.bool true) ∧ Lo w w' := by
  have HD := Lib.hid (fun W => drawn_any W)
  have HH1 := Lib.hid (fun v W (hr : ERow W v l) => ghigh_any h v l g W hr hall)
  have HH2 := Lib.hid (fun W => ghigh_any h (.slice none 0 0) [] g W (.inl ⟨_, _, rfl, fun _ => rfl, rfl⟩) rfl)
  unfold nums3 at HH1 HH2
  obtain ⟨q1, q2, q3, q4⟩ := Gl.high_deep hall he
  rw [he] at HH1
  rw [q1] at HH2
  have hd : -32768 ≤ h.desc ∧ h.desc ≤ 32767 := by
    cases c1 : He.isHead h with
    | false => rw [Gl.high_arg l g c1] at he; cases he
    | true => exact ((He.isHead_iff h).1 c1).2.2.2.2
  have q6 : (Gl.high h l g).1 ≥ -32768 ∧ (Gl.high h l g).2.1 ≥ -32768 := by
    cases c1 : He.isHead h with
    | false => rw [Gl.high_arg l g c1] at he; cases he
    | true =>
      have hb := (He.isHead_iff h).1 c1
      by_cases c2 : g < 0 ∨ h.glyphs ≤ g ∨ (0 < l.length ∧ (l.length : Int) ≤ g)
      · rw [Gl.high_glyph c1 c2] at he; cases he
      · by_cases c3 : l.length = 0
        · obtain rfl := List.eq_nil_of_length_eq_zero c3
          rw [Gl.high_nil c1 (by omega)]
          exact ⟨by dsimp only; omega, by dsimp only; omega⟩
        · have hlt : g.toNat < l.length := by omega
          rw [Gl.high_at c1 (by omega) (by omega) (by omega)]
          have hm : l.getD g.toNat Gl.none ∈ l := by simp [List.getD, List.getElem?_eq_getElem hlt]
          have hx := List.all_eq_true.1 hall _ hm
          generalize l.getD g.toNat Gl.none = x at *
          dsimp only
          cases ha : x.any with
          | true => have := Gl.isExt_any hx ha; omega
          | false => rw [Gl.isExt_none hx ha]; simp [Gl.none]

  obtain ⟨p, c, rfl, hlen⟩ := RowK.form hr
  have HR := Lib.hid hr
  have HX : Hid (∀ k, k < l.length → l[k]? = some (l.getD k Gl.none) ∧ Gl.isExt (l.getD k Gl.none) = true) := Lib.hid (fun k hk => ⟨Gl.getD_some hk, List.all_eq_true.1 hall _ (by simp [List.getD, List.getElem?_eq_getElem hk])⟩)
  generalize l.length = n at *
  obtain ⟨a1, a2, a3, a4, a5, a6⟩ := h
  unfold aggH at *
  dsimp only at *
  have i1 : ¬ 300 < n := by omega
  clear hr hall
  generalize (Gl.high _ l g).1 = up at *
  generalize (Gl.high _ l g).2.1 = dn at *
  clear he q1
  obtain ⟨q6, q7⟩ := q6
  obtain ⟨hd1, hd2⟩ := hd
  have e0 : (0 : Int) - a5 = -a5 := by omega
  rw [e0] at HH2
  clear e0
  go_enter Try.func6, Try.ntmps6
  go_wp2_with fail
  go_loopw [7] (fun i W => ∃ k : Nat, k ≤ n ∧ i = .int .i64 k ∧ Hid (Lo w W) ∧ Hid (W.heap[w.heap.size]? = some (.cells #[.int .i64 a1, .int .i64 a2, .int .i64 a3, .int .i64 a4, .int .i64 a5, .bool a6] 37 (0, 0)))) (fun i _ => n - (intOf i).toNat)
  case atStart => exact ⟨0, Nat.zero_le _, rfl, Lib.hid ((Lo.refl _).alloc _), Lib.hid (new_block w _)⟩
  case round =>
    obtain ⟨k, hk, rfl, HL, HB⟩ := hrel
    by_cases hlt : k < n
    · obtain ⟨hx1, hx2⟩ := HX.out k hlt
      obtain ⟨b, off, rfl, r0, r1, r2, r3, r4⟩ := ERow.at5 (RowK.lo HR.out HL.out) hx1
      generalize l.getD k Gl.none = x at *
      have HI := Lib.hid (fun W => gis_any x W)
      rw [hx2] at HI
      unfold aggE at HI
      clear hx1 hx2
      go_wp2_with fail
      refine (HI.out _).mono ?_
      rintro e w3 ⟨rfl, lo⟩
      have HL3 := Lib.hid (HL.out.trans lo)
      have HB3 := Lib.hid (lo_block lo HB.out)
      clear lo HI r0 r1 r2 r3 r4
      go_wp2_with fail
      go_roundw
      case rel => exact ⟨k + 1, by omega, by go_num, HL3, HB3⟩
      case measure => simp [intOf]; omega
    · obtain rfl : k = n := by omega
      have HR := Lib.hid (RowK.lo HR.out HL.out)
      obtain ⟨⟨d0, d1, d2, d3, d4, d5⟩, _⟩ := six_at HB.out
      go_wp2_with fail
      refine (HH1.out _ _ HR.out).mono ?_
      rintro e w3 ⟨rfl, lo⟩
      have HL := Lib.hid (HL.out.trans lo)
      have HB := Lib.hid (lo_block lo HB.out)
      clear lo HH1 HR d0 d1 d2 d3 d4 d5
      obtain ⟨⟨d0, d1, d2, d3, d4, d5⟩, _⟩ := six_at HB.out
      go_wp2_with fail
      refine (HH2.out _).mono ?_
      rintro e w4 ⟨rfl, lo⟩
      have HL := Lib.hid (HL.out.trans lo)
      have HB := Lib.hid (lo_block lo HB.out)
      clear lo HH2 d0 d1 d2 d3 d4 d5
      obtain ⟨⟨d0, d1, d2, d3, d4, d5⟩, _⟩ := six_at HB.out
      go_wp2_with fail
      refine (HD.out _).mono ?_
      rintro e w5 ⟨rfl, lo⟩
      have HL := Lib.hid (HL.out.trans lo)
      have HB := Lib.hid (lo_block lo HB.out)
      clear lo HD d0 d1 d2 d3 d4 d5
      obtain ⟨⟨d0, d1, d2, d3, d4, d5⟩, _⟩ := six_at HB.out
      by_cases c0 : k = 0
      · subst c0
        go_wp2_with fail
        go_ret
        exact ⟨rfl, HL.out⟩
      · have c4 : 0 ≤ up + dn := by omega
        go_wp2_with fail
        go_ret
        exact ⟨rfl, HL.out⟩

set_option maxRecDepth 100000 in
set_option maxHeartbeats 3200000 in
theorem glyfDeep_no (h : He.Head) (v : Value) (l : List Gl.Ext) (g : Int) (w : World) (hr : ERow w v l) (hl : l.length ≤ 300) (hall : l.all Gl.isExt = true) (he : (Gl.high h l g).2.2 ≠ 0) :
    Calls Try.prog 6 #[aggH h, v, .int .i64 g] w fun e w' => e = .returned (.bool true) ∧ Lo w w' := by
  have HD := Lib.hid (fun W => drawn_any W)
  have HH1 := Lib.hid (fun v W (hr : ERow W v l) => ghigh_any h v l g W hr hall)
  have HH2 := Lib.hid (fun W => ghigh_any h (.slice none 0 0) [] g W (.inl ⟨_, _, rfl, fun _ => rfl, rfl⟩) rfl)
  unfold nums3 at HH1 HH2
  obtain ⟨q1, q2, q3⟩ := Gl.high_no he
  rw [q1, q2] at HH1
  have HI := Lib.hid (fun W => his_any h W)
  obtain ⟨p, c, rfl, hlen⟩ := RowK.form hr
  have HR := Lib.hid hr
  have HX : Hid (∀ k, k < l.length → l[k]? = some (l.getD k Gl.none) ∧ Gl.isExt (l.getD k Gl.none) = true) := Lib.hid (fun k hk => ⟨Gl.getD_some hk, List.all_eq_true.1 hall _ (by simp [List.getD, List.getElem?_eq_getElem hk])⟩)
  generalize l.length = n at *
  obtain ⟨a1, a2, a3, a4, a5, a6⟩ := h
  unfold aggH at *
  dsimp only at *
  have i1 : ¬ 300 < n := by omega
  clear hr hall
  have hb : ((Gl.high ⟨a1, a2, a3, a4, a5, a6⟩ l g).2.2 != 0) = true := by simpa using he
  generalize (Gl.high _ l g).2.2 = ez at *
  generalize (Gl.high _ [] g).1 = up at *
  generalize (Gl.high _ [] g).2.1 = dn at *
  generalize (Gl.high _ [] g).2.2 = ez2 at *
  generalize He.isHead _ = hh at *
  clear he q1 q2
  go_enter Try.func6, Try.ntmps6
  go_wp2_with fail
  go_loopw [7] (fun i W => ∃ k : Nat, k ≤ n ∧ i = .int .i64 k ∧ Hid (Lo w W) ∧ Hid (W.heap[w.heap.size]? = some (.cells #[.int .i64 a1, .int .i64 a2, .int .i64 a3, .int .i64 a4, .int .i64 a5, .bool a6] 37 (0, 0)))) (fun i _ => n - (intOf i).toNat)
  case atStart => exact ⟨0, Nat.zero_le _, rfl, Lib.hid ((Lo.refl _).alloc _), Lib.hid (new_block w _)⟩
  case round =>
    obtain ⟨k, hk, rfl, HL, HB⟩ := hrel
    by_cases hlt : k < n
    · obtain ⟨hx1, hx2⟩ := HX.out k hlt
      obtain ⟨b, off, rfl, r0, r1, r2, r3, r4⟩ := ERow.at5 (RowK.lo HR.out HL.out) hx1
      generalize l.getD k Gl.none = x at *
      have HI := Lib.hid (fun W => gis_any x W)
      rw [hx2] at HI
      unfold aggE at HI
      clear hx1 hx2
      go_wp2_with fail
      refine (HI.out _).mono ?_
      rintro e w3 ⟨rfl, lo⟩
      have HL3 := Lib.hid (HL.out.trans lo)
      have HB3 := Lib.hid (lo_block lo HB.out)
      clear lo HI r0 r1 r2 r3 r4
      go_wp2_with fail
      go_roundw
      case rel => exact ⟨k + 1, by omega, by go_num, HL3, HB3⟩
      case measure => simp [intOf]; omega
    · obtain rfl : k = n := by omega
      have HR := Lib.hid (RowK.lo HR.out HL.out)
      obtain ⟨⟨d0, d1, d2, d3, d4, d5⟩, _⟩ := six_at HB.out
      go_wp2_with fail
      refine (HH1.out _ _ HR.out).mono ?_
      rintro e w3 ⟨rfl, lo⟩
      have HL := Lib.hid (HL.out.trans lo)
      have HB := Lib.hid (lo_block lo HB.out)
      clear lo HH1 HR d0 d1 d2 d3 d4 d5
      obtain ⟨⟨d0, d1, d2, d3, d4, d5⟩, _⟩ := six_at HB.out
      go_wp2_with fail
      refine (HH2.out _).mono ?_
      rintro e w4 ⟨rfl, lo⟩
      have HL := Lib.hid (HL.out.trans lo)
      have HB := Lib.hid (lo_block lo HB.out)
      clear lo HH2 d0 d1 d2 d3 d4 d5
      obtain ⟨⟨d0, d1, d2, d3, d4, d5⟩, _⟩ := six_at HB.out
      go_wp2_with fail
      refine (HD.out _).mono ?_
      rintro e w5 ⟨rfl, lo⟩
      have HL := Lib.hid (HL.out.trans lo)
      have HB := Lib.hid (lo_block lo HB.out)
      clear lo HD d0 d1 d2 d3 d4 d5
      obtain ⟨⟨d0, d1, d2, d3, d4, d5⟩, _⟩ := six_at HB.out
      go_wp2_with fail
      refine (HI.out _).mono ?_
      rintro e w6 ⟨rfl, lo⟩
      have HL := Lib.hid (HL.out.trans lo)
      have HB := Lib.hid (lo_block lo HB.out)
      clear lo HI d0 d1 d2 d3 d4 d5
      obtain ⟨⟨d0, d1, d2, d3, d4, d5⟩, _⟩ := six_at HB.out
      cases hh with
      | false =>
        clear q3
        go_wp2_with fail
        go_ret
        exact ⟨rfl, HL.out⟩
      | true =>
        by_cases c1 : g < 0
        · clear q3
          go_wp2_with fail
          go_ret
          exact ⟨rfl, HL.out⟩
        · by_cases c2 : a2 ≤ g
          · clear q3
            go_wp2_with fail
            go_ret
            exact ⟨rfl, HL.out⟩
          · have c3 : (k : Int) ≤ g := by rcases q3 with h | h | h | h; cases h; omega; omega; exact h
            clear q3
            go_wp2_with fail
            go_ret
            exact ⟨rfl, HL.out⟩

theorem glyfDeep_walk (h : He.Head) (v : Value) (l : List Gl.Ext) (g : Int) (w : World) (hr : ERow w v l) (_wg : (Lit.int .i64 g).wf = true) :
    Calls Try.prog 6 #[aggH h, v, .int .i64 g] w fun e w' => e = .returned (.bool true) ∧ Below w.heap.size w w' := by
  by_cases hl : l.length ≤ 300
  · cases hall : l.all Gl.isExt with
    | false => exact glyfDeep_wrong h v l g w hr hl hall
    | true =>
      by_cases he : (Gl.high h l g).2.2 = 0
      · exact glyfDeep_ok h v l g w hr hl hall he
      · exact glyfDeep_no h v l g w hr hl hall he
  · exact glyfDeep_long h v l g w hr (by omega)
end Go.Proofs.Ytkfljalcnjdliaa
