/-
  Contracts of chart.repeated and chart.spans: so many times a size; one span for each glyph that is not 0. No conditions beyond those stated.
-/
import Derived.Test.YtjfobpbnofjjdaaChBase
import Derived.Test.YtjfobpbnofjjdaaGlRepeat
import Derived.Test.YtjfobpbnofjjdaaBnGet2
namespace Go.Proofs.Ytjfobpbnofjjdaa
open Go.RowKit

theorem fill_row {z : Int} {n G : Nat} {w : World} (h : FillAt z n n G w) (hn : n ≤ 1000000) : Row w (.slice (some ⟨G, 0, none⟩) n n) (List.replicate n z) := by
  have hlt : G < w.heap.size := by
    rcases Nat.lt_or_ge G w.heap.size with hlt | hge
    · exact hlt
    · unfold FillAt at h; rw [Array.getElem?_eq_none hge] at h; cases h
  refine .inr ⟨G, 0, n, by rw [List.length_replicate], by rw [List.length_replicate]; omega, by rw [List.length_replicate]; omega, hlt, fun i hi => ?_⟩
  rw [List.length_replicate] at hi
  rw [Nat.zero_add]
  refine block_cell h ?_
  rw [List.getElem?_toArray, fill_at z hi]
  simp [List.getD, hi]
/-- So many times the same number, told. -/
def Many (z : Int) (n : Nat) (w : World) (e : Ending) (w' : World) : Prop := ∃ p c, e = .returned (.slice p n c) ∧ Row w' (.slice p n c) (List.replicate n z) ∧ Lo w w'

set_option maxHeartbeats 400000 in
theorem repeated_any (z : Int) (n : Nat) (w : World) (hn : n ≤ 1000000) : Calls Try.prog 47 #[.int .i64 z, .int .i64 (n : Int)] w (Many z n w) := by
  have HR := Lib.hid (fun (v : Value) (W : World) (h : Row W v [z]) => repeat_any z n v W h hn)
  unfold Many
  go_enter Try.func47, Try.ntmps47
  go_wp2_with fail
  refine (HR.out _ _ (row1 w _ rfl z)).mono ?_
  rintro e w1 ⟨G, rfl, hF, lo⟩
  have HF := Lib.hid hF
  have HL := Lib.hid (((Lo.refl w).alloc _).trans lo)
  clear hF lo HR
  go_wp2_with fail
  go_ret
  exact ⟨_, _, rfl, fill_row HF.out hn, HL.out⟩

/-- Spans, told. -/
def GotSpans (l : List Ch.Span) (w : World) (e : Ending) (w' : World) : Prop := ∃ p c, e = .returned (.slice p l.length c) ∧ SRow w' (.slice p l.length c) l ∧ Lo w w'
/-- Spans and an error, told. -/
def GotSp (a : List Ch.Span × Int) (w : World) (e : Ending) (w' : World) : Prop := ∃ p c, e = .returned (.tuple #[.slice p a.1.length c, .int .i64 a.2]) ∧ SRow w' (.slice p a.1.length c) a.1 ∧ Lo w w'
theorem GotSp.nil {w w' : World} {k : Int} {e : Ending} (he : e = .returned (.tuple #[.slice none 0 0, .int .i64 k])) (h : Lo w w') : GotSp ([], k) w e w' := by
  subst he
  exact ⟨_, _, rfl, RowK.nil _ _ _, h⟩

set_option maxHeartbeats 1600000 in
theorem spans_any (a : Int) (gs : List Int) (v : Value) (w : World) (hr : Row w v gs) (hn : gs.length ≤ 100000) (ha : 0 ≤ a) (ha2 : a ≤ 1000000) :
    Calls Try.prog 48 #[.int .i64 a, v] w (GotSpans (Ch.spansL a gs) w) := by
  obtain ⟨p, c, rfl, hlen⟩ := hr.form
  have HR := Lib.hid hr
  have HAll : Hid (gs.take gs.length = gs) := Lib.hid List.take_length
  have HSt := Lib.hid (fun (k : Nat) (h : k < gs.length) => Ch.spansL_step h a)
  have HLe : Hid (∀ k, (Ch.spansL a (gs.take k)).length ≤ k) := Lib.hid (fun k => Nat.le_trans (Ch.spansL_len _ _) (List.length_take_le _ _))
  generalize hnn : gs.length = n at *
  have HN := Lib.hid hnn
  clear hnn hr
  unfold GotSpans
  go_enter Try.func48, Try.ntmps48
  go_wp2_with fail
  go_loopw [5, 6, 7, 8, 11] (fun s5 _ _ _ s11 W => ∃ (k : Nat) (L : List Ch.Span) (q : Option Addr) (d : Nat), k ≤ n ∧ s11 = .int .i64 k ∧ s5 = .slice q L.length d ∧ Hid (L = Ch.spansL a (gs.take k)) ∧ Hid (OwnK encS 35 4 W w.heap.size (.slice q L.length d) L) ∧ Hid (Lo w W)) (fun _ _ _ _ s11 _ => n - (intOf s11).toNat)
  case atStart => exact ⟨0, [], none, 0, Nat.zero_le _, rfl, rfl, Lib.hid rfl, Lib.hid (OwnK.none _ _ _ _ _), Lib.hid (Lo.refl _)⟩
  case round =>
    obtain ⟨k, L, q, d, hk, rfl, rfl, HT, HO, HL⟩ := hrel
    by_cases hlt : k < n
    · obtain ⟨b, off, rfl, hcell⟩ := (HR.out.lo HL.out).at_ hlt
      have HS1 := Lib.hid (HSt.out k hlt)
      have HLk : Hid (L.length ≤ k) := Lib.hid (by rw [HT.out]; exact HLe.out k)
      have HSZ := Lib.hid HL.out.size
      rw [← HT.out] at HS1
      generalize gs.getD k 0 = g at *
      by_cases hg : g = 0
      · have HT2 : Hid (L = Ch.spansL a (gs.take (k + 1))) := Lib.hid (by rw [HS1.out, if_pos hg, List.append_nil])
        subst hg
        clear HS1 HT
        go_wp2_with fail
        go_roundw
        case rel => exact ⟨k + 1, L, q, d, by omega, by go_num, rfl, HT2, HO, HL⟩
        case measure => simp [intOf]; omega
      · have HT2 : Hid (L ++ [⟨a + k, a + k, g, 1⟩] = Ch.spansL a (gs.take (k + 1))) := Lib.hid (by rw [HS1.out, if_neg hg])
        clear HS1 HT
        go_wp2_with (at_builtin; refine wpList_appK _ rfl (.tmp 21) (.tmp 26) _ rfl 35 4 32 _ Try.underlying22 api_info rfl (by omega) (by omega) encS_len encS_one w.heap.size (.slice q L.length d) L rfl (OwnK.lo HO.out ((Lo.refl _).alloc _)) _ [⟨a + k, a + k, g, 1⟩] rfl (srow1 _ _ rfl ⟨a + k, a + k, g, 1⟩ _) (by have := HLk.out; simp; omega) (by have := HSZ.out; simp; omega) ?_; intro q1 d1 w3 hown hlo; have HO3 := Lib.hid hown; have HL3 := Lib.hid (hlo w (HL.out.alloc _) (Nat.le_refl _)); clear hown hlo)
        go_roundw
        case rel => exact ⟨k + 1, L ++ [⟨a + k, a + k, g, 1⟩], q1, d1, by omega, by go_num, by simp, HT2, by simpa using HO3, HL3⟩
        case measure => simp [intOf]; omega
    · obtain rfl : k = n := by omega
      have HE : Hid (L = Ch.spansL a gs) := Lib.hid (by rw [HT.out, HAll.out])
      go_wp2_with fail
      go_ret
      exact ⟨q, d, by rw [← HE.out]; rfl, by rw [← HE.out]; exact OwnK.row encS_len HO.out, HL.out⟩
end Go.Proofs.Ytjfobpbnofjjdaa
