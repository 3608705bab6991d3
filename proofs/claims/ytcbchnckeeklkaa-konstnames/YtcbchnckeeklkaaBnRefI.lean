/-
  Contracts of the document's answers for layer 3: Ints and Own of the references. No conditions beyond those stated.
-/
import Derived.Test.YtcbchnckeeklkaaBnRefP
namespace Go.Proofs.Ytcbchnckeeklkaa
open Go.RowKit

theorem ints_snoc {l m : List Int} {k : Nat} (h1 : k < l.length) (h2 : k < m.length) (h : l.take k = m.take k) (he : l.getD k 0 = m.getD k 0) : l.take (k + 1) = m.take (k + 1) := by
  rw [Bn.take_snoc h1, Bn.take_snoc h2, h, he]

set_option maxHeartbeats 400000 in
theorem rints_len (v u : Value) (l m : List Int) (w : World) (h1 : Row w v l) (h2 : Row w u m) (hne : l.length ≠ m.length) :
    Calls Try.prog 17 #[v, u] w fun e w' => e = .returned (.bool false) ∧ Lo w w' := by
  obtain ⟨p, c, rfl, hlen⟩ := h1.form
  obtain ⟨p2, c2, rfl, hlen2⟩ := h2.form
  have hb : ((l.length : Int) == (m.length : Int)) = false := by simp; omega
  clear h1 h2 hne
  go_enter Try.func17, Try.ntmps17
  go_wp2_with fail
  go_ret
  exact ⟨rfl, Lo.refl w⟩

set_option maxHeartbeats 800000 in
theorem rints_same (v u : Value) (l m : List Int) (w : World) (h1 : Row w v l) (h2 : Row w u m) (heq : l.length = m.length) :
    Calls Try.prog 17 #[v, u] w fun e w' => e = .returned (.bool (decide (l = m))) ∧ Lo w w' := by
  obtain ⟨p, c, rfl, hlen⟩ := h1.form
  obtain ⟨p2, c2, rfl, hlen2⟩ := h2.form
  rw [← heq] at h2 ⊢
  have HR := Lib.hid h1
  have HR2 := Lib.hid h2
  have HM := Lib.hid heq
  generalize hy : decide (l = m) = y
  have HY := Lib.hid hy
  generalize hnn : l.length = n at *
  have HN := Lib.hid hnn
  clear h1 h2 heq hnn hlen2 hy
  go_enter Try.func17, Try.ntmps17
  go_wp2_with fail
  go_loopw [5] (fun i W => ∃ k : Nat, k ≤ n ∧ i = .int .i64 k ∧ Hid (l.take k = m.take k) ∧ Hid (Lo w W)) (fun i _ => n - (intOf i).toNat)
  case atStart => exact ⟨0, Nat.zero_le _, rfl, Lib.hid rfl, Lib.hid (Lo.refl _)⟩
  case round =>
    obtain ⟨k, hk, rfl, HE, HL⟩ := hrel
    by_cases hlt : k < n
    · obtain ⟨b, off, rfl, hcell⟩ := (HR.out.lo HL.out).at_ hlt
      obtain ⟨b', off', rfl, hcell2⟩ := (HR2.out.lo HL.out).at_ hlt
      have HK : Hid (k < l.length) := Lib.hid (by rw [HN.out]; exact hlt)
      have HK2 : Hid (k < m.length) := Lib.hid (by rw [← HM.out]; exact hlt)
      have HSn := Lib.hid (fun h => ints_snoc HK.out HK2.out HE.out h)
      have HNe : Hid (l.getD k 0 ≠ m.getD k 0 → y = false) := Lib.hid (by
        intro h
        rw [← HY.out, decide_eq_false_iff_not]
        rintro rfl
        exact h rfl)
      generalize l.getD k 0 = x at *
      generalize m.getD k 0 = z at *
      have hk0 : (0 : Int) ≤ (k : Int) := by omega
      have hkn : (k : Int) < (n : Int) := by omega
      by_cases he : x = z
      · subst he
        have HSn2 := Lib.hid (HSn.out rfl)
        clear HSn HNe
        go_wp2_with fail
        go_quiet (fail)
        have HL2 := Lib.hid (HL.out.drewN nq)
        go_wp2_with fail
        go_roundw
        case rel => exact ⟨k + 1, by omega, by go_num, HSn2, HL2⟩
        case measure => simp [intOf]; omega
      · have hb : (x == z) = false := by simpa using he
        have HYY : Hid (y = false) := Lib.hid (HNe.out he)
        clear he HNe HSn
        go_wp2_with fail
        go_quiet (fail)
        have HL2 := Lib.hid (HL.out.drewN nq)
        go_wp2_with fail
        go_ret
        exact ⟨ret_bool HYY.out.symm, HL2.out⟩
    · have HYY : Hid (y = true) := Lib.hid (by
        rw [← HY.out, decide_eq_true_iff]
        have := HE.out
        rwa [List.take_of_length_le (by rw [HN.out]; omega), List.take_of_length_le (by rw [← HM.out]; omega)] at this)
      go_wp2_with fail
      go_ret
      exact ⟨ret_bool HYY.out.symm, HL.out⟩

theorem rints_any (v u : Value) (l m : List Int) (w : World) (h1 : Row w v l) (h2 : Row w u m) :
    Calls Try.prog 17 #[v, u] w fun e w' => e = .returned (.bool (decide (l = m))) ∧ Lo w w' := by
  by_cases heq : l.length = m.length
  · exact rints_same v u l m w h1 h2 heq
  · rw [show decide (l = m) = false by rw [decide_eq_false_iff_not]; rintro rfl; exact heq rfl]
    exact rints_len v u l m w h1 h2 heq

set_option maxHeartbeats 400000 in
theorem rown_any (v : Value) (l : List Int) (w : World) (h1 : Row w v l) (hn : l.length ≤ 100000) :
    Calls Try.prog 7 #[v] w fun e w' => ∃ p c, e = .returned (.slice p l.length c) ∧ Row w' (.slice p l.length c) l ∧ Lo w w' := by
  have HR := Lib.hid h1
  clear h1
  go_enter Try.func7, Try.ntmps7
  go_wp2_with (at_builtin; refine wpList_app _ rfl (.tmp 4) (.tmp 5) rfl w.heap.size (.slice none 0 0) [] rfl (Own.none _ _) _ l rfl HR.out (by simp; omega) (Nat.le_refl _) ?_; intro q c2 w1 hown hlo; rw [List.nil_append, List.length_nil, Nat.zero_add] at hown; have HO := Lib.hid hown.row; have HL := Lib.hid (hlo w (Lo.refl w) rfl); clear hown hlo; rw [List.length_nil, Nat.zero_add])
  go_ret
  exact ⟨q, c2, rfl, HO.out, HL.out⟩
end Go.Proofs.Ytcbchnckeeklkaa
