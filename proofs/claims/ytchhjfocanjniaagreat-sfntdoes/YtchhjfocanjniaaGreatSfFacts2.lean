/-
  Plain facts on font files (layer 4, sfnt), further: a file without its last byte, with one byte that is another one; what is got is put; tables by their tags. No conditions beyond those stated.
-/
import Derived.Test.YtchhjfocanjniaaGreatSfFacts
namespace Sf
open Bn

/-- Without its last byte, which is the last table's. -/
theorem get_cut {v : Int} {l : List Tab} (hv : isVer v = true) (hr : right l = true) (ht : total l ≤ 16777216) (h0 : 0 < l.length) (h1 : 0 < (datAt l (l.length - 1)).length) (h4 : (datAt l (l.length - 1)).length % 4 = 0) :
    get ((file v l).take ((file v l).length - 1)) = (0, [], 4) := by
  have hlen := file_len v l (right_four hr)
  have hi : l.length - 1 < l.length := by omega
  have hst := wide_step hi
  rw [show l.length - 1 + 1 = l.length by omega, up_done _ 4 h4] at hst
  have htot : total l = off l (l.length - 1) + (datAt l (l.length - 1)).length := by unfold total off; omega
  have hge := total_ge l
  have hoff : 12 + 16 * l.length ≤ off l (l.length - 1) := by unfold off; omega
  have hG : Hd ((file v l).take ((file v l).length - 1)) v l := by
    unfold Hd
    rw [List.take_take, Nat.min_eq_left (by omega)]
  have hgl : ((file v l).take ((file v l).length - 1)).length = total l - 1 := by rw [List.length_take, hlen]; omega
  rw [get_hd hv hr ht hG (by omega) (by omega)]
  have hs : scan (wrong ((file v l).take ((file v l).length - 1)) l.length) 0 l.length = 4 := by
    have hw : wrong ((file v l).take ((file v l).length - 1)) l.length (l.length - 1) = 4 := by
      rw [wrong_hd hr ht hG hi, if_pos (by omega)]
    rw [scan_first _ l.length 0 (l.length - 1) (by omega) (by omega) ?_ (by rw [hw]; simp), hw]
    intro j _ hj
    have hj' : j < l.length := by omega
    have hm := wide_mono (l := l) (i := j + 1) (j := l.length - 1) (by omega) (by omega)
    rw [wide_step hj'] at hm
    have hg := up_ge (datAt l j)
    have hjo : off l j + (datAt l j).length ≤ off l (l.length - 1) := by unfold off; omega
    rw [wrong_hd hr ht hG hj', if_neg (by omega)]
    have : ((((file v l).take ((file v l).length - 1)).drop (off l j)).take (datAt l j).length) = datAt l j := by
      rw [List.drop_take, List.take_take, Nat.min_eq_left (by omega), file_dat hr hj']
    rw [this, if_neg (by rw [show (tagAt l j, datAt l j) = l.getD j ([], []) from rfl]; simp)]
  rw [hs, if_pos (by simp)]

theorem noughts_len (d : List UInt8) (h : 12 ≤ d.length) : (noughts d).length = d.length := by
  unfold noughts; simp; omega
theorem noughts_getD (d : List UInt8) (p : Nat) (h : 12 ≤ d.length) (hp : p < 8 ∨ 12 ≤ p) : (noughts d).getD p 0 = d.getD p 0 := by
  unfold noughts
  rcases hp with hp | hp
  · simp only [List.getD]
    rw [List.append_assoc, List.getElem?_append_left (by simp; omega), List.getElem?_take_of_lt hp]
  · simp only [List.getD]
    rw [List.getElem?_append_right (by simp; omega)]
    simp
    rw [show 12 + (p - (min 8 d.length + 4)) = p by omega]
theorem noughts_set_out (d : List UInt8) (p : Nat) (c : UInt8) (h : 12 ≤ d.length) (hp : p < 8 ∨ 12 ≤ p) : noughts (d.set p c) = (noughts d).set p c := by
  unfold noughts
  rcases hp with hp | hp
  · rw [List.take_set, List.drop_set_of_lt (by omega), List.append_assoc, List.append_assoc, List.set_append_left _ _ (by simp; omega)]
  · rw [List.take_set_of_le (by omega), List.drop_set, if_neg (by omega), List.set_append_right _ _ (by simp; omega)]
    congr 2
    simp
    omega
theorem noughts_set_in (d : List UInt8) (p : Nat) (c : UInt8) (hp : 8 ≤ p) (hp2 : p < 12) : noughts (d.set p c) = noughts d := by
  unfold noughts
  rw [List.take_set_of_le (by omega), List.drop_set_of_lt (by omega)]
/-- One byte that is another one turns a table's sum, but for four bytes of head. -/
def free (t d : List UInt8) (p : Nat) : Prop := t = headTag ∧ 8 ≤ p ∧ p ≤ 11 ∧ 12 ≤ d.length
theorem tsum_ne (t d : List UInt8) (p : Nat) (c : UInt8) (hp : p < d.length) (hc : d.getD p 0 ≠ c) (hf : ¬ free t d p) : tsum (t, d.set p c) ≠ tsum (t, d) := by
  unfold tsum
  simp only [List.length_set]
  by_cases h : t = headTag ∧ 12 ≤ d.length
  · rw [if_pos h, if_pos h]
    have hpo : p < 8 ∨ 12 ≤ p := by
      rcases Nat.lt_or_ge p 8 with h1 | h1
      · exact .inl h1
      · rcases Nat.lt_or_ge p 12 with h2 | h2
        · exact absurd ⟨h.1, h1, by omega, h.2⟩ hf
        · exact .inr h2
    rw [noughts_set_out d p c h.2 hpo]
    exact sum_ne _ _ _ (by rw [noughts_len d h.2]; exact hp) (by rw [noughts_getD d p h.2 hpo]; exact hc)
  · rw [if_neg h, if_neg h]; exact sum_ne d p c hp hc
theorem tsum_free (t d : List UInt8) (p : Nat) (c : UInt8) (hf : free t d p) : tsum (t, d.set p c) = tsum (t, d) := by
  obtain ⟨h1, h2, h3, h4⟩ := hf
  unfold tsum
  simp only [List.length_set]
  rw [if_pos ⟨h1, h4⟩, if_pos ⟨h1, h4⟩, noughts_set_in d p c h2 (by omega)]

theorem drop_take_set_out (s : List UInt8) (q o n : Nat) (c : UInt8) (h : q < o ∨ o + n ≤ q) : ((s.set q c).drop o).take n = (s.drop o).take n := by
  rcases h with h | h
  · rw [List.drop_set_of_lt h]
  · rw [List.drop_set, if_neg (by omega), List.take_set_of_le (by omega)]
theorem drop_take_set_in (s : List UInt8) (q o n : Nat) (c : UInt8) (h : o ≤ q) : ((s.set q c).drop o).take n = ((s.drop o).take n).set (q - o) c := by
  rw [List.drop_set, if_neg (by omega), List.take_set]

/-- One byte of a table is another one. -/
theorem get_changed {v : Int} {l : List Tab} (hv : isVer v = true) (hr : right l = true) (ht : total l ≤ 16777216) {k p : Nat} {c : UInt8} (hk : k < l.length) (hp : p < (datAt l k).length) (hc : (datAt l k).getD p 0 ≠ c) :
    (free (tagAt l k) (datAt l k) p → (get ((file v l).set (off l k + p) c)).2.2 = 0) ∧ (¬ free (tagAt l k) (datAt l k) p → (get ((file v l).set (off l k + p) c)).2.2 = 5) := by
  have hlen := file_len v l (right_four hr)
  have hG : Hd ((file v l).set (off l k + p) c) v l := by
    unfold Hd
    rw [List.take_set_of_le (by unfold off; omega)]
  have hgl : ((file v l).set (off l k + p) c).length = total l := by rw [List.length_set, hlen]
  have hw : ∀ i, i < l.length → i ≠ k → wrong ((file v l).set (off l k + p) c) l.length i = 0 := by
    intro i hi hne
    have hoe := off_end hi
    have hge := up_ge (datAt l i)
    have hgk := up_ge (datAt l k)
    have hout : off l k + p < off l i ∨ off l i + (datAt l i).length ≤ off l k + p := by
      rcases Nat.lt_or_ge i k with h | h
      · right
        have hm := wide_mono (l := l) (i := i + 1) (j := k) (by omega) (by omega)
        rw [wide_step hi] at hm
        unfold off; omega
      · left
        have hm := wide_mono (l := l) (i := k + 1) (j := i) (by omega) (by omega)
        rw [wide_step hk] at hm
        unfold off; omega
    rw [wrong_hd hr ht hG hi, if_neg (by omega), drop_take_set_out _ _ _ _ _ hout, file_dat hr hi, if_neg (by rw [show (tagAt l i, datAt l i) = l.getD i ([], []) from rfl]; simp)]
  have hwk : wrong ((file v l).set (off l k + p) c) l.length k = if tsum (tagAt l k, (datAt l k).set p c) ≠ tsum (tagAt l k, datAt l k) then 5 else 0 := by
    have hoe := off_end hk
    have hge := up_ge (datAt l k)
    rw [wrong_hd hr ht hG hk, if_neg (by omega), drop_take_set_in _ _ _ _ _ (by omega), file_dat hr hk, Nat.add_sub_cancel_left]
    rfl
  rw [get_hd hv hr ht hG (by rw [hgl]; exact total_ge l) (by omega)]
  constructor
  · intro hf
    rw [tsum_free _ _ _ _ hf, if_neg (by simp)] at hwk
    rw [scan_zero _ _ _ (fun j _ hj => by
      by_cases e : j = k
      · rw [e]; exact hwk
      · exact hw j (by omega) e), if_neg (by simp)]
  · intro hf
    rw [if_pos (tsum_ne _ _ _ _ hp hc hf)] at hwk
    rw [scan_first _ _ _ k (by omega) (by omega) (fun j _ hj => hw j (by omega) (by omega)) (by rw [hwk]; simp), hwk, if_pos (by simp)]

/-! What is got is put. -/
theorem wrong_ok {s : List UInt8} {n i : Nat} (h : wrong s n i = 0) : badForm s n i = false ∧ recAt s i + recLen s i ≤ s.length ∧ tsum (tab s i) = recSum s i := by
  unfold wrong at h
  by_cases c1 : badForm s n i = true
  · rw [if_pos c1] at h; cases h
  · rw [if_neg c1] at h
    by_cases c2 : s.length < recAt s i + recLen s i
    · rw [if_pos c2] at h; cases h
    · rw [if_neg c2] at h
      by_cases c3 : tsum (tab s i) ≠ recSum s i
      · rw [if_pos c3] at h; cases h
      · exact ⟨by simpa using c1, by omega, by simpa using c3⟩
theorem get_ok {s : List UInt8} (h : (get s).2.2 = 0) : s.length ≤ 16777216 ∧ isVer (get s).1 = true ∧ num s 4 2 ≤ 64 ∧ (get s).2.1 = (List.range (num s 4 2)).map (tab s) ∧ ∀ i, i < num s 4 2 → wrong s (num s 4 2) i = 0 := by
  unfold get at *
  by_cases c1 : 16777216 < s.length
  · rw [if_pos c1] at h; cases h
  · rw [if_neg c1] at h ⊢
    by_cases c2 : s.length < 12
    · rw [if_pos c2] at h; cases h
    · rw [if_neg c2] at h ⊢
      by_cases c3 : isVer (num s 0 4) = false
      · rw [if_pos c3] at h; cases h
      · rw [if_neg c3] at h ⊢
        by_cases c4 : 64 < num s 4 2
        · rw [if_pos c4] at h; cases h
        · rw [if_neg c4] at h ⊢
          by_cases c5 : s.length < 12 + 16 * num s 4 2
          · rw [if_pos c5] at h; cases h
          · rw [if_neg c5] at h ⊢
            by_cases c6 : scan (wrong s (num s 4 2)) 0 (num s 4 2) ≠ 0
            · rw [if_pos c6] at h; exact absurd h c6
            · rw [if_neg c6] at h ⊢
              by_cases c7 : anyClash s (num s 4 2) = true
              · rw [if_pos c7] at h; cases h
              · rw [if_neg c7]
                refine ⟨by omega, by simpa using c3, by omega, rfl, fun i hi => scan_all _ _ _ (by simpa using c6) i (by omega) (by omega)⟩
theorem get_none {s : List UInt8} (h : (get s).2.2 ≠ 0) : (get s).1 = 0 ∧ (get s).2.1 = [] := by
  unfold get at *
  by_cases c1 : 16777216 < s.length
  · rw [if_pos c1]; exact ⟨rfl, rfl⟩
  · rw [if_neg c1] at h ⊢
    by_cases c2 : s.length < 12
    · rw [if_pos c2]; exact ⟨rfl, rfl⟩
    · rw [if_neg c2] at h ⊢
      by_cases c3 : isVer (num s 0 4) = false
      · rw [if_pos c3]; exact ⟨rfl, rfl⟩
      · rw [if_neg c3] at h ⊢
        by_cases c4 : 64 < num s 4 2
        · rw [if_pos c4]; exact ⟨rfl, rfl⟩
        · rw [if_neg c4] at h ⊢
          by_cases c5 : s.length < 12 + 16 * num s 4 2
          · rw [if_pos c5]; exact ⟨rfl, rfl⟩
          · rw [if_neg c5] at h ⊢
            by_cases c6 : scan (wrong s (num s 4 2)) 0 (num s 4 2) ≠ 0
            · rw [if_pos c6]; exact ⟨rfl, rfl⟩
            · rw [if_neg c6] at h ⊢
              by_cases c7 : anyClash s (num s 4 2) = true
              · rw [if_pos c7]; exact ⟨rfl, rfl⟩
              · rw [if_neg c7] at h; exact absurd rfl h
theorem got_at (s : List UInt8) (n i : Nat) (hi : i < n) : ((List.range n).map (tab s)).getD i ([], []) = tab s i := by
  simp [List.getD, hi]
theorem wide_le (l : List Tab) (m : Nat) (h : ∀ i, i < l.length → (datAt l i).length ≤ m) : ∀ k, k ≤ l.length → wide l k ≤ k * (m + 3)
  | 0, _ => by simp [wide]
  | k + 1, hk => by
    have h1 := wide_le l m h k (by omega)
    have h2 := h k (by omega)
    rw [wide_step (by omega), up_len, Nat.succ_mul]
    omega
/-- What is got from a short file is put, and got again as it was. -/
theorem get_again {s : List UInt8} (hs : s.length ≤ 4000) (h : (get s).2.2 = 0) : (put (get s).1 (get s).2.1).2 = 0 ∧ get (put (get s).1 (get s).2.1).1 = ((get s).1, (get s).2.1, 0) := by
  obtain ⟨h1, h2, h3, h4, h5⟩ := get_ok h
  have hlen : (get s).2.1.length = num s 4 2 := by rw [h4]; simp
  have hat : ∀ i, i < num s 4 2 → (get s).2.1.getD i ([], []) = tab s i := fun i hi => by rw [h4]; exact got_at s _ i hi
  have hr : right (get s).2.1 = true := by
    unfold right
    simp only [Bool.and_eq_true, List.all_eq_true, decide_eq_true_eq]
    refine ⟨fun i hi => ?_, by omega⟩
    have hi' : i < num s 4 2 := by rw [← hlen]; exact List.mem_range.1 hi
    obtain ⟨w1, _, _⟩ := wrong_ok (h5 i hi')
    unfold badForm at w1
    simp only [Bool.or_eq_false_iff, Bool.not_eq_false'] at w1
    obtain ⟨⟨⟨t1, t2⟩, _⟩, _⟩ := w1
    unfold okAt tagAt
    rw [hat i hi']
    show (isTag (recTag s i) && (decide (i = 0) || less ((get s).2.1.getD (i - 1) ([], [])).1 (recTag s i))) = true
    rw [t1]
    by_cases h0 : i = 0
    · simp [h0]
    · rw [hat (i - 1) (by omega)]
      show (true && (decide (i = 0) || less (recTag s (i - 1)) (recTag s i))) = true
      have : less (recTag s (i - 1)) (recTag s i) = true := by
        rw [show decide (0 < i) = true by simp; omega] at t2
        simpa using t2
      rw [this]; simp
  have ht : total (get s).2.1 ≤ 16777216 := by
    have := wide_le (get s).2.1 4000 (fun i hi => by
      unfold datAt
      rw [hat i (by omega)]
      show ((s.drop (recAt s i)).take (recLen s i)).length ≤ 4000
      rw [List.length_take, List.length_drop]; omega) _ (Nat.le_refl _)
    unfold total
    rw [hlen] at this ⊢
    have h6 : num s 4 2 * (4000 + 3) ≤ 64 * 4003 := Nat.mul_le_mul_right _ h3
    omega
  have hp : put (get s).1 (get s).2.1 = (file (get s).1 (get s).2.1, 0) := by
    unfold put
    rw [if_neg (by rw [h2, hr]; simp), if_neg (by omega)]
  rw [hp]
  exact ⟨rfl, get_file h2 hr ht⟩

/-! Tables by their tags. -/
theorem tags_less {l : List Tab} (hr : right l = true) : ∀ (j i : Nat), i < j → j < l.length → tagAt l i < tagAt l j
  | 0, i, h, _ => by omega
  | j + 1, i, h, hj => by
    have h1 : tagAt l j < tagAt l (j + 1) := by
      have := right_less hr hj (by omega)
      unfold less at this
      simpa using this
    by_cases e : i = j
    · rw [e]; exact h1
    · exact List.lt_trans (tags_less hr j i (by omega) (by omega)) h1
theorem tags_ne {l : List Tab} (hr : right l = true) {i j : Nat} (hi : i < l.length) (hj : j < l.length) (h : i ≠ j) : tagAt l i ≠ tagAt l j := by
  intro he
  rcases Nat.lt_or_gt_of_ne h with h1 | h1
  · have := tags_less hr j i h1 hj
    rw [he] at this
    exact List.lt_irrefl _ this
  · have := tags_less hr i j h1 hi
    rw [he] at this
    exact List.lt_irrefl _ this
theorem find_at {l : List Tab} (hr : right l = true) {i : Nat} (hi : i < l.length) : find l (tagAt l i) = (datAt l i, true) := by
  have h : l.find? (fun x => decide (x.1 = tagAt l i)) = some (l.getD i ([], [])) := by
    rw [List.find?_eq_some_iff_getElem]
    refine ⟨by simp [tagAt], i, hi, by simp [List.getD, List.getElem?_eq_getElem hi], fun j hj => ?_⟩
    have hne := tags_ne hr (i := j) (j := i) (by omega) hi (by omega)
    unfold tagAt at hne
    rw [show l.getD j ([], []) = l[j] by simp [List.getD, List.getElem?_eq_getElem (show j < l.length by omega)]] at hne
    simpa [tagAt] using hne
  unfold find
  rw [h]
  rfl
/-- A table's sum, by parts. -/
theorem tsum_plain {t d : List UInt8} (h : t ≠ headTag ∨ d.length < 12) : tsum (t, d) = Bn.sum d := by
  unfold tsum
  rw [if_neg (by rintro ⟨h1, h2⟩; rcases h with h | h; exact h h1; simp at h2; omega)]
theorem tsum_head {d : List UInt8} (h : 12 ≤ d.length) : (tsum (headTag, d) + Bn.sum ((d.drop 8).take 4)) % 4294967296 = Bn.sum d := by
  unfold tsum
  rw [if_pos ⟨rfl, h⟩]
  have := sum_without (d.take 8) ((d.drop 8).take 4) (d.drop 12) (by simp; omega) (by simp; omega)
  rw [show noughts d = d.take 8 ++ [0, 0, 0, 0] ++ d.drop 12 from rfl, this]
  congr 1
  rw [show d.drop 12 = (d.drop 8).drop 4 by rw [List.drop_drop], List.append_assoc, List.take_append_drop, List.take_append_drop]
end Sf
