/-
  Plain facts on font files (layer 4, sfnt): what a file that was put reads as; without its last byte; with one byte that is another one. No conditions beyond those stated.
-/
import Derived.Test.YtchhjfocanjniaaGreatSfMath
namespace Sf
open Bn

theorem getD_mem {l : List Tab} {i : Nat} (h : i < l.length) : l.getD i ([], []) ∈ l := by simp [List.getD, List.getElem?_eq_getElem h]
theorem right_len {l : List Tab} (h : right l = true) : l.length ≤ 64 := by
  unfold right at h; simp only [Bool.and_eq_true, decide_eq_true_eq] at h; exact h.2
theorem right_at {l : List Tab} (h : right l = true) {i : Nat} (hi : i < l.length) : okAt l i = true := by
  unfold right at h; simp only [Bool.and_eq_true, List.all_eq_true] at h; exact h.1 i (List.mem_range.2 hi)
theorem right_tag {l : List Tab} (h : right l = true) {i : Nat} (hi : i < l.length) : isTag (tagAt l i) = true := by
  have := right_at h hi; unfold okAt at this; simp only [Bool.and_eq_true] at this; exact this.1
theorem tag_len {t : List UInt8} (h : isTag t = true) : t.length = 4 := by
  unfold isTag at h; simp only [Bool.and_eq_true, decide_eq_true_eq] at h; exact h.1
theorem right_four {l : List Tab} (h : right l = true) : ∀ x ∈ l, x.1.length = 4 := by
  intro x hx
  obtain ⟨i, hi, he⟩ := List.mem_iff_getElem.1 hx
  have := tag_len (right_tag h hi)
  unfold tagAt at this
  rw [show l.getD i ([], []) = x by simp [List.getD, List.getElem?_eq_getElem hi, he]] at this
  exact this
theorem right_less {l : List Tab} (h : right l = true) {i : Nat} (hi : i < l.length) (h0 : 0 < i) : less (tagAt l (i - 1)) (tagAt l i) = true := by
  have := right_at h hi
  unfold okAt at this
  simp only [Bool.and_eq_true, Bool.or_eq_true, decide_eq_true_eq] at this
  rcases this.2 with h1 | h1
  · omega
  · exact h1
theorem wide_step {l : List Tab} {i : Nat} (hi : i < l.length) : wide l (i + 1) = wide l i + (up (datAt l i) 4).length := by
  unfold wide datAt
  rw [List.take_succ_eq_append_getElem hi, List.map_append, List.sum_append]
  simp [List.getD, List.getElem?_eq_getElem hi]
theorem wide_mono {l : List Tab} {i j : Nat} (h : i ≤ j) (hj : j ≤ l.length) : wide l i ≤ wide l j := by
  induction j with
  | zero => rw [show i = 0 by omega]; exact Nat.le_refl _
  | succ j ih =>
    by_cases e : i = j + 1
    · rw [e]; exact Nat.le_refl _
    · have := ih (by omega) (by omega)
      rw [wide_step (by omega)]; omega
theorem up_ge (d : List UInt8) : d.length ≤ (up d 4).length := by rw [up_len]; omega
theorem wide_four {l : List Tab} : ∀ {i : Nat}, i ≤ l.length → wide l i % 4 = 0
  | 0, _ => by simp [wide]
  | i + 1, h => by
    have := wide_four (l := l) (i := i) (by omega)
    have h4 := up_mod (datAt l i) 4 (by omega)
    rw [wide_step (by omega)]; omega
theorem wide_end {l : List Tab} {i : Nat} (hi : i < l.length) : wide l i + (up (datAt l i) 4).length ≤ wide l l.length := by
  rw [← wide_step hi]; exact wide_mono (by omega) (Nat.le_refl _)
/-- Where table i stands. -/
def off (l : List Tab) (i : Nat) : Nat := 12 + 16 * l.length + wide l i
theorem off_end {l : List Tab} {i : Nat} (hi : i < l.length) : off l i + (up (datAt l i) 4).length ≤ total l := by
  have := wide_end hi
  unfold off total; omega
theorem total_ge (l : List Tab) : 12 + 16 * l.length ≤ total l := by unfold total; omega

theorem num_take (s : List UInt8) (pos n m : Nat) (h : pos + n ≤ m) : num (s.take m) pos n = num s pos n := by
  unfold num
  rw [List.drop_take, List.take_take, Nat.min_eq_left (by omega)]
theorem recTag_take (s : List UInt8) (i m : Nat) (h : 16 + 16 * i ≤ m) : recTag (s.take m) i = recTag s i := by
  unfold recTag
  rw [List.drop_take, List.take_take, Nat.min_eq_left (by omega)]

/-- The same head and records as the file of l. -/
def Hd (G : List UInt8) (v : Int) (l : List Tab) : Prop := G.take (12 + 16 * l.length) = (file v l).take (12 + 16 * l.length)
theorem Hd.num {G : List UInt8} {v : Int} {l : List Tab} (h : Hd G v l) {pos n : Nat} (hp : pos + n ≤ 12 + 16 * l.length) : num G pos n = num (file v l) pos n := by
  rw [← num_take G pos n _ hp, h, num_take _ pos n _ hp]
theorem Hd.tag {G : List UInt8} {v : Int} {l : List Tab} (h : Hd G v l) {i : Nat} (hi : i < l.length) : recTag G i = recTag (file v l) i := by
  rw [← recTag_take G i (12 + 16 * l.length) (by omega), h, recTag_take _ i _ (by omega)]

theorem isVer_cases {v : Int} (h : isVer v = true) : v = 65536 ∨ v = 1330926671 := by
  unfold isVer at h; simpa using h
theorem file_ver (v : Int) (l : List Tab) (h : isVer v = true) : (num (file v l) 0 4 : Int) = v := by
  obtain ⟨u, rfl, hu⟩ : ∃ u : Nat, v = u ∧ u < 256 ^ 4 := by
    rcases isVer_cases h with rfl | rfl
    · exact ⟨65536, rfl, by decide⟩
    · exact ⟨1330926671, rfl, by decide⟩
  have := num_at (s := file u l) [] (bytes (l.length : Nat) 2 ++ bytes (16 * (pow2 l.length).1 : Nat) 2 ++ bytes ((pow2 l.length).2 : Nat) 2 ++ bytes ((16 * l.length : Nat) - (16 * (pow2 l.length).1 : Nat) : Int) 2 ++ recs (12 + 16 * l.length) l ++ bodies l) u 4 0
    (by unfold file header; simp only [List.append_assoc, List.nil_append]) rfl hu
  rw [this]
theorem file_count (v : Int) (l : List Tab) (h : l.length ≤ 64) : num (file v l) 4 2 = l.length :=
  num_at (bytes v 4) (bytes (16 * (pow2 l.length).1 : Nat) 2 ++ bytes ((pow2 l.length).2 : Nat) 2 ++ bytes ((16 * l.length : Nat) - (16 * (pow2 l.length).1 : Nat) : Int) 2 ++ recs (12 + 16 * l.length) l ++ bodies l) l.length 2 4
    (by unfold file header; simp only [List.append_assoc]) (bytes_len _ _) (by omega)
theorem file_tag {v : Int} {l : List Tab} (hr : right l = true) {i : Nat} (hi : i < l.length) : recTag (file v l) i = tagAt l i := by
  obtain ⟨front, mid, R, B, he, hf, hm, hlen⟩ := file_split v l i hi
  obtain ⟨h1, h2, h3⟩ := hlen (right_four hr)
  have ht4 := tag_len (right_tag hr hi)
  unfold recTag
  rw [he, ← hf, ← h1]
  simp only [List.append_assoc, record]
  rw [List.drop_left]
  have := List.take_left (l₁ := tagAt l i) (l₂ := bytes (tsum (l.getD i ([], [])) : Nat) 4 ++ (bytes (12 + 16 * l.length + wide l i : Nat) 4 ++ (bytes (l.getD i ([], [])).2.length 4 ++ (R ++ (bodies (l.take i) ++ (up (datAt l i) 4 ++ B))))))
  rw [ht4] at this
  exact this
theorem file_sum {v : Int} {l : List Tab} (hr : right l = true) {i : Nat} (hi : i < l.length) : recSum (file v l) i = tsum (l.getD i ([], [])) := by
  obtain ⟨front, mid, R, B, he, hf, hm, hlen⟩ := file_split v l i hi
  obtain ⟨h1, h2, h3⟩ := hlen (right_four hr)
  have ht4 := tag_len (right_tag hr hi)
  refine num_at (front ++ tagAt l i) (bytes (12 + 16 * l.length + wide l i : Nat) 4 ++ bytes (l.getD i ([], [])).2.length 4 ++ R ++ bodies (l.take i) ++ up (datAt l i) 4 ++ B) _ 4 _ ?_ ?_ (tsum_lt _)
  · rw [he, ← hf]; simp only [List.append_assoc, record, tagAt]
  · rw [List.length_append, h1, ht4]; omega
theorem file_at {v : Int} {l : List Tab} (hr : right l = true) (ht : total l ≤ 16777216) {i : Nat} (hi : i < l.length) : recAt (file v l) i = off l i := by
  obtain ⟨front, mid, R, B, he, hf, hm, hlen⟩ := file_split v l i hi
  obtain ⟨h1, h2, h3⟩ := hlen (right_four hr)
  have ht4 := tag_len (right_tag hr hi)
  have hoe := off_end hi
  refine num_at (front ++ tagAt l i ++ bytes (tsum (l.getD i ([], [])) : Nat) 4) (bytes (l.getD i ([], [])).2.length 4 ++ R ++ bodies (l.take i) ++ up (datAt l i) 4 ++ B) (off l i) 4 _ ?_ ?_ (by rw [show 256 ^ 4 = 4294967296 from rfl]; omega)
  · rw [he, ← hf]; simp only [List.append_assoc, record, tagAt, off]
  · rw [List.length_append, List.length_append, h1, ht4, bytes_len]; omega
theorem file_many {v : Int} {l : List Tab} (hr : right l = true) (ht : total l ≤ 16777216) {i : Nat} (hi : i < l.length) : recLen (file v l) i = (datAt l i).length := by
  obtain ⟨front, mid, R, B, he, hf, hm, hlen⟩ := file_split v l i hi
  obtain ⟨h1, h2, h3⟩ := hlen (right_four hr)
  have ht4 := tag_len (right_tag hr hi)
  have hoe := off_end hi
  have hge := up_ge (datAt l i)
  refine num_at (front ++ tagAt l i ++ bytes (tsum (l.getD i ([], [])) : Nat) 4 ++ bytes (12 + 16 * l.length + wide l i : Nat) 4) (R ++ bodies (l.take i) ++ up (datAt l i) 4 ++ B) (datAt l i).length 4 _ ?_ ?_ (by rw [show 256 ^ 4 = 4294967296 from rfl]; omega)
  · rw [he, ← hf]; simp only [List.append_assoc, record, tagAt, datAt]
  · rw [List.length_append, List.length_append, List.length_append, h1, ht4, bytes_len, bytes_len]; omega
theorem file_from {v : Int} {l : List Tab} (hr : right l = true) {i : Nat} (hi : i < l.length) : (file v l).drop (off l i) = up (datAt l i) 4 ++ bodies (l.drop (i + 1)) := by
  have hl : l = l.take i ++ l.getD i ([], []) :: l.drop (i + 1) := by
    rw [show l.getD i ([], []) = l[i] by simp [List.getD, List.getElem?_eq_getElem hi], ← List.drop_eq_getElem_cons hi, List.take_append_drop]
  have e2 : bodies l = bodies (l.take i) ++ (up (datAt l i) 4 ++ bodies (l.drop (i + 1))) := by
    conv => lhs; rw [hl]
    rw [bodies_append, bodies]
    rfl
  have hlen : (header v l.length ++ recs (12 + 16 * l.length) l ++ bodies (l.take i)).length = off l i := by
    rw [List.length_append, List.length_append, header_len, recs_len l _ (right_four hr), bodies_len]; rfl
  unfold file
  rw [e2, ← List.append_assoc, ← hlen, List.drop_left]
theorem file_dat {v : Int} {l : List Tab} (hr : right l = true) {i : Nat} (hi : i < l.length) : ((file v l).drop (off l i)).take (datAt l i).length = datAt l i := by
  rw [file_from hr hi, up, List.append_assoc, List.take_left]

/-- What a file with this head reads as: only the tables' bytes and the length are asked. -/
theorem get_hd {G : List UInt8} {v : Int} {l : List Tab} (hv : isVer v = true) (hr : right l = true) (ht : total l ≤ 16777216) (hG : Hd G v l) (h1 : 12 + 16 * l.length ≤ G.length) (h2 : G.length ≤ 16777216) :
    get G = if scan (wrong G l.length) 0 l.length ≠ 0 then (0, [], scan (wrong G l.length) 0 l.length) else (v, (List.range l.length).map (tab G), 0) := by
  have hc : num G 4 2 = l.length := by rw [hG.num (by omega), file_count v l (right_len hr)]
  have hv4 : (num G 0 4 : Int) = v := by rw [hG.num (by omega)]; exact file_ver v l hv
  have hcl : anyClash G l.length = false := by
    refine anyClash_false fun i k hk hi => ?_
    have ea : ∀ j, j < l.length → recAt G j = off l j := fun j hj => by unfold recAt; rw [hG.num (by omega)]; exact file_at hr ht hj
    have el : ∀ j, j < l.length → recLen G j = (datAt l j).length := fun j hj => by unfold recLen; rw [hG.num (by omega)]; exact file_many hr ht hj
    have hm := wide_mono (l := l) (i := k + 1) (j := i) (by omega) (by omega)
    rw [wide_step (by omega)] at hm
    have hg := up_ge (datAt l k)
    unfold clash
    rw [ea i hi, el i hi, ea k (by omega), el k (by omega)]
    simp only [Bool.and_eq_false_iff, decide_eq_false_iff_not]
    unfold off
    omega
  unfold get
  rw [hc, hv4, hcl, hv, if_neg (by omega), if_neg (by omega), if_neg (by simp), if_neg (by have := right_len hr; omega), if_neg (by omega)]
  by_cases hs : scan (wrong G l.length) 0 l.length ≠ 0
  · rw [if_pos hs, if_pos hs]
  · rw [if_neg hs, if_neg hs, if_neg (by simp)]
theorem wrong_hd {G : List UInt8} {v : Int} {l : List Tab} (hr : right l = true) (ht : total l ≤ 16777216) (hG : Hd G v l) {i : Nat} (hi : i < l.length) :
    wrong G l.length i = if G.length < off l i + (datAt l i).length then 4 else if tsum (tagAt l i, (G.drop (off l i)).take (datAt l i).length) ≠ tsum (l.getD i ([], [])) then 5 else 0 := by
  have ea : recAt G i = off l i := by unfold recAt; rw [hG.num (by omega)]; exact file_at hr ht hi
  have el : recLen G i = (datAt l i).length := by unfold recLen; rw [hG.num (by omega)]; exact file_many hr ht hi
  have es : recSum G i = tsum (l.getD i ([], [])) := by unfold recSum; rw [hG.num (by omega)]; exact file_sum hr hi
  have et : recTag G i = tagAt l i := by rw [hG.tag hi]; exact file_tag hr hi
  have hb : badForm G l.length i = false := by
    unfold badForm
    have hf := wide_four (l := l) (i := i) (by omega)
    rw [et, ea, right_tag hr hi]
    have h3 : (decide (0 < i) && !less (recTag G (i - 1)) (tagAt l i)) = false := by
      by_cases h0 : 0 < i
      · have : recTag G (i - 1) = tagAt l (i - 1) := by rw [hG.tag (by omega)]; exact file_tag hr (by omega)
        rw [this, right_less hr hi h0]; simp
      · simp [h0]
    rw [h3]
    unfold off
    simp
    omega
  unfold wrong tab
  rw [hb, ea, el, es, et, if_neg (by simp)]

theorem Hd.refl (v : Int) (l : List Tab) : Hd (file v l) v l := rfl
/-- What is put is got. -/
theorem get_file {v : Int} {l : List Tab} (hv : isVer v = true) (hr : right l = true) (ht : total l ≤ 16777216) : get (file v l) = (v, l, 0) := by
  have hlen := file_len v l (right_four hr)
  rw [get_hd hv hr ht (Hd.refl v l) (by rw [hlen]; exact total_ge l) (by rw [hlen]; exact ht)]
  have hz : scan (wrong (file v l) l.length) 0 l.length = 0 := by
    refine scan_zero _ _ _ fun j _ hj => ?_
    have hj' : j < l.length := by omega
    have hoe := off_end hj'
    have hge := up_ge (datAt l j)
    rw [wrong_hd hr ht (Hd.refl v l) hj', file_dat hr hj', if_neg (by rw [hlen]; omega), if_neg (by
      rw [show (tagAt l j, datAt l j) = l.getD j ([], []) from rfl]; simp)]
  rw [hz, if_neg (by simp)]
  congr 2
  apply List.ext_getElem
  · simp
  · intro j h1 h2
    have hj : j < l.length := h2
    simp only [List.getElem_map, List.getElem_range]
    unfold tab
    rw [file_tag hr hj, file_at hr ht hj, file_many hr ht hj, file_dat hr hj]
    show l.getD j ([], []) = _
    simp [List.getD, List.getElem?_eq_getElem hj]
theorem put_ok {v : Int} {l : List Tab} (h : (put v l).2 = 0) : isVer v = true ∧ right l = true ∧ total l ≤ 16777216 ∧ (put v l).1 = file v l := by
  unfold put at *
  by_cases c1 : isVer v = false ∨ right l = false
  · rw [if_pos c1] at h; cases h
  · rw [if_neg c1] at h ⊢
    by_cases c2 : 16777216 < total l
    · rw [if_pos c2] at h; cases h
    · rw [if_neg c2]
      refine ⟨?_, ?_, by omega, rfl⟩
      · cases e : isVer v with
        | true => rfl
        | false => exact absurd (.inl e) c1
      · cases e : right l with
        | true => rfl
        | false => exact absurd (.inr e) c1
theorem put_refused {v : Int} {l : List Tab} (h : (put v l).2 ≠ 0) : (put v l).1 = [] := by
  unfold put at *
  by_cases c1 : isVer v = false ∨ right l = false
  · rw [if_pos c1]
  · rw [if_neg c1] at h ⊢
    by_cases c2 : 16777216 < total l
    · rw [if_pos c2]
    · rw [if_neg c2] at h; exact absurd rfl h
theorem get_put {v : Int} {l : List Tab} (h : (put v l).2 = 0) : get (put v l).1 = (v, l, 0) ∧ (put v l).1.length % 4 = 0 := by
  obtain ⟨h1, h2, h3, h4⟩ := put_ok h
  rw [h4]
  refine ⟨get_file h1 h2 h3, ?_⟩
  rw [file_len v l (right_four h2)]
  have := wide_four (l := l) (i := l.length) (Nat.le_refl _)
  unfold total; omega
end Sf
