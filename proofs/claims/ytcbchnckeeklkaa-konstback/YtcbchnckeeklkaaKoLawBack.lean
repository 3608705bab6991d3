/-
  The walk of the law KonstBack. No conditions beyond those stated: each text has at most the bytes that the form itself lets in.
-/
import Derived.Test.YtcbchnckeeklkaaKoTold
import Derived.SizedLaws
namespace Go.Proofs.Ytcbchnckeeklkaa
open Go.RowKit

theorem ktadd (a b c : List UInt8) (hc : a ++ b = c) (h : a.length + b.length ≤ 100000000) (W : World) : (Op.stringOp .add ⟨a.toArray⟩ ⟨b.toArray⟩).run Try.prog W = .ok (.string ⟨c.toArray⟩) W := by
  rw [← hc, run_string_add_sum W _ _ (by show a.length + b.length ≤ _; omega), Gk.cat_list]

set_option maxHeartbeats 400000 in
theorem konstBack_far (p : Option Addr) (n c : Nat) (a b : List UInt8) (w : World) (ha : a.length ≤ 1000000000000000) (hb : b.length ≤ 1000000000000000) (h : 100 < n ∨ 500 < a.length + b.length) :
    Calls Try.prog 4 #[.slice p n c, .string ⟨a.toArray⟩, .string ⟨b.toArray⟩] w fun e w' => e = .returned (.bool true) ∧ Lo w w' := by
  have hsz : (ByteArray.mk a.toArray).size = a.length := rfl
  have hsz2 : (ByteArray.mk b.toArray).size = b.length := rfl
  by_cases hn : 100 < n
  · have hq : (100 : Int) < (n : Int) := by omega
    generalize a.length = an at *
    generalize b.length = bn at *
    go_enter Try.func4, Try.ntmps4
    go_wp2_with fail
    go_ret
    exact ⟨rfl, Lo.refl _⟩
  · have hq0 : ¬ (100 : Int) < (n : Int) := by omega
    have hq : (500 : Int) < (a.length : Int) + (b.length : Int) := by omega
    generalize a.length = an at *
    generalize b.length = bn at *
    go_enter Try.func4, Try.ntmps4
    go_wp2_with fail
    go_ret
    exact ⟨rfl, Lo.refl _⟩

set_option maxHeartbeats 800000 in
theorem konstBack_no (v : Value) (l : List Int) (a b : List UInt8) (w : World) (hr : Row w v l) (hn : l.length ≤ 100) (hab : a.length + b.length ≤ 500) (h0 : (Ko.put l).2 ≠ 0) :
    Calls Try.prog 4 #[v, .string ⟨a.toArray⟩, .string ⟨b.toArray⟩] w fun e w' => e = .returned (.bool true) ∧ Lo w w' := by
  obtain ⟨hc, hp⟩ := Ko.put_no h0
  have hp2 : Ko.put l = ([], 1) := by unfold Ko.put; rw [if_pos hc]
  have HP := Lib.hid (kput_any v l w hr)
  rw [hp2] at HP
  unfold strErr at HP
  have HI := Lib.hid (fun (u : Value) (W : World) (k : Row W u l) => kis_any u l W k)
  rw [hc] at HI
  have HD := Lib.hid (fun W => ktold_any W)
  obtain ⟨p, c, rfl, _⟩ := hr.form
  have HR := Lib.hid hr
  have hsz : (ByteArray.mk a.toArray).size = a.length := rfl
  have hsz2 : (ByteArray.mk b.toArray).size = b.length := rfl
  have hq0 : ¬ (100 : Int) < (l.length : Int) := by omega
  have hq : ¬ (500 : Int) < (a.length : Int) + (b.length : Int) := by omega
  generalize a.length = an at *
  generalize b.length = bn at *
  generalize l.length = n at *
  dsimp only at HP
  rw [show ([] : List UInt8).toArray = #[] from rfl] at HP
  clear hr hc hp hp2 h0
  go_enter Try.func4, Try.ntmps4
  go_wp2_with fail
  refine HP.out.mono ?_
  rintro e w2 ⟨rfl, lo⟩
  have HL2 := Lib.hid lo
  have HR2 := Lib.hid (HR.out.lo lo)
  clear lo HP
  go_wp2_with fail
  refine (HD.out _).mono ?_
  rintro e w3 ⟨rfl, lo⟩
  have HL3 := Lib.hid (HL2.out.trans lo)
  have HR3 := Lib.hid (HR2.out.lo lo)
  clear lo HD
  go_wp2_with fail
  refine (HI.out _ _ HR3.out).mono ?_
  rintro e w4 ⟨rfl, lo⟩
  have HL4 := Lib.hid (HL3.out.trans lo)
  clear lo HI
  go_wp2_with fail
  go_ret
  exact ⟨rfl, HL4.out⟩

set_option maxRecDepth 100000 in
set_option maxHeartbeats 1600000 in
theorem konstBack_ok (v : Value) (l : List Int) (a b : List UInt8) (w : World) (hr : Row w v l) (hn : l.length ≤ 100) (hab : a.length + b.length ≤ 500) (h0 : (Ko.put l).2 = 0) :
    Calls Try.prog 4 #[v, .string ⟨a.toArray⟩, .string ⟨b.toArray⟩] w fun e w' => e = .returned (.bool true) ∧ Lo w w' := by
  have HP := Lib.hid (kput_any v l w hr)
  unfold strErr at HP
  rw [h0] at HP
  obtain ⟨hg, hlen, hg2⟩ := Ko.get_put h0 a b
  generalize (Ko.put l).1 = t at *
  obtain ⟨u, hu⟩ : ∃ u, a ++ t = u := ⟨_, rfl⟩
  obtain ⟨r, hr2⟩ : ∃ r, u ++ b = r := ⟨_, rfl⟩
  obtain ⟨t2, ht2⟩ : ∃ t2, t.take 213 = t2 := ⟨_, rfl⟩
  obtain ⟨q, hq2⟩ : ∃ q, a ++ t2 = q := ⟨_, rfl⟩
  rw [hu, hr2] at hg
  rw [ht2, hq2] at hg2
  have hul : u.length = a.length + t.length := by rw [← hu, List.length_append]
  have hrl : r.length = u.length + b.length := by rw [← hr2, List.length_append]
  have ht2l : t2.length = 213 := by rw [← ht2, List.length_take, hlen]; rfl
  have hql : q.length = a.length + 213 := by rw [← hq2, List.length_append, ht2l]
  have x1 := fun W => ktadd a t u hu (by omega) W
  have x2 := fun W => ktadd u b r hr2 (by omega) W
  have x3 := fun W => ktadd a t2 q hq2 (by omega) W
  have hex : (ByteArray.mk t.toArray).extract 0 213 = ByteArray.mk t2.toArray := by rw [Gk.extract_list, ← ht2]; rfl
  have HG := Lib.hid (fun W => kget_any r (a.length : Int) W (by omega) (by omega))
  rw [hg] at HG
  have HG2 := Lib.hid (fun W => kget_any q (a.length : Int) W (by omega) (by omega))
  obtain ⟨g1, hg1⟩ : ∃ g1, (Ko.get q a.length).1 = g1 := ⟨_, rfl⟩
  rw [show Ko.get q a.length = (g1, 4) from Prod.ext hg1 hg2] at HG2
  unfold GotRow at HG HG2
  have HN := Lib.hid (fun (v u : Value) (W : World) (k : Row W v l) (k2 : Row W u l) => rints_any v u l l W k k2)
  rw [decide_eq_true rfl] at HN
  have HD := Lib.hid (fun W => ktold_any W)
  obtain ⟨p, c, rfl, _⟩ := hr.form
  have HR := Lib.hid hr
  have hsz : (ByteArray.mk a.toArray).size = a.length := rfl
  have hsz2 : (ByteArray.mk b.toArray).size = b.length := rfl
  have hsz3 : (ByteArray.mk t.toArray).size = 214 := hlen
  have hq0 : ¬ (100 : Int) < (l.length : Int) := by omega
  have hq : ¬ (500 : Int) < (a.length : Int) + (b.length : Int) := by omega
  dsimp only at HG HG2
  generalize a.length = an at *
  generalize b.length = bn at *
  generalize l.length = n at *
  generalize g1.length = gn at *
  clear hr hg hg1 hg2 h0 hu hr2 hul hrl hlen ht2 hq2 ht2l hql
  go_enter Try.func4, Try.ntmps4
  go_wp2_with fail
  refine HP.out.mono ?_
  rintro e w2 ⟨rfl, lo⟩
  have HL2 := Lib.hid lo
  have HR2 := Lib.hid (HR.out.lo lo)
  clear lo HP
  go_wp2_with fail
  refine (HG.out _).mono ?_
  rintro e w3 ⟨p3, c3, rfl, hrow, lo⟩
  have HL3 := Lib.hid (HL2.out.trans lo)
  have HR3 := Lib.hid (HR2.out.lo lo)
  have HM3 := Lib.hid hrow
  clear lo HG HL2 HR2 hrow x1 x2
  go_wp2_with fail
  refine (HG2.out _).mono ?_
  rintro e w4 ⟨p4, c4, rfl, _, lo⟩
  have HL4 := Lib.hid (HL3.out.trans lo)
  have HR4 := Lib.hid (HR3.out.lo lo)
  have HM4 := Lib.hid (HM3.out.lo lo)
  clear lo HG2 HL3 HR3 HM3 x3
  go_wp2_with fail
  refine (HD.out _).mono ?_
  rintro e w5 ⟨rfl, lo⟩
  have HL5 := Lib.hid (HL4.out.trans lo)
  have HR5 := Lib.hid (HR4.out.lo lo)
  have HM5 := Lib.hid (HM4.out.lo lo)
  clear lo HD HL4 HR4 HM4
  go_wp2_with fail
  refine (HN.out _ _ _ HR5.out HM5.out).mono ?_
  rintro e w6 ⟨rfl, lo⟩
  have HL6 := Lib.hid (HL5.out.trans lo)
  clear lo HN HL5
  go_wp2_with fail
  go_ret
  exact ⟨rfl, HL6.out⟩

theorem konstBack_walk (v : Value) (l : List Int) (a b : ByteArray) (w : World) (hr : Row w v l) (_w1 : a.size ≤ maxLen) (z1 : a.data.toList.length ≤ reachBytes) (_w2 : b.size ≤ maxLen) (z2 : b.data.toList.length ≤ reachBytes) :
    Calls Try.prog 4 #[v, .string a, .string b] w fun e w' => e = .returned (.bool true) ∧ Below w.heap.size w w' := by
  unfold reachBytes at z1 z2
  by_cases hc : 100 < l.length ∨ 500 < a.data.toList.length + b.data.toList.length
  · obtain ⟨p, c, rfl, _⟩ := hr.form
    exact konstBack_far p l.length c a.data.toList b.data.toList w (by omega) (by omega) hc
  · by_cases h0 : (Ko.put l).2 = 0
    · exact konstBack_ok v l a.data.toList b.data.toList w hr (by omega) (by omega) h0
    · exact konstBack_no v l a.data.toList b.data.toList w hr (by omega) (by omega) h0
end Go.Proofs.Ytcbchnckeeklkaa
