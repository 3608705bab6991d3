/-
  The walk of the law SfntBack: it returns true for all numbers and tables. No conditions.
-/
import Derived.Test.YtbcilhdamjgoeaaSfFiled
namespace Go.Proofs.Ytbcilhdamjgoeaa
open Go.RowKit

set_option maxRecDepth 100000 in
set_option maxHeartbeats 800000 in
theorem sfntBack_many (v : Int) (u : Value) (l : List Sf.Tab) (w : World) (hr : TRow w u l) (hb : ∀ x ∈ l, x.1.length ≤ 9223372036854775807 ∧ x.2.length ≤ 9223372036854775807) (h : Sf.few l = false) :
    Calls Try.prog 3 #[.int .i64 v, u] w fun e w' => e = .returned (.bool true) ∧ Lo w w' := by
  have HF := Lib.hid (few_any l u w hr hb)
  rw [h] at HF
  obtain ⟨p, c, rfl, hlen⟩ := hr.form
  clear hr hb h
  go_enter Try.func3, Try.ntmps3
  go_wp2_with fail
  refine HF.out.mono ?_
  rintro e w1 ⟨rfl, lo⟩
  go_wp2_with fail
  go_ret
  exact ⟨rfl, lo⟩
set_option maxRecDepth 100000 in
set_option maxHeartbeats 800000 in
theorem sfntBack_none (v : Int) (u : Value) (l : List Sf.Tab) (w : World) (hr : TRow w u l) (hb : ∀ x ∈ l, x.1.length ≤ 9223372036854775807 ∧ x.2.length ≤ 9223372036854775807) (h : Sf.few l = true) (hn : (Sf.put v l).2 ≠ 0) :
    Calls Try.prog 3 #[.int .i64 v, u] w fun e w' => e = .returned (.bool true) ∧ Lo w w' := by
  have HF := Lib.hid (few_any l u w hr hb)
  rw [h] at HF
  have HP := Lib.hid (fun (W : World) (lo : Lo w W) => sput_any v l u W (hr.lo lo) (Sf.few_small h))
  unfold strErr at HP
  rw [Sf.put_refused hn] at HP
  obtain ⟨p, c, rfl, hlen⟩ := hr.form
  generalize (Sf.put v l).2 = er at *
  have hbe : (er == 0) = false := by simpa using hn
  clear hr hb h hn
  go_enter Try.func3, Try.ntmps3
  go_wp2_with fail
  refine HF.out.mono ?_
  rintro e w1 ⟨rfl, lo⟩
  have HL := Lib.hid lo
  clear lo HF
  go_wp2_with fail
  refine (HP.out _ HL.out).mono ?_
  rintro e w2 ⟨rfl, lo⟩
  have HL2 := Lib.hid (HL.out.trans lo)
  clear lo HL HP
  go_wp2_with fail
  refine (filed_any _).mono ?_
  rintro e w3 ⟨rfl, lo⟩
  have HL3 := Lib.hid (HL2.out.trans lo)
  clear lo HL2
  go_wp2_with fail
  go_ret
  exact ⟨rfl, HL3.out⟩

/-- What stands behind the loop: where the last table's last byte is the file's. -/
def lastFull (l : List Sf.Tab) : Prop := 0 < l.length ∧ 0 < (Sf.datAt l (l.length - 1)).length ∧ (Sf.datAt l (l.length - 1)).length % 4 = 0

set_option maxRecDepth 100000 in
set_option maxHeartbeats 4000000 in
theorem sfntBack_some (v : Int) (u : Value) (l : List Sf.Tab) (w : World) (hr : TRow w u l) (hb : ∀ x ∈ l, x.1.length ≤ 9223372036854775807 ∧ x.2.length ≤ 9223372036854775807) (h : Sf.few l = true) (hn : (Sf.put v l).2 = 0) :
    Calls Try.prog 3 #[.int .i64 v, u] w fun e w' => e = .returned (.bool true) ∧ Lo w w' := by
  have HF := Lib.hid (few_any l u w hr hb)
  rw [h] at HF
  have HP := Lib.hid (fun (W : World) (lo : Lo w W) => sput_any v l u W (hr.lo lo) (Sf.few_small h))
  unfold strErr at HP
  rw [hn] at HP
  obtain ⟨hg, h4⟩ := Sf.get_put hn
  obtain ⟨hv, hri, ht, he⟩ := Sf.put_ok hn
  have hfl : (Sf.put v l).1.length = Sf.total l := by rw [he, Sf.file_len v l (Sf.right_four hri)]
  have hge := Sf.total_ge l
  have HG := Lib.hid (fun W => sget_any (Sf.put v l).1 W (by omega))
  unfold GotTabs at HG
  rw [hg] at HG
  have HFi := Lib.hid (fun (x : Sf.Tab) (i : Nat) (hx : l[i]? = some x) (m : Value) (W : World) (hm : TRow W m l) => (find_any l x.1 m W hm).mono fun e w' (hh : _ ∧ _) => (⟨by rw [hh.1, ← Sf.tagAt_some hx, Sf.find_at hri (List.getElem?_eq_some_iff.1 hx).1, Sf.datAt_some hx], hh.2⟩ : e = .returned (.tuple #[.string ⟨x.2.toArray⟩, .bool true]) ∧ Lo W w'))
  have HCut : Hid (lastFull l → ∀ W, Calls Try.prog 14 #[.string ⟨((Sf.put v l).1.take ((Sf.put v l).1.length - 1)).toArray⟩] W fun e w' => ∃ p c, e = .returned (.tuple #[.int .i64 0, .slice p 0 c, .int .i64 4]) ∧ Lo W w') := Lib.hid (fun ⟨l1, l2, l3⟩ W => by
    have hc := Sf.get_cut hv hri ht l1 l2 l3
    rw [he]
    refine (sget_any _ W (by rw [List.length_take, Sf.file_len v l (Sf.right_four hri)]; omega)).mono ?_
    rw [hc]
    rintro e w' ⟨p, c, he, _, lo⟩
    exact ⟨p, c, he, lo⟩)
  have HR := Lib.hid hr
  obtain ⟨p, c, rfl, hlen⟩ := hr.form
  have HB := Lib.hid hb
  have hflr : (Sf.put v l).1.length ≤ 16777216 := by omega
  have hf12 : 12 ≤ (Sf.put v l).1.length := by omega
  have hmod : ((Sf.put v l).1.length : Int) % 4 = 0 := by omega
  simp only at HG
  generalize (Sf.put v l).1 = F at *
  have hx := Gk.extract_list F 0 (F.length - 1)
  generalize hnn : l.length = n at *
  have HN := Lib.hid hnn
  clear hr hb h hn hg hv hri ht he hfl hge h4 hnn
  go_enter Try.func3, Try.ntmps3
  go_wp2_with fail
  refine HF.out.mono ?_
  rintro e w1 ⟨rfl, lo⟩
  have HL := Lib.hid lo
  clear lo HF
  go_wp2_with fail
  refine (HP.out _ HL.out).mono ?_
  rintro e w2 ⟨rfl, lo⟩
  have HL2 := Lib.hid (HL.out.trans lo)
  clear lo HL HP
  go_wp2_with fail
  refine (HG.out _).mono ?_
  rintro e w3 ⟨p2, c2, rfl, hm, lo⟩
  have HL3 := Lib.hid (HL2.out.trans lo)
  have HM3 := Lib.hid hm
  clear lo hm HG HL2
  go_wp2_with fail
  refine (same_any l _ _ _ (HR.out.lo HL3.out) HM3.out).mono ?_
  rintro e w4 ⟨rfl, lo⟩
  have HL4 := Lib.hid (HL3.out.trans lo)
  have HM4 := Lib.hid (HM3.out.lo lo)
  clear lo HL3 HM3
  go_wp2_with fail
  rw [hmod]
  clear hmod
  go_loopw [10, 11, 12] (fun i _ _ W => ∃ k : Nat, k ≤ n ∧ i = .int .i64 k ∧ Hid (Lo w W) ∧ Hid (TRow W (.slice p2 n c2) l)) (fun i _ _ _ => n - (intOf i).toNat)
  case atStart => exact ⟨0, Nat.zero_le _, rfl, HL4, HM4⟩
  case round =>
    clear HL4 HM4
    obtain ⟨k, hk, rfl, HL5, HM5⟩ := hrel
    by_cases hlt : k < n
    · obtain ⟨⟨tg, dt⟩, hx2⟩ := Sf.some_at (l := l) (k := k) (by rw [HN.out]; exact hlt)
      have HF2 := Lib.hid (HFi.out _ _ hx2)
      obtain ⟨b, off, rfl, hc1, hc2⟩ := TRow.at2 (HR.out.lo HL5.out) hx2
      have HX2 := Lib.hid hx2
      clear hx2
      simp only at hc1 hc2 HF2
      go_wp2_with fail
      refine (HF2.out _ _ HM5.out).mono ?_
      rintro e w6 ⟨rfl, lo⟩
      have HL6 := Lib.hid (HL5.out.trans lo)
      have HM6 := Lib.hid (HM5.out.lo lo)
      clear lo hc1 hc2
      obtain ⟨b', off', he, hc1, hc2⟩ := TRow.at2 (HR.out.lo HL6.out) HX2.out
      simp only [Option.some.injEq, Addr.mk.injEq, and_true] at he
      obtain ⟨rfl, rfl⟩ := he
      simp only at hc1 hc2
      go_wp2_with fail
      go_roundw
      case rel => exact ⟨k + 1, by omega, by go_num, HL6, HM6⟩
      case measure => simp [intOf]; omega
    · obtain rfl : k = n := by omega
      by_cases h0 : k = 0
      · subst h0
        go_wp2_with fail
        refine (filed_any _).mono ?_
        rintro e w7 ⟨rfl, lo⟩
        have HL7 := Lib.hid (HL5.out.trans lo)
        clear lo HL5
        go_wp2_with fail
        go_ret
        exact ⟨rfl, HL7.out⟩
      · obtain ⟨j, rfl⟩ : ∃ j, k = j + 1 := ⟨k - 1, by omega⟩
        obtain ⟨⟨tg, dt⟩, hx2⟩ := Sf.some_at (l := l) (k := j) (by rw [HN.out]; omega)
        obtain ⟨b, off, rfl, hc1, hc2⟩ := TRow.at2 (HR.out.lo HL5.out) hx2
        have hdl := (HB.out _ (List.mem_of_getElem? hx2)).2
        have HD : Hid (Sf.datAt l (l.length - 1) = dt) := Lib.hid (by rw [HN.out, Nat.add_sub_cancel]; exact Sf.datAt_some hx2)
        clear hx2
        simp only at hc1 hc2 hdl
        by_cases hz : dt.length = 0
        · have hz2 : ((dt.length : Int) == 0) = true := by rw [hz]; rfl
          go_wp2_with fail
          refine (filed_any _).mono ?_
          rintro e w7 ⟨rfl, lo⟩
          have HL7 := Lib.hid (HL5.out.trans lo)
          clear lo HL5
          go_wp2_with fail
          go_ret
          exact ⟨rfl, HL7.out⟩
        · have hz2 : ((dt.length : Int) == 0) = false := by rw [beq_eq_false_iff_ne]; omega
          by_cases h4 : dt.length % 4 = 0
          · have h42 : (dt.length : Int) % 4 = 0 := by omega
            have HC2 := Lib.hid (HCut.out ⟨by rw [HN.out]; omega, by rw [HD.out]; omega, by rw [HD.out]; exact h4⟩)
            clear h4
            go_wp2_with fail
            refine (HC2.out _).mono ?_
            rintro e w6 ⟨p3, c3, rfl, lo⟩
            have HL5 := Lib.hid (HL5.out.trans lo)
            clear lo hc1 hc2
            go_wp2_with fail
            refine (filed_any _).mono ?_
            rintro e w7 ⟨rfl, lo⟩
            have HL7 := Lib.hid (HL5.out.trans lo)
            clear lo HL5
            go_wp2_with fail
            go_ret
            exact ⟨rfl, HL7.out⟩
          · have h42 : ((dt.length : Int) % 4 == 0) = false := by rw [beq_eq_false_iff_ne]; omega
            have h43 : ((dt.length : Int) % 4 != 0) = true := by rw [bne, h42]; rfl
            go_wp2_with fail
            refine (filed_any _).mono ?_
            rintro e w7 ⟨rfl, lo⟩
            have HL7 := Lib.hid (HL5.out.trans lo)
            clear lo HL5
            go_wp2_with fail
            go_ret
            exact ⟨rfl, HL7.out⟩

theorem sfntBack_walk (v : Int) (u : Value) (l : List Sf.Tab) (w : World) (_w0 : (Lit.int .i64 v).wf = true) (hr : TRow w u l) (hb : ∀ x ∈ l, x.1.length ≤ 9223372036854775807 ∧ x.2.length ≤ 9223372036854775807) :
    Calls Try.prog 3 #[.int .i64 v, u] w fun e w' => e = .returned (.bool true) ∧ Below w.heap.size w w' := by
  cases h : Sf.few l with
  | false => exact sfntBack_many v u l w hr hb h
  | true =>
    by_cases hn : (Sf.put v l).2 = 0
    · exact sfntBack_some v u l w hr hb h hn
    · exact sfntBack_none v u l w hr hb h hn
end Go.Proofs.Ytbcilhdamjgoeaa
