/-
  The walk of the law GroupOnly. No conditions beyond those stated.
-/
import Derived.Test.YtnlifmedkkboaaaGrLawBack
namespace Gp
open Bn He Ch Sg
/-- The format that the law takes for spans: by the first one's step. -/
def fmt (l : List Span) : Int := if l ≠ [] ∧ (l.getD 0 zs).st = 0 then 13 else 12
theorem fmt_right {s : List UInt8} (h : (get s).2 = 0) : (fmt (get s).1 = 12 ∨ fmt (get s).1 = 13) ∧ ∀ y ∈ (get s).1, y.st = 13 - fmt (get s).1 := by
  obtain ⟨hf, _, e, _⟩ := get_ok h
  unfold fmt
  rw [e]
  have hst : ∀ y ∈ rows s, y.st = 13 - fld s 0 2 := fun y hy => rows_st hy
  cases hr : rows s with
  | nil => simp
  | cons x r =>
    rw [hr] at hst
    have hx := hst x (by simp)
    by_cases c : x.st = 0
    · rw [if_pos ⟨by simp, c⟩]
      refine ⟨.inr rfl, fun y hy => ?_⟩
      have := hst y hy
      omega
    · rw [if_neg (by rintro ⟨_, k⟩; exact c k)]
      refine ⟨.inl rfl, fun y hy => ?_⟩
      have := hst y hy
      omega
end Gp
namespace Go.Proofs.Ytnlifmedkkboaaa
open Go.RowKit

def moreZ : List UInt8 := [0, 1]

set_option maxRecDepth 100000 in
set_option maxHeartbeats 3200000 in
theorem groupOnly_far (s : List UInt8) (ch : Int) (w : World) (h3 : 3000 < s.length) : Calls Try.prog 6 #[.string ⟨s.toArray⟩, .int .i64 ch] w fun e w' => e = .returned (.bool true) ∧ Lo w w' := by
  have hsz : (ByteArray.mk s.toArray).size = s.length := rfl
  have hz : (3000 : Int) < (s.length : Int) := by omega
  generalize s.length = n at *
  go_enter Try.func6, Try.ntmps6
  go_wp2_with fail
  go_ret
  exact ⟨rfl, Lo.refl _⟩

set_option maxRecDepth 100000 in
set_option maxHeartbeats 3200000 in
theorem groupOnly_no (s : List UInt8) (ch : Int) (w : World) (h3 : s.length ≤ 3000) (h0 : (Gp.get s).2 ≠ 0) : Calls Try.prog 6 #[.string ⟨s.toArray⟩, .int .i64 ch] w fun e w' => e = .returned (.bool true) ∧ Lo w w' := by
  have HG := Lib.hid (fun W => gget_any s W (by omega))
  have HG2 := Lib.hid (fun W => gget_any (s ++ moreZ) W (by rw [List.length_append]; simp [moreZ]; omega))
  have HD := Lib.hid (fun W => grouped_any W)
  have hnil := Gp.get_no h0
  have hsz : (ByteArray.mk s.toArray).size = s.length := rfl
  have hcat := Gk.cat_list s moreZ
  have hcz : (ByteArray.mk (s ++ moreZ).toArray).size = s.length + 2 := by show (s ++ moreZ).length = _; rw [List.length_append]; rfl
  have HC : Hid (((Gp.get (s ++ moreZ)).2 = (Gp.get s).2 ∧ (Gp.get s).2 ≠ 4) ∨ (Gp.get s).2 = 4) := Lib.hid (by
    by_cases c : (Gp.get s).2 = 4
    · exact .inr c
    · exact .inl ⟨by rw [Gp.get_more c], c⟩)
  unfold GotSp at HG HG2
  rw [hnil] at HG
  generalize (Gp.get s).2 = z at *
  have hz0 : (z != 0) = true := by simpa using h0
  generalize (Gp.get (s ++ moreZ)).2 = z2 at *
  generalize (Gp.get (s ++ moreZ)).1 = m2 at *
  unfold moreZ at *
  generalize s ++ [0, 1] = tm at *
  generalize s.length = sn at *
  have hz : ¬ (3000 : Int) < (sn : Int) := by omega
  clear hnil h0
  go_enter Try.func6, Try.ntmps6
  go_wp2_with fail
  refine (HG.out _).mono ?_
  rintro e w1 ⟨p, c, rfl, _, lo⟩
  have HL := Lib.hid lo
  clear lo HG
  go_wp2_with fail
  refine (HG2.out _).mono ?_
  rintro e w2 ⟨p2, c2, rfl, _, lo⟩
  have HL2 := Lib.hid (HL.out.trans lo)
  clear lo HG2
  go_wp2_with fail
  refine (HD.out _).mono ?_
  rintro e w3 ⟨rfl, lo⟩
  have HL3 := Lib.hid (HL2.out.trans lo)
  clear lo HD
  rcases HC.out with ⟨rfl, c4⟩ | rfl
  · clear HC
    go_wp2_with fail
    go_ret
    exact ⟨ret_bool (by simp), HL3.out⟩
  · clear HC
    by_cases hz2 : (z2 == 4) = true
    · go_wp2_with fail
      go_ret
      exact ⟨ret_bool (by simp), HL3.out⟩
    · have hz3 : (z2 == 4) = false := by simpa using hz2
      clear hz2
      go_wp2_with fail
      go_ret
      exact ⟨ret_bool (by simp), HL3.out⟩

set_option maxRecDepth 100000 in
set_option maxHeartbeats 800000 in
theorem groupOnly_ok (s : List UInt8) (ch : Int) (w : World) (h3 : s.length ≤ 3000) (h0 : (Gp.get s).2 = 0) : Calls Try.prog 6 #[.string ⟨s.toArray⟩, .int .i64 ch] w fun e w' => e = .returned (.bool true) ∧ Lo w w' := by
  have HG := Lib.hid (fun W => gget_any s W (by omega))
  have HG2 := Lib.hid (fun W => gget_any (s ++ moreZ) W (by rw [List.length_append]; simp [moreZ]; omega))
  have hgm := Gp.get_more (s := s) (more := moreZ) (by rw [h0]; decide)
  rw [hgm] at HG2
  clear hgm
  have HD := Lib.hid (fun W => grouped_any W)
  have hsz : (ByteArray.mk s.toArray).size = s.length := rfl
  have hcat := Gk.cat_list s moreZ
  have hcz : (ByteArray.mk (s ++ moreZ).toArray).size = s.length + 2 := by show (s ++ moreZ).length = _; rw [List.length_append]; rfl
  have hi := (Gp.get_ok h0).2.1
  obtain ⟨f1, f2⟩ := Gp.fmt_right h0
  obtain ⟨a1, a2, a3, a4⟩ := Gp.get_again h0 f1 f2
  have hi2 := (Gp.get_ok a3).2.1
  have hlk : Ch.Look (Gp.get (Gp.put (Gp.get s).1 (Gp.fmt (Gp.get s).1)).1).1 ch = Ch.Look (Gp.get s).1 ch := by
    unfold Ch.Look
    rw [if_pos hi, if_pos hi2, a4]
  have hpl := Gp.put_len (Gp.get s).1 (Gp.fmt (Gp.get s).1)
  have HP := Lib.hid (fun (v : Value) (W : World) (h : SRow W v (Gp.get s).1) => gput_any v _ (Gp.fmt (Gp.get s).1) W h)
  have HI := Lib.hid (fun (v : Value) (W : World) (h : SRow W v (Gp.get s).1) => cis_any v _ W h)
  have HK := Lib.hid (fun (v : Value) (W : World) (h : SRow W v (Gp.get s).1) => clook_any v _ ch W h)
  have HSm := Lib.hid (fun (v u : Value) (W : World) (h : SRow W v (Gp.get s).1) (h2 : SRow W u (Gp.get s).1) => ssame_any _ v u W h h2)
  have HG3 := Lib.hid (fun W => gget_any (Gp.put (Gp.get s).1 (Gp.fmt (Gp.get s).1)).1 W (by omega))
  have HK2 := Lib.hid (fun (v : Value) (W : World) (h : SRow W v (Gp.get (Gp.put (Gp.get s).1 (Gp.fmt (Gp.get s).1)).1).1) => clook_any v _ ch W h)
  unfold GotSp at HG HG2 HG3
  unfold strErr at HP
  rw [h0] at HG HG2
  rw [hi] at HI
  rw [a1] at HP
  rw [a3] at HG3
  rw [hlk] at HK2
  generalize (Gp.get (Gp.put (Gp.get s).1 (Gp.fmt (Gp.get s).1)).1).1 = n2 at *
  have htz : (ByteArray.mk (Gp.put (Gp.get s).1 (Gp.fmt (Gp.get s).1)).1.toArray).size = (Gp.put (Gp.get s).1 (Gp.fmt (Gp.get s).1)).1.length := rfl
  generalize (Gp.put (Gp.get s).1 (Gp.fmt (Gp.get s).1)).1 = t at *
  have HF : Hid (((Gp.get s).1 = [] ∧ Gp.fmt (Gp.get s).1 = 12) ∨ (∃ x r, (Gp.get s).1 = x :: r ∧ ((x.st = 0 ∧ Gp.fmt (Gp.get s).1 = 13) ∨ (x.st ≠ 0 ∧ Gp.fmt (Gp.get s).1 = 12)))) := Lib.hid (by
    unfold Gp.fmt
    cases (Gp.get s).1 with
    | nil => exact .inl ⟨rfl, by simp⟩
    | cons x r =>
      refine .inr ⟨x, r, rfl, ?_⟩
      by_cases c : x.st = 0
      · exact .inl ⟨c, by rw [if_pos ⟨by simp, c⟩]⟩
      · exact .inr ⟨c, by rw [if_neg (by rintro ⟨_, k⟩; exact c k)]⟩)
  generalize Gp.fmt (Gp.get s).1 = f at *
  generalize (Gp.get s).1 = l at *
  generalize Ch.Look l ch = k at *
  unfold moreZ at *
  generalize s ++ [0, 1] = tm at *
  generalize s.length = sn at *
  have hz : ¬ (3000 : Int) < (sn : Int) := by omega
  have hle : (t.length : Int) ≤ (sn : Int) := by omega
  generalize t.length = tn at *
  clear f1 f2 a1 a2 a3 a4 hi hi2 hlk hpl h0
  go_enter Try.func6, Try.ntmps6
  go_wp2_with fail
  refine (HG.out _).mono ?_
  rintro e w1 ⟨p, c, rfl, hrow, lo⟩
  have HL := Lib.hid lo
  have HR := Lib.hid hrow
  clear lo HG hrow
  go_wp2_with fail
  refine (HG2.out _).mono ?_
  rintro e w2 ⟨p2, c2, rfl, hrow, lo⟩
  have HL2 := Lib.hid (HL.out.trans lo)
  have HR2 := Lib.hid (RowK.lo HR.out lo)
  have HM2 := Lib.hid hrow
  clear lo HG2 HR hrow
  go_wp2_with fail
  refine (HSm.out _ _ _ HR2.out HM2.out).mono ?_
  rintro e w3 ⟨rfl, lo⟩
  have HL3 := Lib.hid (HL2.out.trans lo)
  have HR3 := Lib.hid (RowK.lo HR2.out lo)
  clear lo HSm HR2 HM2
  go_wp2_with fail
  refine (HI.out _ _ HR3.out).mono ?_
  rintro e w4 ⟨rfl, lo⟩
  have HL4 := Lib.hid (HL3.out.trans lo)
  have HR4 := Lib.hid (RowK.lo HR3.out lo)
  clear lo HI HR3
  rcases HF.out with ⟨rfl, rfl⟩ | ⟨x, r, rfl, hx⟩
  · clear HF
    go_wp2_with fail
    refine (HP.out _ _ HR4.out).mono ?_
    rintro e w5 ⟨rfl, lo⟩
    have HL5 := Lib.hid (HL4.out.trans lo)
    have HR5 := Lib.hid (RowK.lo HR4.out lo)
    clear lo HP HR4
    go_wp2_with fail
    refine (HG3.out _).mono ?_
    rintro e w6 ⟨p6, c6, rfl, hrow, lo⟩
    have HL6 := Lib.hid (HL5.out.trans lo)
    have HR6 := Lib.hid (RowK.lo HR5.out lo)
    have HM6 := Lib.hid hrow
    clear lo HG3 HR5 hrow
    go_wp2_with fail
    refine (HD.out _).mono ?_
    rintro e w7 ⟨rfl, lo⟩
    have HL7 := Lib.hid (HL6.out.trans lo)
    have HR7 := Lib.hid (RowK.lo HR6.out lo)
    have HM7 := Lib.hid (RowK.lo HM6.out lo)
    clear lo HD HR6 HM6
    go_wp2_with fail
    refine (HK2.out _ _ HM7.out).mono ?_
    rintro e w8 ⟨rfl, lo⟩
    have HL8 := Lib.hid (HL7.out.trans lo)
    have HR8 := Lib.hid (RowK.lo HR7.out lo)
    clear lo HK2 HR7 HM7
    go_wp2_with fail
    refine (HK.out _ _ HR8.out).mono ?_
    rintro e w9 ⟨rfl, lo⟩
    have HL9 := Lib.hid (HL8.out.trans lo)
    clear lo HK HR8
    go_wp2_with fail
    go_ret
    exact ⟨ret_bool (by simp), HL9.out⟩
  · have hx0 : (x :: r)[0]? = some x := rfl
    obtain ⟨b, off, rfl, r0, r1, r2, r3⟩ := SRow.at4 HR4.out hx0
    have hpos : (0 : Int) < (((x :: r).length : Nat) : Int) := by rw [List.length_cons]; omega
    have hin : (0 : Int) < (((x :: r).length : Nat) : Int) ∧ 0 < (x :: r).length := ⟨hpos, by rw [List.length_cons]; omega⟩
    obtain ⟨fr, tt, gl, st⟩ := x
    dsimp only at r0 r1 r2 r3 hx
    generalize hxr : (⟨fr, tt, gl, st⟩ :: r : List Ch.Span) = l at *
    generalize l.length = ln at *
    clear hxr hx0
    rcases hx with ⟨rfl, rfl⟩ | ⟨hne, rfl⟩
    · clear HF
      go_wp2_with fail
      refine (HP.out _ _ HR4.out).mono ?_
      rintro e w5 ⟨rfl, lo⟩
      have HL5 := Lib.hid (HL4.out.trans lo)
      have HR5 := Lib.hid (RowK.lo HR4.out lo)
      clear lo HP HR4
      go_wp2_with fail
      refine (HG3.out _).mono ?_
      rintro e w6 ⟨p6, c6, rfl, hrow, lo⟩
      have HL6 := Lib.hid (HL5.out.trans lo)
      have HR6 := Lib.hid (RowK.lo HR5.out lo)
      have HM6 := Lib.hid hrow
      clear lo HG3 HR5 hrow
      go_wp2_with fail
      refine (HD.out _).mono ?_
      rintro e w7 ⟨rfl, lo⟩
      have HL7 := Lib.hid (HL6.out.trans lo)
      have HR7 := Lib.hid (RowK.lo HR6.out lo)
      have HM7 := Lib.hid (RowK.lo HM6.out lo)
      clear lo HD HR6 HM6
      go_wp2_with fail
      refine (HK2.out _ _ HM7.out).mono ?_
      rintro e w8 ⟨rfl, lo⟩
      have HL8 := Lib.hid (HL7.out.trans lo)
      have HR8 := Lib.hid (RowK.lo HR7.out lo)
      clear lo HK2 HR7 HM7
      go_wp2_with fail
      refine (HK.out _ _ HR8.out).mono ?_
      rintro e w9 ⟨rfl, lo⟩
      have HL9 := Lib.hid (HL8.out.trans lo)
      clear lo HK HR8
      go_wp2_with fail
      go_ret
      exact ⟨ret_bool (by simp), HL9.out⟩
    · have hq : (st == 0) = false := by simpa using hne
      clear HF
      go_wp2_with fail
      refine (HP.out _ _ HR4.out).mono ?_
      rintro e w5 ⟨rfl, lo⟩
      have HL5 := Lib.hid (HL4.out.trans lo)
      have HR5 := Lib.hid (RowK.lo HR4.out lo)
      clear lo HP HR4
      go_wp2_with fail
      refine (HG3.out _).mono ?_
      rintro e w6 ⟨p6, c6, rfl, hrow, lo⟩
      have HL6 := Lib.hid (HL5.out.trans lo)
      have HR6 := Lib.hid (RowK.lo HR5.out lo)
      have HM6 := Lib.hid hrow
      clear lo HG3 HR5 hrow
      go_wp2_with fail
      refine (HD.out _).mono ?_
      rintro e w7 ⟨rfl, lo⟩
      have HL7 := Lib.hid (HL6.out.trans lo)
      have HR7 := Lib.hid (RowK.lo HR6.out lo)
      have HM7 := Lib.hid (RowK.lo HM6.out lo)
      clear lo HD HR6 HM6
      go_wp2_with fail
      refine (HK2.out _ _ HM7.out).mono ?_
      rintro e w8 ⟨rfl, lo⟩
      have HL8 := Lib.hid (HL7.out.trans lo)
      have HR8 := Lib.hid (RowK.lo HR7.out lo)
      clear lo HK2 HR7 HM7
      go_wp2_with fail
      refine (HK.out _ _ HR8.out).mono ?_
      rintro e w9 ⟨rfl, lo⟩
      have HL9 := Lib.hid (HL8.out.trans lo)
      clear lo HK HR8
      go_wp2_with fail
      go_ret
      exact ⟨ret_bool (by simp), HL9.out⟩

theorem groupOnly_walk (a : ByteArray) (ch : Int) (w : World) (_h : a.size ≤ maxLen) (_wc : (Lit.int .i64 ch).wf = true) : Calls Try.prog 6 #[.string a, .int .i64 ch] w fun e w' => e = .returned (.bool true) ∧ Below w.heap.size w w' := by
  rcases Nat.lt_or_ge 3000 a.data.toList.length with h3 | h3
  · exact groupOnly_far a.data.toList ch w h3
  · by_cases h0 : (Gp.get a.data.toList).2 = 0
    · exact groupOnly_ok a.data.toList ch w h3 h0
    · exact groupOnly_no a.data.toList ch w h3 h0
end Go.Proofs.Ytnlifmedkkboaaa
