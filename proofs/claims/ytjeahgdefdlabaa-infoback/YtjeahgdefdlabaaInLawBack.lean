/-
  The walk of the law InfoBack. No conditions beyond those stated: each text has at most the bytes that the form itself lets in.
-/
import Derived.Test.YtjeahgdefdlabaaInTold
import Derived.SizedLaws
namespace Ino
open Bn He
theorem out_len (l : List Pair) : (out l).length ≤ 4 + 4 * l.length + 400000 := by
  have h := outTo_all l
  have h1 := outTo_len (l := l) (Nat.le_refl _)
  have h2 := put_lim l
  rw [← h, List.length_append]; omega
end Ino
namespace Go.Proofs.Ytjeahgdefdlabaa
open Go.RowKit

theorem itadd (a b c : List UInt8) (hc : a ++ b = c) (h : a.length + b.length ≤ 100000000) (W : World) : (Op.stringOp .add ⟨a.toArray⟩ ⟨b.toArray⟩).run Try.prog W = .ok (.string ⟨c.toArray⟩) W := by
  rw [← hc, run_string_add_sum W _ _ (by show a.length + b.length ≤ _; omega), Gk.cat_list]

set_option maxHeartbeats 400000 in
theorem infoBack_far (p : Option Addr) (n c : Nat) (a b : List UInt8) (w : World) (ha : a.length ≤ 1000000000000000) (hb : b.length ≤ 1000000000000000) (h : 300 < n ∨ 300 < a.length + b.length) :
    Calls Try.prog 4 #[.slice p n c, .string ⟨a.toArray⟩, .string ⟨b.toArray⟩] w fun e w' => e = .returned (.bool true) ∧ Lo w w' := by
  have hsz : (ByteArray.mk a.toArray).size = a.length := rfl
  have hsz2 : (ByteArray.mk b.toArray).size = b.length := rfl
  by_cases hn : 300 < n
  · have hq : (300 : Int) < (n : Int) := by omega
    generalize a.length = an at *
    generalize b.length = bn at *
    go_enter Try.func4, Try.ntmps4
    go_wp2_with fail
    go_ret
    exact ⟨rfl, Lo.refl _⟩
  · have hq0 : ¬ (300 : Int) < (n : Int) := by omega
    have hq : (300 : Int) < (a.length : Int) + (b.length : Int) := by omega
    generalize a.length = an at *
    generalize b.length = bn at *
    go_enter Try.func4, Try.ntmps4
    go_wp2_with fail
    go_ret
    exact ⟨rfl, Lo.refl _⟩

set_option maxHeartbeats 800000 in
theorem infoBack_no (v : Value) (l : List Ino.Pair) (a b : List UInt8) (w : World) (hr : PRow w v l) (hn : l.length ≤ 300) (hab : a.length + b.length ≤ 300) (hc : Ino.isP l = false) :
    Calls Try.prog 4 #[v, .string ⟨a.toArray⟩, .string ⟨b.toArray⟩] w fun e w' => e = .returned (.bool true) ∧ Lo w w' := by
  have HP := Lib.hid (iput_any v l w hr (by omega))
  rw [Ino.put_bad hc] at HP
  unfold strErr at HP
  have HI := Lib.hid (fun (u : Value) (W : World) (k : PRow W u l) => iis_any u l W k (by omega))
  rw [hc] at HI
  have HD := Lib.hid (fun W => valued_any W)
  obtain ⟨p, c, rfl, _⟩ := RowK.form hr
  have HR := Lib.hid hr
  have hsz : (ByteArray.mk a.toArray).size = a.length := rfl
  have hsz2 : (ByteArray.mk b.toArray).size = b.length := rfl
  have hq0 : ¬ (300 : Int) < (l.length : Int) := by omega
  have hq : ¬ (300 : Int) < (a.length : Int) + (b.length : Int) := by omega
  generalize a.length = an at *
  generalize b.length = bn at *
  generalize l.length = n at *
  dsimp only at HP
  rw [show ([] : List UInt8).toArray = #[] from rfl] at HP
  clear hr hc
  go_enter Try.func4, Try.ntmps4
  go_wp2_with fail
  refine HP.out.mono ?_
  rintro e w2 ⟨rfl, lo⟩
  have HL2 := Lib.hid lo
  have HR2 := Lib.hid (PRow.lo HR.out lo)
  clear lo HP
  go_wp2_with fail
  refine (HD.out _).mono ?_
  rintro e w3 ⟨rfl, lo⟩
  have HL3 := Lib.hid (HL2.out.trans lo)
  have HR3 := Lib.hid (PRow.lo HR2.out lo)
  clear lo HD
  go_wp2_with fail
  refine (HI.out _ _ HR3.out).mono ?_
  rintro e w4 ⟨rfl, lo⟩
  have HL4 := Lib.hid (HL3.out.trans lo)
  clear lo HI
  go_wp2_with fail
  go_ret
  exact ⟨rfl, HL4.out⟩

set_option maxRecDepth 100000 in
set_option maxHeartbeats 3200000 in
theorem infoBack_ok (v : Value) (l : List Ino.Pair) (a b : List UInt8) (w : World) (hr : PRow w v l) (hn : l.length ≤ 300) (hab : a.length + b.length ≤ 300) (hc : Ino.isP l = true) :
    Calls Try.prog 4 #[v, .string ⟨a.toArray⟩, .string ⟨b.toArray⟩] w fun e w' => e = .returned (.bool true) ∧ Lo w w' := by
  have HP := Lib.hid (iput_any v l w hr (by omega))
  have h0 : (Ino.put l).2 = 0 := by rw [Ino.put_yes hc (by omega)]
  have hg := Ino.get_put h0 a b
  have hpo : (Ino.put l).1 = Ino.out l := by rw [Ino.put_yes hc (by omega)]
  rw [hpo] at hg
  rw [Ino.put_yes hc (by omega)] at HP
  unfold strErr at HP
  have hol := Ino.out_len l
  generalize Ino.out l = t at *
  obtain ⟨u, hu⟩ : ∃ u, a ++ t = u := ⟨_, rfl⟩
  obtain ⟨r, hr2⟩ : ∃ r, u ++ b = r := ⟨_, rfl⟩
  rw [hu, hr2] at hg
  have hul : u.length = a.length + t.length := by rw [← hu, List.length_append]
  have hrl : r.length = u.length + b.length := by rw [← hr2, List.length_append]
  have x1 := fun W => itadd a t u hu (by omega) W
  have x2 := fun W => itadd u b r hr2 (by omega) W
  have HG := Lib.hid (fun W => iget_any r (a.length : Int) W (by omega) (by omega))
  rw [hg] at HG
  unfold GotPairs at HG
  have HN := Lib.hid (fun (v u : Value) (W : World) (k : PRow W v l) (k2 : PRow W u l) => psame_any l v u W k k2)
  have HD := Lib.hid (fun W => valued_any W)
  have HF := Lib.hid (fun k (hk : k < l.length) (u : Value) (W : World) (h : PRow W u l) => (show Calls Try.prog 10 #[u, .int .i64 (l.getD k Ino.zp).1] W fun e w' => e = .returned (.tuple #[.int .i64 (l.getD k Ino.zp).2, .bool true]) ∧ Lo W w' from by
    have h := ifind_any u l (l.getD k Ino.zp).1 W h (by omega)
    rw [Ino.find_idx hc hk rfl] at h
    exact h))
  have HGe := Lib.hid (fun k (hk : k < l.length) => Ino.getD_some hk)
  obtain ⟨p, c, rfl, _⟩ := RowK.form hr
  have HR := Lib.hid hr
  have hsz : (ByteArray.mk a.toArray).size = a.length := rfl
  have hsz2 : (ByteArray.mk b.toArray).size = b.length := rfl
  have hq0 : ¬ (300 : Int) < (l.length : Int) := by omega
  have hq : ¬ (300 : Int) < (a.length : Int) + (b.length : Int) := by omega
  dsimp only at HG HP
  generalize a.length = an at *
  generalize b.length = bn at *
  generalize l.length = n at *
  clear hr hg h0 hpo hu hr2 hul hrl hol hc
  go_enter Try.func4, Try.ntmps4
  go_wp2_with fail
  refine HP.out.mono ?_
  rintro e w2 ⟨rfl, lo⟩
  have HL2 := Lib.hid lo
  have HR2 := Lib.hid (PRow.lo HR.out lo)
  clear lo HP
  go_wp2_with fail
  refine (HG.out _).mono ?_
  rintro e w3 ⟨p3, c3, rfl, hrow, lo⟩
  have HL3 := Lib.hid (HL2.out.trans lo)
  have HR3 := Lib.hid (PRow.lo HR2.out lo)
  have HM3 := Lib.hid hrow
  clear lo HG HL2 HR2 hrow x1 x2
  go_wp2_with fail
  go_loopw [11, 12, 13] (fun i _ _ W => ∃ k : Nat, k ≤ n ∧ i = .int .i64 k ∧ Hid (Lo w3 W)) (fun i _ _ _ => n - (intOf i).toNat)
  case atStart => exact ⟨0, by omega, rfl, Lib.hid (Lo.refl _)⟩
  case round =>
    obtain ⟨k, hk, rfl, HLk⟩ := hrel
    by_cases hlt : k < n
    · obtain ⟨b4, off, rfl, c1, c2⟩ := PRow.at2 (PRow.lo HR3.out HLk.out) (HGe.out k hlt)
      have HFk := Lib.hid (HF.out k hlt)
      have hb4 := World.block_lt_of_cell? _ _ c2
      generalize l.getD k Ino.zp = x at *
      obtain ⟨y, z⟩ := x
      dsimp only at c1 c2 HFk
      go_wp2_with fail
      refine (HFk.out _ _ (PRow.lo HM3.out HLk.out)).mono ?_
      rintro e w5 ⟨rfl, lo⟩
      have HL5 := Lib.hid (HLk.out.trans lo)
      have c3 := (lo.cell hb4).trans c2
      clear lo HFk c1 c2 hb4
      go_wp2_with fail
      go_roundw
      case rel => exact ⟨k + 1, by omega, by go_num, HL5⟩
      case measure => simp [intOf]; omega
    · obtain rfl : k = n := by omega
      go_wp2_with fail
      refine (HD.out _).mono ?_
      rintro e w5 ⟨rfl, lo⟩
      have HL5 := Lib.hid (HLk.out.trans lo)
      clear lo HD
      go_wp2_with fail
      refine (HN.out _ _ _ (PRow.lo HR3.out HL5.out) (PRow.lo HM3.out HL5.out)).mono ?_
      rintro e w6 ⟨rfl, lo⟩
      have HL6 := Lib.hid (HL5.out.trans lo)
      clear lo HN
      go_wp2_with fail
      go_ret
      exact ⟨rfl, HL3.out.trans HL6.out⟩

theorem infoBack_walk (v : Value) (l : List Ino.Pair) (a b : ByteArray) (w : World) (hr : PRow w v l) (_w1 : a.size ≤ maxLen) (z1 : a.data.toList.length ≤ reachBytes) (_w2 : b.size ≤ maxLen) (z2 : b.data.toList.length ≤ reachBytes) :
    Calls Try.prog 4 #[v, .string a, .string b] w fun e w' => e = .returned (.bool true) ∧ Below w.heap.size w w' := by
  unfold reachBytes at z1 z2
  by_cases hc : 300 < l.length ∨ 300 < a.data.toList.length + b.data.toList.length
  · obtain ⟨p, c, rfl, _⟩ := RowK.form hr
    exact infoBack_far p l.length c a.data.toList b.data.toList w (by omega) (by omega) hc
  · cases h0 : Ino.isP l with
    | true => exact infoBack_ok v l a.data.toList b.data.toList w hr (by omega) (by omega) h0
    | false => exact infoBack_no v l a.data.toList b.data.toList w hr (by omega) (by omega) h0
end Go.Proofs.Ytjeahgdefdlabaa
