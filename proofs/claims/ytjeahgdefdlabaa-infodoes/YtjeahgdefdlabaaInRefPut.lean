/-
  The contract of the document's answer for layer 14, Put. No conditions beyond those stated.
-/
import Derived.Test.YtjeahgdefdlabaaInRef
import Derived.Test.YtjeahgdefdlabaaCoRefPut
namespace Go.Proofs.Ytjeahgdefdlabaa
open Go.RowKit

theorem radd14 (a b c : List UInt8) (hc : a ++ b = c) (h : a.length + b.length ≤ 100000000) (W : World) : (Op.stringOp .add ⟨a.toArray⟩ ⟨b.toArray⟩).run Try.prog W = .ok (.string ⟨c.toArray⟩) W := by
  rw [← hc, run_string_add_sum W _ _ (by show a.length + b.length ≤ _; omega), Gk.cat_list]
theorem rbytes14 (x z : Int) (W : World) (hz : z.natAbs = 2) (hs : Bn.isSize z = true) (h : Bn.fits x z = true) : Calls Try.prog 24 #[.int .i64 x, .int .i64 2] W fun e w' => e = .returned (.string ⟨(Bn.bytes x 2).toArray⟩) ∧ Lo W w' := by
  have h := rbytes_any x z W hs h
  rw [hz, show ((2 : Nat) : Int) = 2 from rfl] at h
  exact h

set_option maxHeartbeats 400000 in
theorem riput_no (v : Value) (l : List Ino.Pair) (w : World) (h : PRow w v l) (hlen : l.length ≤ 100000) (hc : Ino.isP l = false) : Calls Try.prog 9 #[v] w fun e w' => e = strErr ([], 1) ∧ Lo w w' := by
  have HI := Lib.hid (ris14_any v l w h hlen)
  rw [hc] at HI
  obtain ⟨p, c, rfl, _⟩ := RowK.form h
  unfold strErr
  clear h hc
  go_enter Try.func9, Try.ntmps9
  go_wp2_with fail
  refine HI.out.mono ?_
  rintro e w1 ⟨rfl, lo⟩
  have HL := Lib.hid lo
  clear lo
  go_wp2_with fail
  go_ret2
  exact ⟨rfl, HL.out⟩

set_option maxHeartbeats 400000 in
theorem riput_long (v : Value) (l : List Ino.Pair) (w : World) (h : PRow w v l) (hlen : l.length ≤ 100000) (hc : Ino.isP l = true) (hn : 16382 < l.length) : Calls Try.prog 9 #[v] w fun e w' => e = strErr ([], 7) ∧ Lo w w' := by
  have HI := Lib.hid (ris14_any v l w h hlen)
  rw [hc] at HI
  obtain ⟨p, c, rfl, _⟩ := RowK.form h
  have hn2 : (16382 : Int) < (l.length : Int) := by omega
  unfold strErr
  clear h hc
  generalize l.length = n at *
  go_enter Try.func9, Try.ntmps9
  go_wp2_with fail
  refine HI.out.mono ?_
  rintro e w1 ⟨rfl, lo⟩
  have HL := Lib.hid lo
  clear lo
  go_wp2_with fail
  go_ret2
  exact ⟨rfl, HL.out⟩

set_option maxRecDepth 100000 in
set_option maxHeartbeats 3200000 in
theorem riput_yes (v : Value) (l : List Ino.Pair) (w : World) (h : PRow w v l) (hc : Ino.isP l = true) (hn : l.length ≤ 16382) : Calls Try.prog 9 #[v] w fun e w' => e = strErr (Ino.out l, 0) ∧ Lo w w' := by
  have HI := Lib.hid (ris14_any v l w h (by omega))
  rw [hc] at HI
  have HGy := Lib.hid (fun W h => rglyphs14_any v l W h (by omega))
  have HCP := Lib.hid (fun u W h => rcput_any u (Ino.glyphs l) W h (by rw [Ino.glyphs_len]; omega))
  have hlim := Ino.put_lim l
  have hall := Ino.outTo_all l
  have hol := Ino.outTo_len (l := l) (Nat.le_refl _)
  have hadd : ∀ W, (Op.stringOp .add ⟨(Ino.outTo l l.length).toArray⟩ ⟨(Co.put (Ino.glyphs l)).1.toArray⟩).run Try.prog W = .ok (.string ⟨(Ino.out l).toArray⟩) W := fun W => radd14 _ _ _ hall (by rw [hol]; omega) W
  have hfit1 : Bn.fits ((4 + 4 * l.length : Nat) : Int) 2 = true := He.fits2 (by omega) (by omega)
  have hfit2 : Bn.fits (l.length : Int) 2 = true := He.fits2 (by omega) (by omega)
  have CB1 := Lib.hid (fun W => rbytes14 _ 2 W rfl (by decide) hfit1)
  have CB2 := Lib.hid (fun W => rbytes14 _ 2 W rfl (by decide) hfit2)
  have h0 : Bn.bytes ((4 + 4 * l.length : Nat) : Int) 2 ++ Bn.bytes (l.length : Int) 2 = Ino.outTo l 0 := by unfold Ino.outTo; simp [Ino.vals]
  have xa := fun W => radd14 _ _ _ h0 (by rw [Bn.bytes_len, Bn.bytes_len]; omega) W
  obtain ⟨p, c, rfl, _⟩ := RowK.form h
  have HR := Lib.hid h
  have HSm := Lib.hid (fun k (hk : k < l.length) => Ino.getD_some hk)
  have HFt := Lib.hid (fun k (hk : k < l.length) => Ino.is_fits hc hk)
  have HSt := Lib.hid (fun k (hk : k < l.length) => Ino.outTo_step hk)
  have HOl := Lib.hid (fun k (hk : k ≤ l.length) => Ino.outTo_len hk)
  unfold strErr at *
  generalize Ino.outTo l = O at *
  generalize Ino.out l = y at *
  generalize (Co.put (Ino.glyphs l)).1 = cv at *
  generalize (Co.put (Ino.glyphs l)).2 = ce at *
  generalize Ino.glyphs l = gl at *
  generalize l.length = n at *
  rw [show ((4 + 4 * n : Nat) : Int) = 4 + 4 * (n : Int) by omega] at CB1 xa
  generalize Bn.bytes (4 + 4 * (n : Int)) 2 = B1 at *
  generalize Bn.bytes (n : Int) 2 = B2 at *
  clear h hc hlim hall hol h0 hfit1 hfit2
  go_enter Try.func9, Try.ntmps9
  go_wp2_with fail
  refine HI.out.mono ?_
  rintro e w1 ⟨rfl, lo⟩
  have HL := Lib.hid lo
  clear lo HI
  go_wp2_with fail
  refine (CB1.out _).mono ?_
  rintro e w2 ⟨rfl, lo⟩
  have HL2 := Lib.hid (HL.out.trans lo)
  clear lo CB1 HL
  go_wp2_with fail
  refine (CB2.out _).mono ?_
  rintro e w3 ⟨rfl, lo⟩
  have HL3 := Lib.hid (HL2.out.trans lo)
  have HR3 := Lib.hid (RowK.lo HR.out HL3.out)
  clear lo CB2 HL2 HR
  go_wp2_with fail
  clear xa
  go_loopw [4, 5] (fun so si W => ∃ (k : Nat), k ≤ n ∧ si = .int .i64 (k : Int) ∧ so = .string ⟨(O k).toArray⟩ ∧ Hid (Lo w3 W)) (fun _ si _ => n - (intOf si).toNat)
  case atStart => exact ⟨0, by omega, rfl, rfl, Lib.hid (Lo.refl _)⟩
  case round =>
    obtain ⟨k, hk, rfl, rfl, HLk⟩ := hrel
    by_cases hlt : k < n
    · obtain ⟨b, off, rfl, c1, c2⟩ := PRow.at2 (RowK.lo HR3.out HLk.out) (HSm.out k hlt)
      have hol := HOl.out k hk
      have hfit := HFt.out k hlt
      have CB := Lib.hid (fun W => rbytes14 _ (-2) W rfl (by decide) hfit)
      have hst := HSt.out k hlt
      generalize l.getD k Ino.zp = x at *
      obtain ⟨g, z⟩ := x
      dsimp only at c1 c2 CB hst
      obtain ⟨o1, ho1⟩ : ∃ q, O k ++ Bn.bytes z 2 = q := ⟨_, rfl⟩
      have ho1l : o1.length = (O k).length + 2 := by rw [← ho1, List.length_append, Bn.bytes_len]
      have x0 := fun W => radd14 (O k) _ o1 ho1 (by rw [Bn.bytes_len]; omega) W
      have x1 := fun W => radd14 o1 [0, 0] (O (k + 1)) (by rw [hst, ← ho1]) (by show o1.length + 2 ≤ _; omega) W
      have hz0 : (⟨([0, 0] : List UInt8).toArray⟩ : ByteArray) = ⟨#[0, 0]⟩ := rfl
      rw [hz0] at x1
      generalize Bn.bytes z 2 = by2 at *
      have HOk : Hid (O (k + 1) = O (k + 1)) := Lib.hid rfl
      clear ho1 hfit hst hol ho1l
      go_wp2_with fail
      refine (CB.out _).mono ?_
      rintro e w4 ⟨rfl, lo⟩
      have HL4 := Lib.hid (HLk.out.trans lo)
      clear lo CB
      go_wp2_with fail
      go_roundw
      case rel => exact ⟨k + 1, by omega, by go_num, rfl, HL4⟩
      case measure => simp [intOf]; omega
    · obtain rfl : k = n := by omega
      go_wp2_with fail
      refine (HGy.out _ (RowK.lo HR3.out HLk.out)).mono ?_
      rintro e w4 ⟨p4, c4, rfl, hrow, lo⟩
      have HL4 := Lib.hid (HLk.out.trans lo)
      have HR4 := Lib.hid hrow
      clear lo hrow
      go_wp2_with fail
      refine (HCP.out _ _ HR4.out).mono ?_
      rintro e w5 ⟨rfl, lo⟩
      have HL5 := Lib.hid (HL4.out.trans lo)
      clear lo
      go_wp2_with fail
      go_ret2
      exact ⟨rfl, HL3.out.trans HL5.out⟩

/-- Put. -/
theorem riput_any (v : Value) (l : List Ino.Pair) (w : World) (h : PRow w v l) (hlen : l.length ≤ 100000) : Calls Try.prog 9 #[v] w fun e w' => e = strErr (Ino.put l) ∧ Lo w w' := by
  cases hc : Ino.isP l with
  | false => rw [Ino.put_bad hc]; exact riput_no v l w h hlen hc
  | true =>
    by_cases hn : 16382 < l.length
    · rw [Ino.put_long hc hn]; exact riput_long v l w h hlen hc hn
    · rw [Ino.put_yes hc (by omega)]; exact riput_yes v l w h hc (by omega)
end Go.Proofs.Ytjeahgdefdlabaa
