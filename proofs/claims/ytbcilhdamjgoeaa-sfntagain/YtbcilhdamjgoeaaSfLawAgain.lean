/-
  The walk of the law SfntAgain: it returns true for all texts. No conditions.
-/
import Derived.Test.YtbcilhdamjgoeaaSfFiled
namespace Sf
theorem got_small {s : List UInt8} (hs : s.length ≤ 4000) (h : (get s).2.2 = 0) : Small (get s).2.1 := by
  obtain ⟨h0, _, h64, hl, _⟩ := get_ok h
  rw [hl]
  refine ⟨by simp; omega, fun x hx => ?_⟩
  obtain ⟨i, _, rfl⟩ := List.mem_map.1 hx
  refine ⟨?_, ?_⟩
  · unfold tab recTag; simp; omega
  · unfold tab; simp; omega
end Sf
namespace Go.Proofs.Ytbcilhdamjgoeaa
open Go.RowKit

set_option maxRecDepth 100000 in
set_option maxHeartbeats 800000 in
theorem sfntAgain_long (a : ByteArray) (w : World) (h : ¬ a.size ≤ 4000) :
    Calls Try.prog 4 #[.string a] w fun e w' => e = .returned (.bool true) ∧ Lo w w' := by
  go_enter Try.func4, Try.ntmps4
  go_wp2_with fail
  go_ret
  exact ⟨rfl, Lo.refl _⟩
set_option maxRecDepth 100000 in
set_option maxHeartbeats 800000 in
theorem sfntAgain_none (s : List UInt8) (w : World) (h : s.length ≤ 4000) (hn : (Sf.get s).2.2 ≠ 0) :
    Calls Try.prog 4 #[.string ⟨s.toArray⟩] w fun e w' => e = .returned (.bool true) ∧ Lo w w' := by
  have HG := Lib.hid (fun W => sget_any s W (by omega))
  unfold GotTabs at HG
  obtain ⟨h1, h2⟩ := Sf.get_none hn
  rw [h1, h2] at HG
  generalize (Sf.get s).2.2 = er at *
  have hb : (er == 0) = false := by simpa using hn
  clear hn h1 h2
  simp only [List.length_nil] at HG
  go_enter Try.func4, Try.ntmps4
  go_wp2_with fail
  refine (HG.out _).mono ?_
  rintro e w1 ⟨p, c, rfl, _, lo⟩
  have HL := Lib.hid lo
  clear lo
  go_wp2_with fail
  refine (filed_any _).mono ?_
  rintro e w2 ⟨rfl, lo⟩
  have HL2 := Lib.hid (HL.out.trans lo)
  clear lo HL
  go_wp2_with fail
  go_ret
  exact ⟨rfl, HL2.out⟩
set_option maxRecDepth 100000 in
set_option maxHeartbeats 1600000 in
theorem sfntAgain_some (s : List UInt8) (w : World) (h : s.length ≤ 4000) (hn : (Sf.get s).2.2 = 0) :
    Calls Try.prog 4 #[.string ⟨s.toArray⟩] w fun e w' => e = .returned (.bool true) ∧ Lo w w' := by
  have HG := Lib.hid (fun W => sget_any s W (by omega))
  unfold GotTabs at HG
  have hsm := Sf.got_small h hn
  obtain ⟨h1, h2⟩ := Sf.get_again h hn
  rw [hn] at HG
  generalize (Sf.get s).2.1 = l at *
  generalize (Sf.get s).1 = v at *
  have HP := Lib.hid (fun (u : Value) (W : World) (hr : TRow W u l) => sput_any v l u W hr hsm)
  have hfl : (Sf.put v l).1.length ≤ 16777216 := by
    obtain ⟨_, hr, ht, he⟩ := Sf.put_ok h1
    rw [he, Sf.file_len v l (Sf.right_four hr)]; exact ht
  have HG2 := Lib.hid (fun W => sget_any (Sf.put v l).1 W (by omega))
  unfold GotTabs at HG2
  rw [h2] at HG2
  unfold strErr at HP
  rw [h1] at HP
  simp only at HG2
  generalize (Sf.put v l).1 = F at *
  generalize l.length = n at *
  clear hn h1 h2 hsm hfl
  go_enter Try.func4, Try.ntmps4
  go_wp2_with fail
  refine (HG.out _).mono ?_
  rintro e w1 ⟨p, c, rfl, hrow, lo⟩
  have HL := Lib.hid lo
  have HR := Lib.hid hrow
  clear lo hrow
  go_wp2_with fail
  refine (HP.out _ _ HR.out).mono ?_
  rintro e w2 ⟨rfl, lo⟩
  have HL2 := Lib.hid (HL.out.trans lo)
  have HR2 := Lib.hid (HR.out.lo lo)
  clear lo HL HR
  go_wp2_with fail
  refine (HG2.out _).mono ?_
  rintro e w3 ⟨p2, c2, rfl, hrow, lo⟩
  have HL3 := Lib.hid (HL2.out.trans lo)
  have HR3 := Lib.hid (HR2.out.lo lo)
  have HM3 := Lib.hid hrow
  clear lo HL2 HR2 hrow
  go_wp2_with fail
  refine (HP.out _ _ HM3.out).mono ?_
  rintro e w4 ⟨rfl, lo⟩
  have HL4 := Lib.hid (HL3.out.trans lo)
  have HR4 := Lib.hid (HR3.out.lo lo)
  have HM4 := Lib.hid (HM3.out.lo lo)
  clear lo HL3 HR3 HM3
  go_wp2_with fail
  refine (filed_any _).mono ?_
  rintro e w5 ⟨rfl, lo⟩
  have HL5 := Lib.hid (HL4.out.trans lo)
  have HR5 := Lib.hid (HR4.out.lo lo)
  have HM5 := Lib.hid (HM4.out.lo lo)
  clear lo HL4 HR4 HM4
  go_wp2_with fail
  refine (same_any l _ _ _ HR5.out HM5.out).mono ?_
  rintro e w6 ⟨rfl, lo⟩
  have HL6 := Lib.hid (HL5.out.trans lo)
  clear lo HL5 HR5 HM5
  go_wp2_with fail
  go_ret
  exact ⟨ret_bool (by simp), HL6.out⟩

theorem sfntAgain_walk (a0 : ByteArray) (_w0 : a0.size ≤ maxLen) (w : World) :
    Calls Try.prog 4 #[.string a0] w fun e w' => e = .returned (.bool true) ∧ Below w.heap.size w w' := by
  by_cases h : a0.size ≤ 4000
  · by_cases hn : (Sf.get a0.data.toList).2.2 = 0
    · exact sfntAgain_some a0.data.toList w h hn
    · exact sfntAgain_none a0.data.toList w h hn
  · exact sfntAgain_long a0 w h
end Go.Proofs.Ytbcilhdamjgoeaa
