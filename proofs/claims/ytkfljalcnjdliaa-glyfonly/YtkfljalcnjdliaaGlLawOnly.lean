/-
  The walk of the law GlyfOnly: it returns true, whatever tables and number (no table longer than a machine's memory), and nothing that was there turns. No conditions beyond that.
-/
import Derived.Test.YtkfljalcnjdliaaGlSame
import Derived.SizedLaws
namespace Go.Proofs.Ytkfljalcnjdliaa
open Go.RowKit

set_option maxHeartbeats 400000 in
theorem glyfOnly_long (s g : List UInt8) (n : Int) (long : Bool) (w : World) (hs : s.length ≤ 140737488351232) (hg : g.length ≤ 140737488351232) (h : 4000 < s.length + g.length) :
    Calls Try.prog 5 #[.string ⟨s.toArray⟩, .string ⟨g.toArray⟩, .int .i64 n, .bool long] w fun e w' => e = .returned (.bool true) ∧ Lo w w' := by
  have h1 : (4000 : Int) < (s.length : Int) + (g.length : Int) := by omega
  go_enter Try.func5, Try.ntmps5
  go_wp2_with fail
  go_ret
  exact ⟨rfl, Lo.refl _⟩

set_option maxRecDepth 100000 in
set_option maxHeartbeats 1600000 in
theorem glyfOnly_none (s g : List UInt8) (n : Int) (long : Bool) (w : World) (h : s.length + g.length ≤ 4000) (hn : (Gl.get s g n long).2 ≠ 0) :
    Calls Try.prog 5 #[.string ⟨s.toArray⟩, .string ⟨g.toArray⟩, .int .i64 n, .bool long] w fun e w' => e = .returned (.bool true) ∧ Lo w w' := by
  have HG := Lib.hid (fun W => gget_any s g n long W (by omega) (by omega))
  have HD := Lib.hid (fun W => drawn_any W)
  unfold GotExt at HG
  rw [Gl.get_none hn] at HG
  generalize (Gl.get s g n long).2 = k at *
  have hb : (k != 0) = true := by simpa using hn
  have h1 : ¬ (4000 : Int) < (s.length : Int) + (g.length : Int) := by omega
  simp only [List.length_nil] at HG
  clear hn
  go_enter Try.func5, Try.ntmps5
  go_wp2_with fail
  refine (HG.out _).mono ?_
  rintro e w1 ⟨p, c, rfl, _, lo⟩
  have HL := Lib.hid lo
  clear lo HG
  go_wp2_with fail
  refine (HD.out _).mono ?_
  rintro e w2 ⟨rfl, lo⟩
  have HL := Lib.hid (HL.out.trans lo)
  clear lo HD
  go_wp2_with fail
  go_ret
  exact ⟨rfl, HL.out⟩

set_option maxRecDepth 100000 in
set_option maxHeartbeats 3200000 in
theorem glyfOnly_some (s g : List UInt8) (n : Nat) (long : Bool) (w : World) (h : s.length + g.length ≤ 4000) (hn : (Gl.get s g n long).2 = 0) :
    Calls Try.prog 5 #[.string ⟨s.toArray⟩, .string ⟨g.toArray⟩, .int .i64 (n : Int), .bool long] w fun e w' => e = .returned (.bool true) ∧ Lo w w' := by
  have HG := Lib.hid (fun W => gget_any s g n long W (by omega) (by omega))
  have HD := Lib.hid (fun W => drawn_any W)
  obtain ⟨⟨g1, g2⟩, hw, hlen, hall⟩ := Gl.get_ok hn
  obtain ⟨ag1, ag2⟩ := Gl.get_again (by omega) hn
  rw [Int.toNat_natCast] at hlen
  have hn2 : n ≤ 2000 := by
    cases long with
    | true => have : (Gl.wid true : Int) = 4 := rfl
              rw [this] at hw; omega
    | false => have : (Gl.wid false : Int) = 2 := rfl
               rw [this] at hw; omega
  unfold GotExt at HG
  rw [hn] at HG
  generalize (Gl.get s g n long).1 = l at *
  have HP := Lib.hid (fun W v (h : ERow W v l) => gput_any v l long W h (by omega))
  have hb1 : (Gl.put l long).1.length ≤ 100000 ∧ (Gl.put l long).2.1.length ≤ 100000 := by
    obtain ⟨_, _, _, e1, e2⟩ := Gl.put_ok ag1
    rw [e1, e2, Gl.loca_len, Gl.bodies_len]
    have := Gl.outlines_le l
    refine ⟨?_, by omega⟩
    cases long with
    | true => show 4 * (l.length + 1) ≤ _; omega
    | false => show 2 * (l.length + 1) ≤ _; omega
  have HG2 := Lib.hid (fun W => gget_any (Gl.put l long).1 (Gl.put l long).2.1 n long W (by omega) (by omega))
  unfold GotExt at HG2
  rw [ag2] at HG2
  unfold strs3 at HP
  rw [ag1] at HP
  dsimp only at HG HG2 HP
  rw [hlen] at HG HG2
  have HSm := Lib.hid (fun (v u : Value) (W : World) (h : ERow W v l) (h2 : ERow W u l) => esame_any l v u W h h2)
  have HX : Hid (∀ k, k < n → l[k]? = some (l.getD k Gl.none) ∧ Gl.isExt (l.getD k Gl.none) = true) := Lib.hid (fun k hk => by
    have hk' : k < l.length := by omega
    exact ⟨Gl.getD_some hk', List.all_eq_true.1 hall _ (by simp [List.getD, List.getElem?_eq_getElem hk'])⟩)
  generalize (Gl.put l long).1 = t1 at *
  generalize (Gl.put l long).2.1 = t2 at *
  have h1 : ¬ (4000 : Int) < (s.length : Int) + (g.length : Int) := by omega
  clear hn hw hlen hall ag1 ag2 hb1
  go_enter Try.func5, Try.ntmps5
  go_wp2_with fail
  refine (HG.out _).mono ?_
  rintro e w1 ⟨p, c, rfl, hrow, lo⟩
  have HL := Lib.hid lo
  have HR := Lib.hid hrow
  clear lo HG hrow
  go_wp2_with fail
  go_loopw [11] (fun i W => ∃ k : Nat, k ≤ n ∧ i = .int .i64 k ∧ Hid (Lo w1 W)) (fun i _ => n - (intOf i).toNat)
  case atStart => exact ⟨0, Nat.zero_le _, rfl, Lib.hid (Lo.refl _)⟩
  case round =>
    obtain ⟨k, hk, rfl, HL2⟩ := hrel
    by_cases hlt : k < n
    · obtain ⟨hx1, hx2⟩ := HX.out k hlt
      obtain ⟨b, off, rfl, r0, r1, r2, r3, r4⟩ := ERow.at5 (RowK.lo HR.out HL2.out) hx1
      generalize l.getD k Gl.none = x at *
      have HI := Lib.hid (fun W => gis_any x W)
      rw [hx2] at HI
      unfold aggE at HI
      clear hx1 hx2
      go_wp2_with fail
      refine (HI.out _).mono ?_
      rintro e w3 ⟨rfl, lo⟩
      have HL3 := Lib.hid (HL2.out.trans lo)
      clear lo HI r0 r1 r2 r3 r4
      go_wp2_with fail
      go_roundw
      case rel => exact ⟨k + 1, by omega, by go_num, HL3⟩
      case measure => simp [intOf]; omega
    · obtain rfl : k = n := by omega
      have HL := Lib.hid (HL.out.trans HL2.out)
      have HR := Lib.hid (RowK.lo HR.out HL2.out)
      clear HL2
      go_wp2_with fail
      refine (HP.out _ _ HR.out).mono ?_
      rintro e w3 ⟨rfl, lo⟩
      have HL := Lib.hid (HL.out.trans lo)
      have HR := Lib.hid (RowK.lo HR.out lo)
      clear lo HP
      go_wp2_with fail
      refine (HG2.out _).mono ?_
      rintro e w4 ⟨p4, c4, rfl, hrow, lo⟩
      have HL := Lib.hid (HL.out.trans lo)
      have HR := Lib.hid (RowK.lo HR.out lo)
      have HM := Lib.hid hrow
      clear lo HG2 hrow
      go_wp2_with fail
      refine (HD.out _).mono ?_
      rintro e w5 ⟨rfl, lo⟩
      have HL := Lib.hid (HL.out.trans lo)
      have HR := Lib.hid (RowK.lo HR.out lo)
      have HM := Lib.hid (RowK.lo HM.out lo)
      clear lo HD
      go_wp2_with fail
      refine (HSm.out _ _ _ HR.out HM.out).mono ?_
      rintro e w6 ⟨rfl, lo⟩
      have HL := Lib.hid (HL.out.trans lo)
      clear lo HSm HR HM
      go_wp2_with fail
      go_ret
      exact ⟨rfl, HL.out⟩

theorem glyfOnly_walk (a b : ByteArray) (n : Int) (long : Bool) (w : World) (_w0 : a.size ≤ maxLen) (z0 : a.data.toList.length ≤ reachBytes) (_w1 : b.size ≤ maxLen) (z1 : b.data.toList.length ≤ reachBytes) (_w2 : (Lit.int .i64 n).wf = true) :
    Calls Try.prog 5 #[.string a, .string b, .int .i64 n, .bool long] w fun e w' => e = .returned (.bool true) ∧ Below w.heap.size w w' := by
  by_cases h : a.data.toList.length + b.data.toList.length ≤ 4000
  · by_cases hn : (Gl.get a.data.toList b.data.toList n long).2 = 0
    · have hb := (Gl.get_ok hn).1
      obtain ⟨n', rfl⟩ := Int.eq_ofNat_of_zero_le (show 0 ≤ n by omega)
      exact glyfOnly_some a.data.toList b.data.toList n' long w h hn
    · exact glyfOnly_none a.data.toList b.data.toList n long w h hn
  · exact glyfOnly_long a.data.toList b.data.toList n long w z0 z1 (by omega)
end Go.Proofs.Ytkfljalcnjdliaa
