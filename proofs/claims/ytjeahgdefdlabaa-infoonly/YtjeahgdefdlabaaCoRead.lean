/-
  The contract of cover.read: the format of a table and the fields of its glyphs or ranges. No conditions beyond those stated.
-/
import Derived.Test.YtjeahgdefdlabaaCoIs
namespace Co
open Bn
theorem rd_arg (s : List UInt8) {pos : Int} (h : pos < 0) : rdC s pos = (0, [], 1) ∧ Bn.get s pos [2, 2] = ([], 1) := by
  refine ⟨by unfold rdC; rw [if_pos h], get_neg s h 2⟩
theorem rd_more (s : List UInt8) {pos : Nat} (h : s.length < pos + 4) : rdC s pos = (0, [], 4) ∧ Bn.get s pos [2, 2] = ([], 4) := by
  refine ⟨by unfold rdC; rw [if_neg (by omega), if_pos (by omega)], ?_⟩
  rw [show ([2, 2] : List Int) = sz 2 from rfl, get_sz, if_pos (by omega)]
theorem rd_head (s : List UInt8) {pos : Nat} (h : pos + 4 ≤ s.length) : Bn.get s pos [2, 2] = ([word (s.drop pos) 0, word (s.drop pos) 2], 0) := by
  rw [show ([2, 2] : List Int) = sz 2 from rfl, get_sz, if_neg (by omega)]; rfl
theorem rd_form (s : List UInt8) {pos : Nat} (h : pos + 4 ≤ s.length) (hf : word (s.drop pos) 0 ≠ 1 ∧ word (s.drop pos) 0 ≠ 2) : rdC s pos = (0, [], 5) := by
  unfold rdC; rw [if_neg (by omega), if_neg (by omega), Int.toNat_natCast, if_pos hf]
/-- The fields, or that they are not all there. -/
theorem rd_rest (s : List UInt8) {pos : Nat} (h : pos + 4 ≤ s.length) (hf : word (s.drop pos) 0 = 1 ∨ word (s.drop pos) 0 = 2) :
    (Bn.get s ((pos + 4 : Nat) : Int) (sz (count (s.drop pos)))).2 = (rdC s pos).2.2 ∧ (Bn.get s ((pos + 4 : Nat) : Int) (sz (count (s.drop pos)))).1 = (rdC s pos).2.1 ∧ ((rdC s pos).2.2 ≠ 0 → rdC s pos = (0, [], (rdC s pos).2.2)) ∧
      ((rdC s pos).2.2 = 0 → (rdC s pos).1 = word (s.drop pos) 0) := by
  unfold rdC
  rw [if_neg (by omega), if_neg (by omega), Int.toNat_natCast, if_neg (by omega), get_sz, List.drop_drop, List.length_drop]
  by_cases c : s.length < pos + 4 + 2 * count (s.drop pos)
  · rw [if_pos c, if_pos (by omega)]; simp
  · rw [if_neg c, if_neg (by omega)]; simp
end Co
namespace Go.Proofs.Ytjeahgdefdlabaa
open Go.RowKit

/-- What read tells. -/
def ReadC (a : Int × List Int × Int) (w : World) (e : Ending) (w' : World) : Prop := ∃ p c, e = .returned (.tuple #[.int .i64 a.1, .slice p a.2.1.length c, .int .i64 a.2.2]) ∧ Row w' (.slice p a.2.1.length c) a.2.1 ∧ Lo w w'
theorem ReadC.nil {w w' : World} {k : Int} {e : Ending} (he : e = .returned (.tuple #[.int .i64 0, .slice none 0 0, .int .i64 k])) (h : Lo w w') : ReadC (0, [], k) w e w' := by
  subst he
  exact ⟨none, 0, rfl, .inl ⟨_, _, rfl, fun _ => rfl, rfl⟩, h⟩
theorem Row.two2 {w : World} {p : Option Addr} {c : Nat} {x0 x1 : Int} (h : Row w (.slice p 2 c) [x0, x1]) :
    ∃ b off, p = some ⟨b, off, none⟩ ∧ w.cell? ⟨b, off, none⟩ = some (.int .i64 x0) ∧ w.cell? ⟨b, off + 1, none⟩ = some (.int .i64 x1) := by
  obtain ⟨b, off, rfl, h0⟩ := h.at_ (k := 0) (by omega)
  obtain ⟨b1, off1, e1, h1⟩ := h.at_ (k := 1) (by omega)
  simp only [Option.some.injEq, Addr.mk.injEq, and_true] at e1
  obtain ⟨rfl, rfl⟩ := e1
  exact ⟨b, off, rfl, h0, h1⟩

set_option maxHeartbeats 1000000 in
theorem coread_no (s : List UInt8) (pos k : Int) (w : World) (hl : s.length ≤ 9223372036854775807) (h1 : pos ≤ 9223372036854775807) (hb : Bn.get s pos [2, 2] = ([], k)) (hk : k ≠ 0) (hr : Co.rdC s pos = (0, [], k)) :
    Calls Try.prog 40 #[.string ⟨s.toArray⟩, .int .i64 pos] w fun e w' => ReadC (Co.rdC s pos) w e w' := by
  rw [hr]
  have HG := Lib.hid (fun W (v : Value) (h : Row W v [2, 2]) => get_any s pos v [2, 2] W h (by simp) hl h1)
  rw [hb] at HG
  have hkb : (k == 0) = false := by simpa using hk
  clear hk hb hr
  go_enter Try.func40, Try.ntmps40
  go_wp2_with fail
  refine (HG.out _ _ (row2 w w.heap.size rfl 2 2)).mono ?_
  rintro e w1 ⟨p, c, rfl, hrow, lo⟩
  have HL := Lib.hid (((Lo.refl w).alloc _).trans lo)
  clear hrow lo HG
  go_wp2_with fail
  go_ret3
  exact ReadC.nil rfl HL.out

set_option maxHeartbeats 1000000 in
theorem coread_form (s : List UInt8) (pos : Nat) (f n : Int) (w : World) (hl : s.length ≤ 9223372036854775807) (h1 : (pos : Int) ≤ 9223372036854775807) (hb : Bn.get s pos [2, 2] = ([f, n], 0)) (hf1 : f ≠ 1) (hf2 : f ≠ 2) :
    Calls Try.prog 40 #[.string ⟨s.toArray⟩, .int .i64 (pos : Int)] w fun e w' => ReadC (0, [], 5) w e w' := by
  have HG := Lib.hid (fun W (v : Value) (h : Row W v [2, 2]) => get_any s pos v [2, 2] W h (by simp) hl h1)
  rw [hb] at HG
  have hb1 : (f == 1) = false := by simpa using hf1
  have hb2 : (f == 2) = false := by simpa using hf2
  clear hb hf1 hf2
  go_enter Try.func40, Try.ntmps40
  go_wp2_with fail
  refine (HG.out _ _ (row2 w w.heap.size rfl 2 2)).mono ?_
  rintro e w1 ⟨p, c, rfl, hrow, lo⟩
  have HL := Lib.hid (((Lo.refl w).alloc _).trans lo)
  obtain ⟨b, off, rfl, c0, c1⟩ := Row.two2 hrow
  clear hrow lo HG
  go_wp2_with fail
  go_quiet (fail)
  have HL2 := Lib.hid (HL.out.drewN nq)
  go_wp2_with fail
  go_ret3
  exact ReadC.nil rfl HL2.out

set_option maxRecDepth 100000 in
set_option maxHeartbeats 1000000 in
theorem coread_some (s : List UInt8) (pos : Nat) (f : Int) (n m : Nat) (w : World) (hl : s.length ≤ 9223372036854775807) (h1 : (pos : Int) + 4 ≤ 9223372036854775807) (hb : Bn.get s pos [2, 2] = ([f, (n : Int)], 0))
    (hf : f = 1 ∧ m = n ∨ f = 2 ∧ m = 3 * n) (hn : n ≤ 65535) (l : List Int) (k : Int) (hg : Bn.get s ((pos : Int) + 4) (Co.sz m) = (l, k)) (hk : k ≠ 0 → Co.rdC s pos = (0, [], k)) (hk0 : k = 0 → Co.rdC s pos = (f, l, 0)) :
    Calls Try.prog 40 #[.string ⟨s.toArray⟩, .int .i64 (pos : Int)] w fun e w' => ReadC (Co.rdC s pos) w e w' := by
  have HG := Lib.hid (fun W (v : Value) (h : Row W v [2, 2]) => get_any s pos v [2, 2] W h (by simp) hl (by omega))
  rw [hb] at HG
  have HG2 := Lib.hid (fun W (v : Value) (h : Row W v (Co.sz m)) => get_any s ((pos : Int) + 4) v (Co.sz m) W h (by rw [Co.sz_len]; omega) hl h1)
  rw [hg] at HG2
  have HZ := Lib.hid (fun W => cosizes_any m W (by omega))
  have HK := Lib.hid hk
  have HK0 := Lib.hid hk0
  clear hb hg hk hk0
  go_enter Try.func40, Try.ntmps40
  go_wp2_with fail
  refine (HG.out _ _ (row2 w w.heap.size rfl 2 2)).mono ?_
  rintro e w1 ⟨p, c, rfl, hrow, lo⟩
  have HL := Lib.hid (((Lo.refl w).alloc _).trans lo)
  obtain ⟨b, off, rfl, c0, c1⟩ := Row.two2 hrow
  clear hrow lo HG
  go_wp2_with fail
  go_quiet (fail)
  have HL2 := Lib.hid (HL.out.drewN nq)
  clear c0 c1 HL
  rcases hf with ⟨rfl, rfl⟩ | ⟨rfl, hm⟩
  · go_wp2_with fail
    refine (HZ.out _).mono ?_
    rintro e w2 ⟨p2, c2, rfl, hrow, lo⟩
    have HL3 := Lib.hid (HL2.out.trans lo)
    have HR := Lib.hid hrow
    clear hrow lo HZ HL2
    go_wp2_with fail
    refine (HG2.out _ _ HR.out).mono ?_
    rintro e w3 ⟨p3, c3, rfl, hrow, lo⟩
    have HL4 := Lib.hid (HL3.out.trans lo)
    have HR4 := Lib.hid hrow
    clear hrow lo HG2 HL3 HR
    by_cases h0 : k = 0
    · have HK1 := Lib.hid (HK0.out h0)
      clear HK HK0
      subst h0
      go_wp2_with fail
      go_ret3
      rw [HK1.out]
      exact ⟨_, _, rfl, HR4.out, HL4.out⟩
    · have hkb : (k == 0) = false := by simpa using h0
      have HKn := Lib.hid (HK.out h0)
      clear h0 HK HK0 hl h1 hn HR4
      go_wp2_with fail
      go_ret3
      rw [HKn.out]
      exact ReadC.nil rfl HL4.out
  · have HM : Hid (((m : Nat) : Int) = (n : Int) * 3) := Lib.hid (by omega)
    go_wp2_with fail
    rw [← HM.out]
    refine (HZ.out _).mono ?_
    rintro e w2 ⟨p2, c2, rfl, hrow, lo⟩
    have HL3 := Lib.hid (HL2.out.trans lo)
    have HR := Lib.hid hrow
    clear hrow lo HZ HL2 hm
    go_wp2_with fail
    refine (HG2.out _ _ HR.out).mono ?_
    rintro e w3 ⟨p3, c3, rfl, hrow, lo⟩
    have HL4 := Lib.hid (HL3.out.trans lo)
    have HR4 := Lib.hid hrow
    clear hrow lo HG2 HL3 HR
    by_cases h0 : k = 0
    · have HK1 := Lib.hid (HK0.out h0)
      clear HK HK0
      subst h0
      go_wp2_with fail
      go_ret3
      rw [HK1.out]
      exact ⟨_, _, rfl, HR4.out, HL4.out⟩
    · have hkb : (k == 0) = false := by simpa using h0
      have HKn := Lib.hid (HK.out h0)
      clear h0 HK HK0 hl h1 hn HR4
      go_wp2_with fail
      go_ret3
      rw [HKn.out]
      exact ReadC.nil rfl HL4.out

/-- cover.read. -/
theorem coread_any (s : List UInt8) (pos : Int) (w : World) (hl : s.length ≤ 9223372036854775807) (h1 : pos ≤ 9223372036854775807) :
    Calls Try.prog 40 #[.string ⟨s.toArray⟩, .int .i64 pos] w fun e w' => ReadC (Co.rdC s pos) w e w' := by
  by_cases c1 : pos < 0
  · exact coread_no s pos 1 w hl h1 (Co.rd_arg s c1).2 (by omega) (Co.rd_arg s c1).1
  · obtain ⟨q, rfl⟩ := Int.eq_ofNat_of_zero_le (show 0 ≤ pos by omega)
    rcases Nat.lt_or_ge s.length (q + 4) with c2 | c2
    · exact coread_no s q 4 w hl h1 (Co.rd_more s c2).2 (by omega) (Co.rd_more s c2).1
    · have hh := Co.rd_head s c2
      by_cases c3 : Co.word (s.drop q) 0 ≠ 1 ∧ Co.word (s.drop q) 0 ≠ 2
      · rw [Co.rd_form s c2 c3]
        exact coread_form s q _ _ w hl h1 hh c3.1 c3.2
      · obtain ⟨r1, r2, r3, r4⟩ := Co.rd_rest s c2 (by omega)
        have hbd := Co.word_bd (s.drop q) 2
        obtain ⟨n, hn⟩ := Int.eq_ofNat_of_zero_le hbd.1
        rw [hn] at hh
        have hc : Co.count (s.drop q) = if Co.word (s.drop q) 0 = 2 then 3 * n else n := by
          unfold Co.count; rw [hn, Int.toNat_natCast]
        rw [show ((q + 4 : Nat) : Int) = (q : Int) + 4 by omega] at r1 r2
        refine coread_some s q _ n (Co.count (s.drop q)) w hl (by omega) hh ?_ (by omega) (Co.rdC s q).2.1 (Co.rdC s q).2.2 (Prod.ext r2 r1) r3 (fun h => ?_)
        · by_cases c5 : Co.word (s.drop q) 0 = 2
          · rw [if_pos c5] at hc; exact .inr ⟨c5, hc⟩
          · rw [if_neg c5] at hc; exact .inl ⟨by omega, hc⟩
        · exact Prod.ext (r4 h) (Prod.ext rfl h)
end Go.Proofs.Ytjeahgdefdlabaa
