/-
  The walk of the law ChartOnly. No conditions beyond those stated.
-/
import Derived.Test.YtjfobpbnofjjdaaChSame
namespace Ch
open Bn He
theorem get_none {s : List UInt8} (h : (get s).2 ≠ 0) : (get s).1 = [] := by
  unfold get at *
  repeat' split at h
  all_goals first | (exfalso; exact h rfl) | skip
  all_goals (repeat' split) <;> first | rfl | contradiction | (exfalso; apply h; assumption)
theorem put6_len (l : List Span) : (putTrimmed l).1.length ≤ 65534 := by
  unfold putTrimmed
  by_cases c1 : isL l = false
  · rw [if_pos c1]; simp
  · rw [if_neg c1]
    by_cases c2 : 0 ≤ (ends l).1 ∧ 65535 < (ends l).2
    · rw [if_pos c2]; simp
    · rw [if_neg c2]
      by_cases c3 : 32762 < count l
      · rw [if_pos c3]; simp
      · rw [if_neg c3]
        unfold trimmed
        simp only [List.length_append, bytes_len, flat_len, List.length_map, List.length_range]
        have : (2 : Int).natAbs = 2 := rfl
        simp only [this, List.length_cons, List.length_nil]
        omega
theorem got_each {s : List UInt8} (h : (get s).2 = 0) (hs : s.length ≤ 3000) {i : Nat} (hi : i < (get s).1.length) : ((get s).1.getD i zs).to = ((get s).1.getD i zs).fr ∧ ((get s).1.getD i zs).gl ≠ 0 ∧ ((get s).1.getD i zs).st = 1 := by
  obtain ⟨_, _, _, f, a, n, e⟩ := get_again hs h
  have hm := getD_mem hi
  generalize (get s).1.getD i zs = x at *
  rw [e] at hm
  obtain ⟨_, _, h3, h4, h5⟩ := spansOf_mem f n a x hm
  exact ⟨h3, h4, h5⟩
end Ch
namespace Go.Proofs.Ytjfobpbnofjjdaa
open Go.RowKit

set_option maxRecDepth 100000 in
set_option maxHeartbeats 3200000 in
theorem chartOnly_list (s : List UInt8) (w : World) (hs : s.length ≤ 9223372036854775807) : Calls Try.prog 5 #[.string ⟨s.toArray⟩] w fun e w' => e = .returned (.bool true) ∧ Lo w w' := by
  have hsz : (ByteArray.mk s.toArray).size = s.length := rfl
  rcases Nat.lt_or_ge 3000 s.length with h3 | h3
  · have hz : (3000 : Int) < (s.length : Int) := by omega
    generalize s.length = n at *
    go_enter Try.func5, Try.ntmps5
    go_wp2_with fail
    go_ret
    exact ⟨rfl, Lo.refl _⟩
  · have HG := Lib.hid (fun W => cget_any s W hs)
    have HD := Lib.hid (fun W => charted_any W)
    unfold GotSp at HG
    by_cases h0 : (Ch.get s).2 = 0
    · obtain ⟨g1, g2, g3, _⟩ := Ch.get_again h3 h0
      have HP := Lib.hid (fun (v : Value) (W : World) (h : SRow W v (Ch.get s).1) => putTrimmed_any v _ W h)
      have hpl := Ch.put6_len (Ch.get s).1
      have HG2 := Lib.hid (fun W => cget_any (Ch.putTrimmed (Ch.get s).1).1 W (by omega))
      have HI := Lib.hid (fun (v : Value) (W : World) (h : SRow W v (Ch.get s).1) => cis_any v _ W h)
      have HSm := Lib.hid (fun (v u : Value) (W : World) (h : SRow W v (Ch.get s).1) (h2 : SRow W u (Ch.get s).1) => ssame_any _ v u W h h2)
      have HEa := Lib.hid (fun (i : Nat) (hi : i < (Ch.get s).1.length) => Ch.got_each h0 h3 hi)
      rw [g3] at HG2
      rw [g1] at HI
      unfold strErr at HP
      rw [g2] at HP
      unfold GotSp at HG2
      rw [h0] at HG
      generalize (Ch.get s).1 = l at *
      generalize (Ch.putTrimmed l).1 = t at *
      dsimp only at HG2
      have htz : (ByteArray.mk t.toArray).size = t.length := rfl
      generalize t.length = tn at *
      clear g1 g2 g3 h0
      generalize hn : l.length = n at *
      have HN := Lib.hid hn
      generalize hsn : s.length = sn at *
      have hz : ¬ (3000 : Int) < (sn : Int) := by omega
      clear hn hsn
      go_enter Try.func5, Try.ntmps5
      go_wp2_with fail
      refine (HG.out _).mono ?_
      rintro e w1 ⟨p, c, rfl, hrow, lo⟩
      have HL := Lib.hid lo
      have HR := Lib.hid hrow
      have hn63 : n ≤ 9223372036854775807 := by
        obtain ⟨_, _, _, h⟩ := RowK.form hrow
        rw [HN.out] at h; exact h
      clear lo hrow HG
      go_wp2_with fail
      go_loopw [5] (fun s5 W => ∃ k : Nat, k ≤ n ∧ s5 = .int .i64 k ∧ Hid (Lo w1 W)) (fun s5 _ => n - (intOf s5).toNat)
      case atStart => exact ⟨0, Nat.zero_le _, rfl, Lib.hid (Lo.refl _)⟩
      case round =>
        obtain ⟨k, hk, rfl, HL1⟩ := hrel
        by_cases hlt : k < n
        · have hx : l[k]? = some (l.getD k Ch.zs) := Ch.getD_some (by rw [HN.out]; exact hlt)
          obtain ⟨b, off, rfl, r0, r1, r2, r3⟩ := SRow.at4 (RowK.lo HR.out HL1.out) hx
          obtain ⟨x1, x2, x3⟩ := HEa.out k hlt
          clear hx
          generalize l.getD k Ch.zs = x at *
          obtain ⟨fr, tt, gl, st⟩ := x
          dsimp only at r0 r1 r2 r3 x1 x2 x3
          subst x1 x3
          have hgb : (gl == 0) = false := by rw [beq_eq_false_iff_ne]; exact x2
          go_wp2_with fail
          go_quiet (fail)
          have HL2 := Lib.hid (HL1.out.drewN nq)
          clear r0 r1 r2 r3
          go_wp2_with fail
          go_roundw
          case rel => exact ⟨k + 1, by omega, by go_num, HL2⟩
          case measure => simp [intOf]; omega
        · obtain rfl : k = n := by omega
          have HL := Lib.hid (HL.out.trans HL1.out)
          have HR := Lib.hid (RowK.lo HR.out HL1.out)
          clear HL1 HEa
          go_wp2_with fail
          refine (HP.out _ _ HR.out).mono ?_
          rintro e w3 ⟨rfl, lo⟩
          have HL := Lib.hid (HL.out.trans lo)
          have HR := Lib.hid (RowK.lo HR.out lo)
          clear lo HP
          go_wp2_with fail
          refine (HG2.out _).mono ?_
          rintro e w4 ⟨p4, c4, rfl, hrow, lo⟩
          have HL := Lib.hid (HL.out.trans lo)
          have HR := Lib.hid (RowK.lo HR.out lo)
          have HM := Lib.hid hrow
          clear lo hrow HG2
          go_wp2_with fail
          refine (HD.out _).mono ?_
          rintro e w5 ⟨rfl, lo⟩
          have HL := Lib.hid (HL.out.trans lo)
          have HR := Lib.hid (RowK.lo HR.out lo)
          have HM := Lib.hid (RowK.lo HM.out lo)
          clear lo HD
          go_wp2_with fail
          refine (HI.out _ _ HR.out).mono ?_
          rintro e w6 ⟨rfl, lo⟩
          have HL := Lib.hid (HL.out.trans lo)
          have HR := Lib.hid (RowK.lo HR.out lo)
          have HM := Lib.hid (RowK.lo HM.out lo)
          clear lo HI
          go_wp2_with fail
          refine (HSm.out _ _ _ HR.out HM.out).mono ?_
          rintro e w7 ⟨rfl, lo⟩
          have HL := Lib.hid (HL.out.trans lo)
          clear lo HSm HR HM
          go_wp2_with fail
          go_ret
          exact ⟨ret_bool (by first | (simp; done) | (simp; omega)), HL.out⟩
    · have hnil := Ch.get_none h0
      rw [hnil] at HG
      generalize (Ch.get s).2 = e0 at *
      have hb : (e0 == 0) = false := by rw [beq_eq_false_iff_ne]; exact h0
      generalize hsn : s.length = sn at *
      have hz : ¬ (3000 : Int) < (sn : Int) := by omega
      clear hsn hnil
      rw [List.length_nil] at HG
      go_enter Try.func5, Try.ntmps5
      go_wp2_with fail
      refine (HG.out _).mono ?_
      rintro e w1 ⟨p, c, rfl, hrow, lo⟩
      have HL := Lib.hid lo
      clear lo hrow HG
      go_wp2_with fail
      refine (HD.out _).mono ?_
      rintro e w2 ⟨rfl, lo⟩
      have HL := Lib.hid (HL.out.trans lo)
      clear lo HD
      go_wp2_with fail
      go_ret
      exact ⟨rfl, HL.out⟩

theorem chartOnly_walk (a : ByteArray) (w : World) (h : a.size ≤ maxLen) : Calls Try.prog 5 #[.string a] w fun e w' => e = .returned (.bool true) ∧ Below w.heap.size w w' := by
  have h1 : a.size = a.data.toList.length := rfl
  exact chartOnly_list a.data.toList w (by rw [h1] at h; unfold maxLen at h; omega)
end Go.Proofs.Ytjfobpbnofjjdaa
