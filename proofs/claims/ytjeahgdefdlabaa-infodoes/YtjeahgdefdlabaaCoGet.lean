/-
  The contract of cover.Get: it answers what the plain function on bytes says. No conditions beyond those stated.
-/
import Derived.Test.YtjeahgdefdlabaaCoRead
import Derived.Test.YtjeahgdefdlabaaCoList
namespace Co
open Bn
theorem rd_shape (s : List UInt8) (pos : Int) (h : (rdC s pos).2.2 = 0) : ((rdC s pos).1 = 1 ∨ (rdC s pos).1 = 2) ∧ Small (rdC s pos).2.1 ∧ ((rdC s pos).1 = 2 → ∃ n, n ≤ 65535 ∧ (rdC s pos).2.1.length = 3 * n) := by
  unfold rdC at *
  by_cases c1 : pos < 0
  · rw [if_pos c1] at h; cases h
  · rw [if_neg c1] at h ⊢
    by_cases c2 : (s.length : Int) < pos ∨ (s.length : Int) - pos < 4
    · rw [if_pos c2] at h; cases h
    · rw [if_neg c2] at h ⊢
      generalize s.drop pos.toNat = t at *
      by_cases c3 : word t 0 ≠ 1 ∧ word t 0 ≠ 2
      · rw [if_pos c3] at h; cases h
      · rw [if_neg c3] at h ⊢
        by_cases c4 : t.length < 4 + 2 * count t
        · rw [if_pos c4] at h; cases h
        · rw [if_neg c4]
          have hb := word_bd t 2
          refine ⟨by dsimp only; omega, words_small _ _, fun h2 => ⟨(word t 2).toNat, by omega, ?_⟩⟩
          dsimp only at h2 ⊢
          rw [words_len]
          unfold count
          rw [if_pos h2]
end Co
namespace Go.Proofs.Ytjeahgdefdlabaa
open Go.RowKit

set_option maxHeartbeats 800000 in
theorem coget_err (s : List UInt8) (pos k : Int) (w : World) (hl : s.length ≤ 9223372036854775807) (h1 : pos ≤ 9223372036854775807) (hk : (Co.rdC s pos).2.2 = k) (h : k ≠ 0) :
    Calls Try.prog 17 #[.string ⟨s.toArray⟩, .int .i64 pos] w (GotRow ([], k) w) := by
  have HR := Lib.hid (coread_any s pos w hl h1)
  have hkb : (k == 0) = false := by simpa using h
  unfold ReadC at HR
  rw [hk] at HR
  clear hk h hl h1
  go_enter Try.func17, Try.ntmps17
  go_wp2_with fail
  refine HR.out.mono ?_
  rintro e w1 ⟨p, c, rfl, hrow, lo⟩
  have HL := Lib.hid lo
  clear hrow lo HR
  go_wp2_with fail
  go_ret2
  exact GotRow.nil rfl HL.out

set_option maxHeartbeats 800000 in
theorem coget_one (s : List UInt8) (pos : Int) (l : List Int) (w : World) (hl : s.length ≤ 9223372036854775807) (h1 : pos ≤ 9223372036854775807) (hr : Co.rdC s pos = (1, l, 0)) :
    Calls Try.prog 17 #[.string ⟨s.toArray⟩, .int .i64 pos] w (GotRow (Co.told l) w) := by
  have HR := Lib.hid (coread_any s pos w hl h1)
  unfold ReadC at HR
  rw [hr] at HR
  have HI := Lib.hid (fun W v (h : Row W v l) => cois_any v l W h)
  unfold Co.told
  cases hc : Co.isCov l with
  | true =>
    rw [hc] at HI
    rw [if_pos rfl]
    clear hc hl h1 hr
    go_enter Try.func17, Try.ntmps17
    go_wp2_with fail
    refine HR.out.mono ?_
    rintro e w1 ⟨p, c, rfl, hrow, lo⟩
    have HL := Lib.hid lo
    have HRow := Lib.hid hrow
    clear hrow lo HR
    dsimp only at HRow ⊢
    go_wp2_with fail
    refine (HI.out _ _ HRow.out).mono ?_
    rintro e w2 ⟨rfl, rfl⟩
    go_wp2_with fail
    go_ret2
    exact ⟨_, _, rfl, HRow.out, HL.out⟩
  | false =>
    rw [hc] at HI
    rw [if_neg (by decide)]
    clear hc hl h1 hr
    go_enter Try.func17, Try.ntmps17
    go_wp2_with fail
    refine HR.out.mono ?_
    rintro e w1 ⟨p, c, rfl, hrow, lo⟩
    have HL := Lib.hid lo
    have HRow := Lib.hid hrow
    clear hrow lo HR
    dsimp only at HRow ⊢
    go_wp2_with fail
    refine (HI.out _ _ HRow.out).mono ?_
    rintro e w2 ⟨rfl, rfl⟩
    go_wp2_with fail
    go_ret2
    exact GotRow.nil rfl HL.out

set_option maxHeartbeats 800000 in
theorem coget_bad (s : List UInt8) (pos : Int) (fs : List Int) (n : Nat) (w : World) (hl : s.length ≤ 9223372036854775807) (h1 : pos ≤ 9223372036854775807) (hr : Co.rdC s pos = (2, fs, 0)) (hs : Co.Small fs) (hn : n ≤ 65535) (hf : fs.length = 3 * n)
    (o : List Int) (hg : Co.lst (Co.tri fs n) = (o, false)) : Calls Try.prog 17 #[.string ⟨s.toArray⟩, .int .i64 pos] w (GotRow ([], 5) w) := by
  have HR := Lib.hid (coread_any s pos w hl h1)
  unfold ReadC at HR
  rw [hr] at HR
  have HLs := Lib.hid (fun W v (h : Row W v fs) => listed_any fs hs n hn v W h hf)
  rw [hg] at HLs
  unfold GotList at HLs
  clear hg hl h1 hr hs hn hf
  go_enter Try.func17, Try.ntmps17
  go_wp2_with fail
  refine HR.out.mono ?_
  rintro e w1 ⟨p, c, rfl, hrow, lo⟩
  have HL := Lib.hid lo
  have HRow := Lib.hid hrow
  clear hrow lo HR
  dsimp only at HRow ⊢
  go_wp2_with fail
  refine (HLs.out _ _ HRow.out).mono ?_
  rintro e w2 ⟨p2, c2, rfl, hrow, lo⟩
  have HL2 := Lib.hid (HL.out.trans lo)
  clear hrow lo HLs HL HRow
  dsimp only
  go_wp2_with fail
  go_ret2
  exact GotRow.nil rfl HL2.out

set_option maxHeartbeats 800000 in
theorem coget_two (s : List UInt8) (pos : Int) (fs : List Int) (n : Nat) (w : World) (hl : s.length ≤ 9223372036854775807) (h1 : pos ≤ 9223372036854775807) (hr : Co.rdC s pos = (2, fs, 0)) (hs : Co.Small fs) (hn : n ≤ 65535) (hf : fs.length = 3 * n)
    (o : List Int) (hg : Co.lst (Co.tri fs n) = (o, true)) : Calls Try.prog 17 #[.string ⟨s.toArray⟩, .int .i64 pos] w (GotRow (Co.told o) w) := by
  have HR := Lib.hid (coread_any s pos w hl h1)
  unfold ReadC at HR
  rw [hr] at HR
  have HLs := Lib.hid (fun W v (h : Row W v fs) => listed_any fs hs n hn v W h hf)
  rw [hg] at HLs
  unfold GotList at HLs
  have HI := Lib.hid (fun W v (h : Row W v o) => cois_any v o W h)
  unfold Co.told
  clear hg hl h1 hr hs hn hf
  cases hc : Co.isCov o with
  | true =>
    rw [hc] at HI
    rw [if_pos rfl]
    clear hc
    go_enter Try.func17, Try.ntmps17
    go_wp2_with fail
    refine HR.out.mono ?_
    rintro e w1 ⟨p, c, rfl, hrow, lo⟩
    have HL := Lib.hid lo
    have HRow := Lib.hid hrow
    clear hrow lo HR
    dsimp only at HRow ⊢
    go_wp2_with fail
    refine (HLs.out _ _ HRow.out).mono ?_
    rintro e w2 ⟨p2, c2, rfl, hrow, lo⟩
    have HL2 := Lib.hid (HL.out.trans lo)
    have HRo := Lib.hid hrow
    clear hrow lo HLs HL HRow
    dsimp only at HRo ⊢
    go_wp2_with fail
    refine (HI.out _ _ HRo.out).mono ?_
    rintro e w3 ⟨rfl, rfl⟩
    go_wp2_with fail
    go_ret2
    exact ⟨_, _, rfl, HRo.out, HL2.out⟩
  | false =>
    rw [hc] at HI
    rw [if_neg (by decide)]
    clear hc
    go_enter Try.func17, Try.ntmps17
    go_wp2_with fail
    refine HR.out.mono ?_
    rintro e w1 ⟨p, c, rfl, hrow, lo⟩
    have HL := Lib.hid lo
    have HRow := Lib.hid hrow
    clear hrow lo HR
    dsimp only at HRow ⊢
    go_wp2_with fail
    refine (HLs.out _ _ HRow.out).mono ?_
    rintro e w2 ⟨p2, c2, rfl, hrow, lo⟩
    have HL2 := Lib.hid (HL.out.trans lo)
    have HRo := Lib.hid hrow
    clear hrow lo HLs HL HRow
    dsimp only at HRo ⊢
    go_wp2_with fail
    refine (HI.out _ _ HRo.out).mono ?_
    rintro e w3 ⟨rfl, rfl⟩
    go_wp2_with fail
    go_ret2
    exact GotRow.nil rfl HL2.out

/-- cover.Get. -/
theorem coget_any (s : List UInt8) (pos : Int) (w : World) (hl : s.length ≤ 9223372036854775807) (h1 : pos ≤ 9223372036854775807) :
    Calls Try.prog 17 #[.string ⟨s.toArray⟩, .int .i64 pos] w fun e w' => GotRow (Co.get s pos) w e w' := by
  have hb := Co.get_by s pos
  have hsh := Co.rd_shape s pos
  obtain ⟨f, l, k, hr⟩ : ∃ f l k, Co.rdC s pos = (f, l, k) := ⟨_, _, _, rfl⟩
  rw [hr] at hb hsh
  dsimp only at hb hsh
  rw [hb]
  by_cases h0 : k = 0
  · subst h0
    obtain ⟨hf, hs, hn⟩ := hsh rfl
    rw [if_neg (by decide)]
    rcases hf with rfl | rfl
    · rw [if_neg (by decide)]
      exact coget_one s pos l w hl h1 hr
    · obtain ⟨n, hn1, hn2⟩ := hn rfl
      rw [if_pos rfl, hn2, Nat.mul_div_cancel_left _ (by omega)]
      cases hg : Co.lst (Co.tri l n) with
      | mk o b =>
        cases b with
        | false => rw [if_pos rfl]; exact coget_bad s pos l n w hl h1 hr hs hn1 hn2 o hg
        | true => rw [if_neg (by simp)]; exact coget_two s pos l n w hl h1 hr hs hn1 hn2 o hg
  · rw [if_pos h0]
    exact coget_err s pos k w hl h1 (by rw [hr]) h0
end Go.Proofs.Ytjeahgdefdlabaa
