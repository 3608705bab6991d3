/-
  Contracts of the document's answers for layer 4: Version, Tag, Sum, number, Find, Right of the references. No conditions beyond those stated.
-/
import Derived.Test.YtchhjfocanjniaaGreatSfSame
import Derived.Test.YtchhjfocanjniaaGreatBnRefU
import Derived.Test.YtchhjfocanjniaaGreatBnRefB
namespace Sf
open Bn
theorem one_num (s : List UInt8) (pos n : Nat) : one ((s.drop pos).take n) (n : Int) = (num s pos n : Nat) := by
  unfold one num
  rw [if_neg (by omega)]
theorem right_false {l : List Tab} {k : Nat} (hk : k < l.length) (h : okAt l k = false) : right l = false := by
  rw [right_tagged, tagged_false hk h]; rfl
theorem right_true {l : List Tab} (h : ∀ k, k < l.length → okAt l k = true) : right l = decide (l.length ≤ 64) := by
  rw [right_tagged, tagged_true h, Bool.true_and]
theorem ok_zero {l : List Tab} {x : Tab} (h : l[0]? = some x) : okAt l 0 = isTag x.1 := by
  unfold okAt; rw [tagAt_some h]; simp
theorem ok_more {l : List Tab} {k : Nat} {x y : Tab} (hk : 0 < k) (h : l[k]? = some x) (h2 : l[k - 1]? = some y) : okAt l k = (isTag x.1 && less y.1 x.1) := by
  unfold okAt; rw [tagAt_some h, tagAt_some h2, show decide (k = 0) = false by simp; omega, Bool.false_or]
end Sf
namespace Go.Proofs.YtchhjfocanjniaaGreat
open Go.RowKit

set_option maxHeartbeats 400000 in
theorem rversion_any (n : Int) (w : World) : Calls Tryz.prog 18 #[.int .i64 n] w fun e w' => e = .returned (.bool (Sf.isVer n)) ∧ w = w' := by
  unfold Sf.isVer
  by_cases h1 : n = 65536
  · subst h1
    go_enter Tryz.func18, Tryz.ntmps18
    go_wp2_with fail
    go_ret
    exact ⟨ret_bool (by simp), rfl⟩
  · have hb : (n == 65536) = false := by simpa using h1
    by_cases h2 : n = 1330926671
    · subst h2
      go_enter Tryz.func18, Tryz.ntmps18
      go_wp2_with fail
      go_ret
      exact ⟨ret_bool (by simp), rfl⟩
    · have hb2 : (n == 1330926671) = false := by simpa using h2
      go_enter Tryz.func18, Tryz.ntmps18
      go_wp2_with fail
      go_ret
      exact ⟨ret_bool (by simp [h1, h2]), rfl⟩

set_option maxHeartbeats 400000 in
theorem rtag_any (l : List UInt8) (w : World) (hl : l.length ≤ 9223372036854775807) : Calls Tryz.prog 46 #[.string ⟨l.toArray⟩] w fun e w' => e = .returned (.bool (Sf.isTag l)) ∧ w = w' := by
  generalize hy : Sf.isTag l = y
  have HY := Lib.hid hy
  clear hy
  go_enter Tryz.func46, Tryz.ntmps46
  go_wp2_with fail
  go_loop [3] (fun i => ∃ k : Nat, k ≤ l.length ∧ i = .int .i64 k ∧ Hid (∀ c ∈ l.take k, 32 ≤ c.toNat ∧ c.toNat ≤ 126)) (fun i => l.length - (intOf i).toNat)
  case atStart => exact ⟨0, Nat.zero_le _, rfl, Lib.hid (by simp)⟩
  case round =>
    obtain ⟨k, hk, rfl, HI⟩ := hrel
    by_cases hlt : k < l.length
    · have hc := ba_get l k
      have HF := Lib.hid (Sf.tag_fail hlt)
      have HT := Lib.hid (Gk.take_snoc l k hlt)
      generalize l.getD k 0 = c at *
      by_cases h1 : c.toNat < 32
      · have HE : Hid (y = false) := Lib.hid (by rw [← HY.out]; exact HF.out (.inl h1))
        go_wp2_with fail
        go_ret
        exact ⟨ret_bool HE.out.symm, rfl⟩
      · by_cases h2 : 126 < c.toNat
        · have HE : Hid (y = false) := Lib.hid (by rw [← HY.out]; exact HF.out (.inr h2))
          go_wp2_with fail
          go_ret
          exact ⟨ret_bool HE.out.symm, rfl⟩
        · go_wp2_with fail
          go_round
          case rel => exact ⟨k + 1, by omega, by go_num, Lib.hid (by
            rw [HT.out]
            intro d hd
            rcases List.mem_append.1 hd with hd | hd
            · exact HI.out d hd
            · simp only [List.mem_singleton] at hd; subst hd; omega)⟩
          case measure => simp [intOf]; omega
    · have HE : Hid (y = decide (l.length = 4)) := Lib.hid (by rw [← HY.out]; exact Sf.tag_done (by have := HI.out; rwa [List.take_of_length_le (by omega)] at this))
      by_cases h4 : l.length = 4
      · have h4b : ((l.length : Int) == 4) = true := by simp; omega
        have HD : Hid (y = true) := Lib.hid (by rw [HE.out]; simp [h4])
        clear h4
        go_wp2_with fail
        go_ret
        exact ⟨ret_bool (by rw [HD.out]), rfl⟩
      · have h4b : ((l.length : Int) == 4) = false := by simp; omega
        have HD : Hid (y = false) := Lib.hid (by rw [HE.out]; simp [h4])
        clear h4
        go_wp2_with fail
        go_ret
        exact ⟨ret_bool (by rw [HD.out]), rfl⟩

set_option maxHeartbeats 800000 in
theorem rnumber_any (s : List UInt8) (pos n : Nat) (w : World) (h : pos + n ≤ s.length) (hn : n ≤ 4) (hl : s.length ≤ 16777216) :
    Calls Tryz.prog 19 #[.string ⟨s.toArray⟩, .int .i64 pos, .int .i64 n] w fun e w' => e = .returned (.int .i64 (Sf.num s pos n : Nat)) ∧ w = w' := by
  rw [← Sf.one_num]
  have e1 : (⟨s.toArray⟩ : ByteArray).extract pos (pos + n) = ⟨((s.drop pos).take n).toArray⟩ := by rw [Gk.extract_list, Nat.add_sub_cancel_left]
  have HO := Lib.hid (fun W => rone_any ((s.drop pos).take n) n W (by rw [List.length_take]; omega))
  generalize (s.drop pos).take n = t at *
  go_enter Tryz.func19, Tryz.ntmps19
  go_wp2_with fail
  refine (HO.out _).mono ?_
  rintro e w1 ⟨rfl, rfl⟩
  go_wp2_with fail
  go_ret
  exact ⟨rfl, rfl⟩

set_option maxHeartbeats 800000 in
theorem rtsum_any (x : Sf.Tab) (w : World) (h : x.2.length ≤ 100000) : Calls Tryz.prog 12 #[aggT x] w fun e w' => e = .returned (.int .i64 (Sf.tsum x : Nat)) ∧ Lo w w' := by
  obtain ⟨t, d⟩ := x
  unfold Sf.tsum aggT
  simp only at *
  by_cases h1 : t = Sf.headTag
  · have heq : (t == [104, 101, 97, 100]) = true := by simpa [Sf.headTag] using h1
    by_cases h2 : 12 ≤ d.length
    · rw [if_pos ⟨h1, h2⟩]
      have HS := Lib.hid (fun W => rsum_any (Sf.noughts d) W (by unfold Sf.noughts; simp; omega))
      have hx1 : (⟨d.toArray⟩ : ByteArray).extract 0 8 = ⟨(d.take 8).toArray⟩ := by rw [Gk.extract_list]; rfl
      have hx2 : (⟨d.toArray⟩ : ByteArray).extract 12 d.length = ⟨(d.drop 12).toArray⟩ := Gk.extract_from d 12
      have hc1 : (⟨(d.take 8).toArray⟩ : ByteArray) ++ ⟨([0, 0, 0, 0] : List UInt8).toArray⟩ = ⟨(d.take 8 ++ [0, 0, 0, 0]).toArray⟩ := Gk.cat_list _ _
      have hc2 : (⟨(d.take 8 ++ [0, 0, 0, 0]).toArray⟩ : ByteArray) ++ ⟨(d.drop 12).toArray⟩ = ⟨(Sf.noughts d).toArray⟩ := Gk.cat_list _ _
      generalize Sf.noughts d = nd at *
      clear h1
      go_enter Tryz.func12, Tryz.ntmps12
      go_wp2_with fail
      go_quiet (fail)
      have HL2 := Lib.hid (((Lo.refl w).alloc (.cells #[.string ⟨t.toArray⟩, .string ⟨d.toArray⟩] 33)).drewN nq)
      go_wp2_with fail
      refine (HS.out _).mono ?_
      rintro e w1 ⟨rfl, rfl⟩
      go_wp2_with fail
      go_ret
      exact ⟨rfl, HL2.out⟩
    · rw [if_neg (fun h => h2 h.2)]
      have HS := Lib.hid (fun W => rsum_any d W (by omega))
      clear h1
      go_enter Tryz.func12, Tryz.ntmps12
      go_wp2_with fail
      refine (HS.out _).mono ?_
      rintro e w1 ⟨rfl, rfl⟩
      go_wp2_with fail
      go_ret
      exact ⟨rfl, (Lo.refl w).alloc _⟩
  · have heq : (t == [104, 101, 97, 100]) = false := by simpa [Sf.headTag] using h1
    rw [if_neg (fun h => h1 h.1)]
    have HS := Lib.hid (fun W => rsum_any d W (by omega))
    clear h1
    go_enter Tryz.func12, Tryz.ntmps12
    go_wp2_with fail
    refine (HS.out _).mono ?_
    rintro e w1 ⟨rfl, rfl⟩
    go_wp2_with fail
    go_ret
    exact ⟨rfl, (Lo.refl w).alloc _⟩

set_option maxHeartbeats 800000 in
theorem rfind_any (l : List Sf.Tab) (v : Value) (t : List UInt8) (w : World) (h : TRow w v l) : Calls Tryz.prog 10 #[v, .string ⟨t.toArray⟩] w fun e w' => e = .returned (.tuple #[.string ⟨(Sf.find l t).1.toArray⟩, .bool (Sf.find l t).2]) ∧ w = w' := by
  obtain ⟨p, c, rfl, hlen⟩ := h.form
  have HR := Lib.hid h
  generalize hy : Sf.find l t = y
  have HY := Lib.hid hy
  generalize hn : l.length = n at *
  have HN := Lib.hid hn
  clear hn h hy
  go_enter Tryz.func10, Tryz.ntmps10
  go_wp2_with fail
  go_loop [6] (fun i => ∃ k : Nat, k ≤ n ∧ i = .int .i64 k ∧ Hid (Sf.find (l.take k) t = ([], false))) (fun i => n - (intOf i).toNat)
  case atStart => exact ⟨0, Nat.zero_le _, rfl, Lib.hid rfl⟩
  case round =>
    obtain ⟨k, hk, rfl, HI⟩ := hrel
    by_cases hlt : k < n
    · obtain ⟨x, hx⟩ := Sf.some_at (l := l) (k := k) (by rw [HN.out]; exact hlt)
      obtain ⟨b, off, rfl, hc1, hc2⟩ := TRow.at2 HR.out hx
      have HX := Lib.hid hx
      clear hx
      by_cases h1 : x.1 = t
      · have HE : Hid (y = (x.2, true)) := Lib.hid (by rw [← HY.out]; exact Sf.find_take t HX.out HI.out h1)
        have heq : (x.1 == t) = true := by simpa using h1
        clear h1
        go_wp2_with fail
        go_ret2
        exact ⟨by rw [HE.out]; rfl, rfl⟩
      · have HE : Hid (Sf.find (l.take (k + 1)) t = ([], false)) := Lib.hid (by rw [Sf.take_snocT HX.out, Sf.find_snoc, HI.out]; simp [h1])
        have heq : (x.1 == t) = false := by simpa using h1
        clear h1
        go_wp2_with fail
        go_round
        case rel => exact ⟨k + 1, by omega, by go_num, HE⟩
        case measure => simp [intOf]; omega
    · have HE : Hid (y = ([], false)) := Lib.hid (by rw [← HY.out]; have := HI.out; rwa [List.take_of_length_le (by rw [HN.out]; omega)] at this)
      go_wp2_with fail
      go_ret2
      exact ⟨by rw [HE.out]; rfl, rfl⟩

set_option maxRecDepth 100000 in
set_option maxHeartbeats 2000000 in
theorem rright_any (l : List Sf.Tab) (v : Value) (w : World) (h : TRow w v l) (hs : ∀ x ∈ l, x.1.length ≤ 4611686018427387904) : Calls Tryz.prog 32 #[v] w fun e w' => e = .returned (.bool (Sf.right l)) ∧ Lo w w' := by
  obtain ⟨p, c, rfl, hlen⟩ := h.form
  have HR := Lib.hid h
  have HS := Lib.hid hs
  have HRT := Lib.hid (@Sf.right_true l)
  have HRF := Lib.hid (fun k => @Sf.right_false l k)
  generalize hy : Sf.right l = y
  have HY := Lib.hid hy
  rw [hy] at HRT HRF
  generalize hn : l.length = n at *
  have HN := Lib.hid hn
  clear hn h hy hs
  go_enter Tryz.func32, Tryz.ntmps32
  go_wp2_with fail
  go_loopw [3] (fun i W => ∃ k : Nat, k ≤ n ∧ i = .int .i64 k ∧ Hid (∀ j, j < k → Sf.okAt l j = true) ∧ Hid (Lo w W)) (fun i _ => n - (intOf i).toNat)
  case atStart => exact ⟨0, Nat.zero_le _, rfl, Lib.hid (by omega), Lib.hid (Lo.refl _)⟩
  case round =>
    obtain ⟨k, hk, rfl, HI, HL⟩ := hrel
    by_cases hlt : k < n
    · have HK : Hid (k < l.length) := Lib.hid (by rw [HN.out]; exact hlt)
      obtain ⟨x, hx⟩ := Sf.some_at HK.out
      obtain ⟨b, off, rfl, hc1, hc2⟩ := TRow.at2 (HR.out.lo HL.out) hx
      have HT := Lib.hid (fun W => rtag_any x.1 W (by have := HS.out x (List.mem_of_getElem? hx); omega))
      have HB0 := Lib.hid (HRF.out k hlt)
      have HI2 : Hid (Sf.okAt l k = true → ∀ j, j < k + 1 → Sf.okAt l j = true) := Lib.hid (by
        intro h j hj
        rcases Nat.lt_or_ge j k with h3 | h3
        · exact HI.out j h3
        · obtain rfl : j = k := by omega
          exact h)
      have HX := Lib.hid hx
      clear hx hc2
      have j0 : (0 : Int) ≤ (k : Int) := by omega
      have j1 : (k : Int) < (n : Int) := by omega
      by_cases hk0 : k = 0
      · have HOk : Hid (Sf.okAt l k = Sf.isTag x.1) := Lib.hid (by have hx := HX.out; rw [hk0] at hx ⊢; exact Sf.ok_zero hx)
        have j2 : decide ((0 : Int) < (k : Int)) = false := by simp; omega
        have j2' : decide (0 < k) = false := by simp; omega
        clear hk0
        cases ht : Sf.isTag x.1 with
        | false =>
          rw [ht] at HT HOk
          have HE : Hid (y = false) := Lib.hid (HB0.out HOk.out)
          clear ht
          go_wp2_with fail
          go_quiet (first | (go_at_call 46; exact quiet' (HT.out _)))
          have HL2 := Lib.hid (HL.out.drewN nq)
          go_wp2_with fail
          go_ret
          exact ⟨ret_bool HE.out.symm, HL2.out⟩
        | true =>
          rw [ht] at HT HOk
          have HI3 := Lib.hid (HI2.out HOk.out)
          clear ht
          go_wp2_with fail
          go_quiet (first | (go_at_call 46; exact quiet' (HT.out _)))
          have HL2 := Lib.hid (HL.out.drewN nq)
          go_wp2_with fail
          go_roundw
          case rel => exact ⟨k + 1, by omega, by go_num, HI3, HL2⟩
          case measure => simp [intOf]; omega
      · obtain ⟨z, hz⟩ := Sf.some_at (l := l) (k := k - 1) (by have := HK.out; omega)
        have HOk := Lib.hid (Sf.ok_more (by omega) HX.out hz)
        obtain ⟨b', off', he, hc3, _⟩ := TRow.at2 (HR.out.lo HL.out) hz
        simp only [Option.some.injEq, Addr.mk.injEq, and_true] at he
        obtain ⟨rfl, rfl⟩ := he
        have hle := Sf.le_mk x.1 z.1
        clear hz
        have j2 : decide ((0 : Int) < (k : Int)) = true := by simp; omega
        have j2' : decide (0 < k) = true := by simp; omega
        have j3 : IntKind.i64.wrap ((k : Int) - 1) = (k : Int) - 1 := IntWalk.i64_in _ (by omega)
        have j4 : (0 : Int) ≤ (k : Int) - 1 := by omega
        have j4' : (1 : Int) ≤ (k : Int) := by omega
        have j5 : (k : Int) - 1 < (n : Int) := by omega
        have j6 : ((k : Int) - 1).toNat = k - 1 := by omega
        cases ht : Sf.isTag x.1 with
        | false =>
          rw [ht] at HT HOk
          have HE : Hid (y = false) := Lib.hid (HB0.out (by rw [HOk.out]; rfl))
          clear ht hle
          go_wp2_with fail
          go_quiet (first | (go_at_call 46; exact quiet' (HT.out _)))
          have HL2 := Lib.hid (HL.out.drewN nq)
          clear j2 j2' j3 j6
          go_wp2_with fail
          go_ret
          exact ⟨ret_bool HE.out.symm, HL2.out⟩
        | true =>
          rw [ht] at HT HOk
          cases hls : Sf.less z.1 x.1 with
          | true =>
            rw [hls] at HOk hle
            have HI3 := Lib.hid (HI2.out HOk.out)
            simp only [Bool.not_true] at hle
            clear ht hls
            go_wp2_with fail
            go_quiet (first | (go_at_call 46; exact quiet' (HT.out _)))
            have HL2 := Lib.hid (HL.out.drewN nq)
            clear j2 j2' j3 j6 hle
            go_wp2_with fail
            go_roundw
            case rel => exact ⟨k + 1, by omega, by go_num, HI3, HL2⟩
            case measure => simp [intOf]; omega
          | false =>
            rw [hls] at HOk hle
            have HE : Hid (y = false) := Lib.hid (HB0.out (by rw [HOk.out]; rfl))
            simp only [Bool.not_false] at hle
            clear ht hls
            go_wp2_with fail
            go_quiet (first | (go_at_call 46; exact quiet' (HT.out _)))
            have HL2 := Lib.hid (HL.out.drewN nq)
            clear j2 j2' j3 j6 hle
            go_wp2_with fail
            go_ret
            exact ⟨ret_bool HE.out.symm, HL2.out⟩
    · have HE : Hid (y = decide (n ≤ 64)) := Lib.hid (by rw [HRT.out (fun j hj => HI.out j (by omega))])
      go_wp2_with fail
      go_ret
      exact ⟨ret_bool (by rw [HE.out]; simp; omega), HL.out⟩
end Go.Proofs.YtchhjfocanjniaaGreat
