/-
  The contracts of the document's answers for layer 13, Name and Find. No conditions beyond those stated.
-/
import Derived.Test.YtcbchnckeeklkaaKoName
import Derived.Test.YtcbchnckeeklkaaGkBytes
namespace Ko
/-- All names, a blank behind each: what the document's answer reads. -/
def allText : List UInt8 := text names
theorem allText_len : allText.length = 1333 := by kernel_rfl
theorem allText_scan {k : Nat} (h : k < 56) : scan (allText.drop 0) ((allText.take 0).drop 0) k = (names.getD k [], 0) := name_scan h
theorem scan_past {T cur : List UInt8} {i k : Nat} (h : i < T.length) (hc : T.getD i 0 ≠ 32) : scan (T.drop i) cur k = scan (T.drop (i + 1)) (cur ++ [T.getD i 0]) k := by
  rw [List.drop_eq_getElem_cons h, scan]
  have e : T.getD i 0 = T[i] := by simp [List.getD, h]
  rw [e] at hc ⊢
  rw [if_pos hc]
theorem scan_hit {T cur : List UInt8} {i : Nat} (h : i < T.length) (hc : T.getD i 0 = 32) : scan (T.drop i) cur 0 = (cur, 0) := by
  rw [List.drop_eq_getElem_cons h, scan]
  have e : T.getD i 0 = T[i] := by simp [List.getD, h]
  rw [e] at hc
  rw [if_neg (by rw [hc]; simp), if_pos rfl]
theorem scan_next {T cur : List UInt8} {i k : Nat} (h : i < T.length) (hc : T.getD i 0 = 32) (hk : 0 < k) : scan (T.drop i) cur k = scan (T.drop (i + 1)) [] (k - 1) := by
  rw [List.drop_eq_getElem_cons h, scan]
  have e : T.getD i 0 = T[i] := by simp [List.getD, h]
  rw [e] at hc
  rw [if_neg (by rw [hc]; simp), if_neg (by omega)]
theorem scan_end {T cur : List UInt8} {k : Nat} : scan (T.drop T.length) cur k = ([], 1) := by
  rw [List.drop_length]; rfl
theorem cur_step {T : List UInt8} {f i : Nat} (h : i < T.length) (hf : f ≤ i) : (T.take (i + 1)).drop f = (T.take i).drop f ++ [T.getD i 0] := by
  rw [Gk.take_snoc T i h, List.drop_append_of_le_length (by rw [List.length_take]; omega)]
theorem cur_new {T : List UInt8} (i : Nat) : (T.take i).drop i = [] := List.drop_of_length_le (by rw [List.length_take]; omega)
end Ko
namespace Go.Proofs.Ytcbchnckeeklkaa
open Go.RowKit

def codeR : Code := (Code.region 0 [{ dst := some 0, op := Op.assign (Operand.const (Value.string { data := #[] })), type := 9, pos := "ref.go:67", after := #[], guard := none }].toArray false).seq
  ((Code.region 1 [{ dst := some 0, op := Op.assign (Operand.const (Value.string ⟨Ko.allText.toArray⟩)), type := 9, pos := "ref.go:68", after := #[], guard := none }].toArray false).seq Code.ret)
theorem codeR_is : Try.f29.body = some codeR := by kernel_rfl
theorem rnames_any (w : World) : Calls Try.prog 29 #[] w fun e w' => e = .returned (.string ⟨Ko.allText.toArray⟩) ∧ w = w' := by
  refine calls_of_wp Try.func29 codeR_is ?_
  simp only [Try.ntmps29, List.size_toArray, List.length_nil, Nat.reduceSub, Array.replicate_succ, Array.replicate_zero, List.push_toArray, List.append_toArray, List.nil_append]
  unfold codeR
  generalize (⟨Ko.allText.toArray⟩ : ByteArray) = T
  go_wp2_with fail
  go_ret
  exact ⟨rfl, rfl⟩

set_option maxHeartbeats 1600000 in
theorem rname13_yes (k : Nat) (w : World) (h : k < 56) : Calls Try.prog 13 #[.int .i64 (k : Int)] w fun e w' => e = strErr (Ko.names.getD k [], 0) ∧ w = w' := by
  have HN := Lib.hid (fun W => rnames_any W)
  have HY := Lib.hid (Ko.allText_scan h)
  have hlen := Ko.allText_len
  generalize Ko.names.getD k [] = y at *
  generalize Ko.allText = T at *
  obtain ⟨N, hN⟩ : ∃ N, T.length = N := ⟨_, rfl⟩
  have HT := Lib.hid hN
  have hN2 : N ≤ 100000 := by omega
  have hsz : (ByteArray.mk T.toArray).size = N := hN
  unfold strErr
  clear hlen hN
  go_enter Try.func13, Try.ntmps13
  go_wp2_with fail
  refine (HN.out _).mono ?_
  rintro e w1 ⟨rfl, rfl⟩
  go_wp2_with fail
  go_loop [0, 5, 6] (fun sk sf si => ∃ (q f i : Nat), i ≤ N ∧ f ≤ i ∧ q < 56 ∧ sk = .int .i64 (q : Int) ∧ sf = .int .i64 (f : Int) ∧ si = .int .i64 (i : Int) ∧ Hid (Ko.scan (T.drop i) ((T.take i).drop f) q = (y, 0))) (fun _ _ si => N - (intOf si).toNat)
  case atStart => exact ⟨k, 0, 0, by omega, by omega, h, rfl, rfl, rfl, HY⟩
  case round =>
    obtain ⟨q, f, i, hi, hf, hq, rfl, rfl, rfl, HI⟩ := hrel
    by_cases hlt : i < N
    · have hiT : i < T.length := by rw [HT.out]; exact hlt
      by_cases hc : T.getD i 0 = 32
      · have hget := ba_at T i 32 hc
        by_cases hq0 : q = 0
        · subst hq0
          have hh := HI.out
          rw [Ko.scan_hit hiT hc] at hh
          have hcur : (T.take i).drop f = y := (Prod.mk.inj hh).1
          have hex : (⟨T.toArray⟩ : ByteArray).extract f i = ⟨y.toArray⟩ := by rw [Gk.extract_list, ← hcur, List.drop_take]
          clear HI hh hcur hc
          go_wp2_with fail
          go_ret2
          exact ⟨rfl, rfl⟩
        · have hn : ((q : Int) == 0) = false := by simp; omega
          have HI2 : Hid (Ko.scan (T.drop (i + 1)) ((T.take (i + 1)).drop (i + 1)) (q - 1) = (y, 0)) := Lib.hid (by rw [Ko.cur_new, ← Ko.scan_next hiT hc (by omega)]; exact HI.out)
          clear HI hc
          go_wp2_with fail
          go_round
          case rel => exact ⟨q - 1, i + 1, i + 1, by omega, by omega, by omega, by go_num, by go_num, by go_num, HI2⟩
          case measure => simp [intOf]; omega
      · have HI2 : Hid (Ko.scan (T.drop (i + 1)) ((T.take (i + 1)).drop f) q = (y, 0)) := Lib.hid (by rw [Ko.cur_step hiT hf, ← Ko.scan_past hiT hc]; exact HI.out)
        generalize hcc : T.getD i 0 = c at *
        have hget := ba_at T i c hcc
        have hne := ne_byte c 32 hc
        rw [show (((32 : UInt8).toNat : Nat) : Int) = 32 from rfl] at hne
        clear HI hc hcc
        go_wp2_with fail
        go_round
        case rel => exact ⟨q, f, i + 1, by omega, by omega, hq, rfl, rfl, by go_num, HI2⟩
        case measure => simp [intOf]; omega
    · obtain rfl : i = N := by omega
      have hh := HI.out
      rw [← HT.out, Ko.scan_end] at hh
      cases (Prod.mk.inj hh).2

set_option maxHeartbeats 400000 in
theorem rname13_any (k : Int) (w : World) : Calls Try.prog 13 #[.int .i64 k] w fun e w' => e = strErr (Ko.name k) ∧ w = w' := by
  by_cases h0 : k < 0
  · rw [Ko.name_no (.inl h0)]
    unfold strErr
    go_enter Try.func13, Try.ntmps13
    go_wp2_with fail
    go_ret2
    exact ⟨rfl, rfl⟩
  · by_cases h1 : 55 < k
    · rw [Ko.name_no (.inr h1)]
      unfold strErr
      go_enter Try.func13, Try.ntmps13
      go_wp2_with fail
      go_ret2
      exact ⟨rfl, rfl⟩
    · obtain ⟨n, rfl⟩ := Int.eq_ofNat_of_zero_le (show 0 ≤ k by omega)
      rw [Ko.name_yes (by omega)]
      exact rname13_yes n w (by omega)

set_option maxHeartbeats 400000 in
theorem rfind13_any (x : List UInt8) (w : World) : Calls Try.prog 15 #[.string ⟨x.toArray⟩] w fun e w' => e = .returned (.tuple #[.int .i64 (Ko.find x).1, .int .i64 (Ko.find x).2]) ∧ w = w' := by
  have HX := Lib.hid (fun n (hn : n < 56) W => rname13_yes n W hn)
  unfold strErr at HX
  have HNo := Lib.hid (@Ko.find_never x)
  have HYes := Lib.hid (fun k (h : k < 56) => @Ko.find_at x k h)
  generalize hf : Ko.find x = f at *
  clear hf
  obtain ⟨fa, fb⟩ := f
  dsimp only at *
  go_enter Try.func15, Try.ntmps15
  go_wp2_with fail
  go_loop [4] (fun i => ∃ k : Nat, k ≤ 56 ∧ i = .int .i64 k ∧ Hid (∀ j, j < k → (Ko.names.getD j [] == x) = false)) (fun i => 56 - (intOf i).toNat)
  case atStart => exact ⟨0, by omega, rfl, Lib.hid (fun j hj => absurd hj (Nat.not_lt_zero _))⟩
  case round =>
    obtain ⟨k, hk, rfl, HI⟩ := hrel
    by_cases hlt : k < 56
    · have HXk := Lib.hid (fun W => HX.out k hlt W)
      have HYk := Lib.hid (HYes.out k hlt)
      have HIk : Hid ((Ko.names.getD k [] == x) = false → ∀ j, j < k + 1 → (Ko.names.getD j [] == x) = false) := Lib.hid (by
        intro hf j hj
        rcases Nat.lt_or_ge j k with hl | hl
        · exact HI.out j hl
        · obtain rfl : j = k := by omega
          exact hf)
      generalize Ko.names.getD k [] = nk at *
      cases hb : (nk == x) with
      | true =>
        have HE := Lib.hid (HYk.out hb)
        clear HI HIk HYk
        go_wp2_with fail
        refine (HXk.out _).mono ?_
        rintro e w1 ⟨rfl, rfl⟩
        go_wp2_with fail
        go_ret2
        obtain ⟨rfl, rfl⟩ := Prod.mk.inj HE.out
        exact ⟨rfl, rfl⟩
      | false =>
        have HI2 := Lib.hid (HIk.out hb)
        clear HI HIk HYk
        go_wp2_with fail
        refine (HXk.out _).mono ?_
        rintro e w1 ⟨rfl, rfl⟩
        go_wp2_with fail
        go_round
        case rel => exact ⟨k + 1, by omega, by go_num, HI2⟩
        case measure => simp [intOf]; omega
    · obtain rfl : k = 56 := by omega
      have HE := Lib.hid (HNo.out (fun j hj e => by have h := HI.out j hj; rw [e] at h; simp at h))
      go_wp2_with fail
      go_ret2
      obtain ⟨rfl, rfl⟩ := Prod.mk.inj HE.out
      exact ⟨rfl, rfl⟩
end Go.Proofs.Ytcbchnckeeklkaa
