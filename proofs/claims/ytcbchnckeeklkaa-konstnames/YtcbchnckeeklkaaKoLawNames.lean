/-
  The walk of the law KonstNames. No conditions beyond those stated.
-/
import Derived.Test.YtcbchnckeeklkaaKoTold
import Derived.SizedLaws
namespace Go.Proofs.Ytcbchnckeeklkaa
open Go.RowKit

set_option maxHeartbeats 400000 in
theorem konstNames_far (k : Int) (x : List UInt8) (w : World) (h : 100 < x.length) : Calls Try.prog 6 #[.int .i64 k, .string ⟨x.toArray⟩] w fun e w' => e = .returned (.bool true) ∧ Lo w w' := by
  have hsz : (ByteArray.mk x.toArray).size = x.length := rfl
  generalize x.length = n at *
  go_enter Try.func6, Try.ntmps6
  go_wp2_with fail
  go_ret
  exact ⟨rfl, Lo.refl _⟩

set_option maxHeartbeats 800000 in
theorem konstNames_no (k : Int) (x : List UInt8) (w : World) (h : x.length ≤ 100) (hk : k < 0 ∨ 55 < k) : Calls Try.prog 6 #[.int .i64 k, .string ⟨x.toArray⟩] w fun e w' => e = .returned (.bool true) ∧ Lo w w' := by
  have HN := Lib.hid (fun W => kname_any k W)
  rw [Ko.name_no hk] at HN
  unfold strErr at HN
  dsimp only at HN
  have HT := Lib.hid (fun W => ktold_any W)
  have hsz : (ByteArray.mk x.toArray).size = x.length := rfl
  generalize x.length = n at *
  by_cases h0 : k < 0
  · clear hk
    go_enter Try.func6, Try.ntmps6
    go_wp2_with fail
    refine (HN.out _).mono ?_
    rintro e w1 ⟨rfl, lo⟩
    have HL := Lib.hid lo
    clear lo HN
    go_wp2_with fail
    refine (HT.out _).mono ?_
    rintro e w2 ⟨rfl, lo⟩
    have HL2 := Lib.hid (HL.out.trans lo)
    clear lo HT
    go_wp2_with fail
    go_ret
    exact ⟨rfl, HL2.out⟩
  · have h1 : 56 ≤ k := by omega
    clear hk
    go_enter Try.func6, Try.ntmps6
    go_wp2_with fail
    refine (HN.out _).mono ?_
    rintro e w1 ⟨rfl, lo⟩
    have HL := Lib.hid lo
    clear lo HN
    go_wp2_with fail
    refine (HT.out _).mono ?_
    rintro e w2 ⟨rfl, lo⟩
    have HL2 := Lib.hid (HL.out.trans lo)
    clear lo HT
    go_wp2_with fail
    go_ret
    exact ⟨rfl, HL2.out⟩

set_option maxHeartbeats 800000 in
theorem konstNames_yes (k : Nat) (x : List UInt8) (w : World) (h : x.length ≤ 100) (hk : k < 56) : Calls Try.prog 6 #[.int .i64 (k : Int), .string ⟨x.toArray⟩] w fun e w' => e = .returned (.bool true) ∧ Lo w w' := by
  have HN := Lib.hid (fun W => kname_any (k : Int) W)
  rw [Ko.name_yes hk] at HN
  unfold strErr at HN
  dsimp only at HN
  have HF := Lib.hid (fun W => kfind_any (Ko.names.getD k []) W)
  rw [Ko.find_name hk] at HF
  have HT := Lib.hid (fun W => ktold_any W)
  have HG := Lib.hid (fun W => kfind_any x W)
  have hsz : (ByteArray.mk x.toArray).size = x.length := rfl
  generalize Ko.names.getD k [] = s at *
  dsimp only at HF
  by_cases hf : (Ko.find x).2 = 0
  · obtain ⟨_, _, hn⟩ := Ko.name_find hf
    have HM := Lib.hid (fun W => kname_any (Ko.find x).1 W)
    rw [hn] at HM
    unfold strErr at HM
    rw [hf] at HG
    generalize (Ko.find x).1 = m at *
    generalize x.length = n at *
    clear hf hn
    go_enter Try.func6, Try.ntmps6
    go_wp2_with fail
    refine (HN.out _).mono ?_
    rintro e w1 ⟨rfl, lo⟩
    have HL := Lib.hid lo
    clear lo HN
    go_wp2_with fail
    refine (HF.out _).mono ?_
    rintro e w2 ⟨rfl, lo⟩
    have HL2 := Lib.hid (HL.out.trans lo)
    clear lo HF
    go_wp2_with fail
    refine (HG.out _).mono ?_
    rintro e w3 ⟨rfl, lo⟩
    have HL3 := Lib.hid (HL2.out.trans lo)
    clear lo HG
    go_wp2_with fail
    refine (HM.out _).mono ?_
    rintro e w4 ⟨rfl, lo⟩
    have HL4 := Lib.hid (HL3.out.trans lo)
    clear lo HM
    go_wp2_with fail
    refine (HT.out _).mono ?_
    rintro e w5 ⟨rfl, lo⟩
    have HL5 := Lib.hid (HL4.out.trans lo)
    clear lo HT
    go_wp2_with fail
    go_ret
    exact ⟨rfl, HL5.out⟩
  · rw [(Ko.find_none hf).1] at HG
    generalize x.length = n at *
    dsimp only at HG
    clear hf
    go_enter Try.func6, Try.ntmps6
    go_wp2_with fail
    refine (HN.out _).mono ?_
    rintro e w1 ⟨rfl, lo⟩
    have HL := Lib.hid lo
    clear lo HN
    go_wp2_with fail
    refine (HF.out _).mono ?_
    rintro e w2 ⟨rfl, lo⟩
    have HL2 := Lib.hid (HL.out.trans lo)
    clear lo HF
    go_wp2_with fail
    refine (HG.out _).mono ?_
    rintro e w3 ⟨rfl, lo⟩
    have HL3 := Lib.hid (HL2.out.trans lo)
    clear lo HG
    go_wp2_with fail
    refine (HT.out _).mono ?_
    rintro e w4 ⟨rfl, lo⟩
    have HL4 := Lib.hid (HL3.out.trans lo)
    clear lo HT
    go_wp2_with fail
    go_ret
    exact ⟨rfl, HL4.out⟩

theorem konstNames_walk (k : Int) (x : ByteArray) (w : World) (_w0 : (Lit.int .i64 k).wf = true) (_w1 : x.size ≤ maxLen) : Calls Try.prog 6 #[.int .i64 k, .string x] w fun e w' => e = .returned (.bool true) ∧ Below w.heap.size w w' := by
  by_cases h : 100 < x.data.toList.length
  · exact konstNames_far k x.data.toList w h
  · by_cases hk : k < 0 ∨ 55 < k
    · exact konstNames_no k x.data.toList w (by omega) hk
    · obtain ⟨n, rfl⟩ := Int.eq_ofNat_of_zero_le (show 0 ≤ k by omega)
      exact konstNames_yes n x.data.toList w (by omega) (by omega)
end Go.Proofs.Ytcbchnckeeklkaa
