/-
  Contract of chart.Is: right spans. No conditions beyond those stated.
-/
import Derived.Test.YtnlifmedkkboaaaChBase
namespace Go.Proofs.Ytnlifmedkkboaaa
open Go.RowKit

set_option maxHeartbeats 1600000 in
theorem cis_any (v : Value) (l : List Ch.Span) (w : World) (h : SRow w v l) : Calls Try.prog 17 #[v] w fun e w' => e = .returned (.bool (Ch.isL l)) ∧ Lo w w' := by
  obtain ⟨p, c, rfl, hlen⟩ := RowK.form h
  rcases Nat.lt_or_ge 65536 l.length with hm | hm
  · rw [Ch.isL_many hm]
    generalize l.length = n at *
    have hmz : (65536 : Int) < (n : Int) := by omega
    go_enter Try.func17, Try.ntmps17
    go_wp2_with fail
    go_ret
    exact ⟨rfl, Lo.refl _⟩
  · have HR := Lib.hid h
    have HV := Lib.hid (fun (x : Ch.Span) (W : World) => valid_any x W)
    have HY := Lib.hid (fun hc => Ch.isL_yes hm hc)
    have HN := Lib.hid (fun (k : Nat) hc => Ch.isL_no (l := l) (k := k) hc)
    generalize hn : l.length = n at *
    have HE := Lib.hid hn
    clear hn h
    generalize Ch.isL l = y at *
    have hmz : ¬ (65536 : Int) < (n : Int) := by omega
    unfold aggS at HV
    go_enter Try.func17, Try.ntmps17
    go_wp2_with fail
    go_loopw [3, 5, 11] (fun s3 _ s11 W => ∃ k : Nat, k ≤ n ∧ s11 = .int .i64 k ∧ s3 = .int .i64 (Ch.lastTo (-1) (l.take k)) ∧ Hid (Ch.chain (-1) (l.take k) = true) ∧ Hid (Lo w W)) (fun _ _ s11 _ => n - (intOf s11).toNat)
    case atStart => exact ⟨0, Nat.zero_le _, rfl, rfl, Lib.hid rfl, Lib.hid (Lo.refl _)⟩
    case round =>
      obtain ⟨k, hk, rfl, rfl, HC, HL⟩ := hrel
      by_cases hlt : k < n
      · have hk' : k < l.length := by rw [HE.out]; exact hlt
        have HS := Lib.hid (Ch.chain_step hk')
        have HT := Lib.hid (Ch.lastTo_step hk')
        obtain ⟨b, off, rfl, r0, r1, r2, r3⟩ := SRow.at4 (RowK.lo HR.out HL.out) (Ch.getD_some hk')
        clear hk'
        generalize Ch.lastTo (-1) (l.take k) = t at *
        generalize l.getD k Ch.zs = x at *
        have HV1 := Lib.hid (HV.out x)
        clear HV
        generalize Ch.okSpan x = ok at *
        obtain ⟨fr, tt, gl, st⟩ := x
        dsimp only at r0 r1 r2 r3 HS HT HV1
        by_cases hle : fr ≤ t
        · have HF : Hid (y = false) := Lib.hid (HN.out (k + 1) (by rw [HS.out, decide_eq_false (by omega), Bool.and_false, Bool.and_false]))
          clear HS HT HV1
          go_wp2_with fail
          go_ret
          exact ⟨ret_bool HF.out.symm, HL.out.alloc _⟩
        · cases ok with
          | false =>
            have HF : Hid (y = false) := Lib.hid (HN.out (k + 1) (by rw [HS.out, Bool.false_and, Bool.and_false]))
            clear HS HT
            go_wp2_with fail
            refine (HV1.out _).mono ?_
            rintro e w3 ⟨rfl, lo⟩
            have HL3 := Lib.hid ((HL.out.alloc _).trans lo)
            clear lo HV1 r0 r1 r2 r3
            go_wp2_with fail
            go_ret
            exact ⟨ret_bool HF.out.symm, HL3.out⟩
          | true =>
            have HC2 : Hid (Ch.chain (-1) (l.take (k + 1)) = true) := Lib.hid (by rw [HS.out, HC.out, decide_eq_true (by omega)]; rfl)
            clear HS HC
            go_wp2_with fail
            refine (HV1.out _).mono ?_
            rintro e w3 ⟨rfl, lo⟩
            have HL3 := Lib.hid ((HL.out.alloc _).trans lo)
            obtain ⟨⟨s0, s1, s2, s3⟩, _⟩ := four_at (lo_block lo (new_block _ _))
            clear lo HV1 r0 r1 r2 r3
            go_wp2_with fail
            go_roundw
            case rel => exact ⟨k + 1, by omega, by go_num, by rw [HT.out], HC2, HL3⟩
            case measure => simp [intOf]; omega
      · obtain rfl : k = n := by omega
        have HF : Hid (y = true) := Lib.hid (HY.out HC.out)
        go_wp2_with fail
        go_ret
        exact ⟨ret_bool HF.out.symm, HL.out⟩
end Go.Proofs.Ytnlifmedkkboaaa
