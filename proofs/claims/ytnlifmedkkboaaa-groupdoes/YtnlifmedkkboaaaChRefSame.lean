/-
  Contract of the document's Same of spans (layer 8), of rows that are alike. No conditions beyond those stated.
-/
import Derived.Test.YtnlifmedkkboaaaChBase
import Derived.Deep.RegionHeld3
import Derived.WalkMore
namespace Go.Proofs.Ytnlifmedkkboaaa
open Go.RowKit

set_option maxHeartbeats 1600000 in
theorem ssame_any (l : List Ch.Span) (v u : Value) (w : World) (h : SRow w v l) (h2 : SRow w u l) : Calls Try.prog 15 #[v, u] w fun e w' => e = .returned (.bool true) ∧ Lo w w' := by
  obtain ⟨p, c, rfl, hlen⟩ := RowK.form h
  obtain ⟨p2, c2, rfl, _⟩ := RowK.form h2
  have HR := Lib.hid h
  have HR2 := Lib.hid h2
  generalize hn : l.length = n at *
  have HN := Lib.hid hn
  clear hn h h2
  go_enter Try.func15, Try.ntmps15
  go_wp2_with fail
  go_loopw [5] (fun i W => ∃ k : Nat, k ≤ n ∧ i = .int .i64 k ∧ Hid (Lo w W)) (fun i _ => n - (intOf i).toNat)
  case atStart => exact ⟨0, Nat.zero_le _, rfl, Lib.hid (Lo.refl _)⟩
  case round =>
    obtain ⟨k, hk, rfl, HL⟩ := hrel
    by_cases hlt : k < n
    · have hx : l[k]? = some (l.getD k Ch.zs) := Ch.getD_some (by rw [HN.out]; exact hlt)
      obtain ⟨b, off, rfl, r0, r1, r2, r3⟩ := SRow.at4 (RowK.lo HR.out HL.out) hx
      obtain ⟨b2, off2, rfl, s0, s1, s2, s3⟩ := SRow.at4 (RowK.lo HR2.out HL.out) hx
      clear hx
      generalize l.getD k Ch.zs = x at *
      go_wp2_with fail
      go_quiet (fail)
      have HL2 := Lib.hid (HL.out.drewN nq)
      go_wp2_with fail
      go_roundw
      case rel => exact ⟨k + 1, by omega, by go_num, HL2⟩
      case measure => simp [intOf]; omega
    · go_wp2_with fail
      go_ret
      exact ⟨rfl, HL.out⟩
end Go.Proofs.Ytnlifmedkkboaaa
