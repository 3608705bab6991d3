/-
  Contract of the document's Short (layer 9): a bool, true only for 60 spans at the most. No conditions beyond those stated.
-/
import Derived.Test.YtfnpindohoflaaaChBase
namespace Go.Proofs.Ytfnpindohoflaaa
open Go.RowKit

/-- A bool told, true only for so few. -/
def GotShort (n : Nat) (w : World) (e : Ending) (w' : World) : Prop := ∃ b : Bool, e = .returned (.bool b) ∧ (b = true → n ≤ 60) ∧ Lo w w'

set_option maxRecDepth 100000 in
set_option maxHeartbeats 1600000 in
theorem short_any (v : Value) (l : List Ch.Span) (w : World) (h : SRow w v l) : Calls Try.prog 8 #[v] w (GotShort l.length w) := by
  obtain ⟨p, c, rfl, hlen⟩ := RowK.form h
  have HR := Lib.hid h
  generalize hn : l.length = n at *
  have HN := Lib.hid hn
  clear hn h
  by_cases hm : n ≤ 60
  · go_enter Try.func8, Try.ntmps8
    go_wp2_with fail
    go_loopw [3, 4] (fun s3 s4 W => ∃ (k : Nat) (z : Int), k ≤ n ∧ s4 = .int .i64 k ∧ s3 = .int .i64 z ∧ Hid (Lo w W)) (fun _ s4 _ => n - (intOf s4).toNat)
    case atStart => exact ⟨0, 0, Nat.zero_le _, rfl, rfl, Lib.hid (Lo.refl _)⟩
    case round =>
      obtain ⟨k, z, hk, rfl, rfl, HL⟩ := hrel
      by_cases hlt : k < n
      · have hx : l[k]? = some (l.getD k Ch.zs) := Ch.getD_some (by rw [HN.out]; exact hlt)
        obtain ⟨b, off, rfl, r0, r1, r2, r3⟩ := SRow.at4 (RowK.lo HR.out HL.out) hx
        clear hx
        generalize l.getD k Ch.zs = x at *
        obtain ⟨fr, tt, gl, st⟩ := x
        dsimp only at r0 r1 r2 r3
        go_wp2_with fail
        go_quiet (fail)
        have HL2 := Lib.hid (HL.out.drewN nq)
        by_cases hb : 40000 < wrap64 (tt - fr)
        · clear r0 r1 r2 r3
          go_wp2_with fail
          go_roundw
          case rel => exact ⟨k + 1, z, by omega, by go_num, rfl, HL2⟩
          case measure => simp [intOf]; omega
        · go_wp2_with fail
          go_quiet (fail)
          clear r0 r1 r2 r3
          go_wp2_with fail
          go_roundw
          case rel => exact ⟨k + 1, _, by omega, by go_num, rfl, Lib.hid (HL.out.drewN _)⟩
          case measure => simp [intOf]; omega
      · obtain rfl : k = n := by omega
        by_cases hz : z ≤ 3000
        · go_wp2_with fail
          go_ret
          exact ⟨true, rfl, fun _ => hm, HL.out⟩
        · go_wp2_with fail
          go_ret
          exact ⟨false, rfl, fun h => (by cases h), HL.out⟩
  · go_enter Try.func8, Try.ntmps8
    go_wp2_with fail
    go_loopw [3, 4] (fun s3 s4 W => s4 = .int .i64 0 ∧ s3 = .int .i64 0 ∧ Hid (Lo w W)) (fun _ _ _ => 0)
    case atStart => exact ⟨rfl, rfl, Lib.hid (Lo.refl _)⟩
    case round =>
      obtain ⟨rfl, rfl, HL⟩ := hrel
      go_wp2_with fail
      go_ret
      exact ⟨false, rfl, fun h => (by cases h), HL.out⟩
end Go.Proofs.Ytfnpindohoflaaa
