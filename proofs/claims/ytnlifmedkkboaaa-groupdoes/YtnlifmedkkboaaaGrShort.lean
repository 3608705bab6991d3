/-
  Contract of the document's Short (layer 10): a bool, true only for 60 spans at the most. No conditions beyond those stated.
-/
import Derived.Test.YtnlifmedkkboaaaChBase
namespace Go.Proofs.Ytnlifmedkkboaaa
open Go.RowKit

/-- A bool told, true only for so few. -/
def GotShort (n : Nat) (w : World) (e : Ending) (w' : World) : Prop := ∃ b : Bool, e = .returned (.bool b) ∧ (b = true → n ≤ 60) ∧ Lo w w'

set_option maxRecDepth 100000 in
set_option maxHeartbeats 1600000 in
theorem short_any (v : Value) (l : List Ch.Span) (w : World) (h : SRow w v l) : Calls Try.prog 7 #[v] w (GotShort l.length w) := by
  obtain ⟨p, c, rfl, hlen⟩ := RowK.form h
  have HR := Lib.hid h
  generalize hn : l.length = n at *
  have HN := Lib.hid hn
  clear hn h
  by_cases hm : n ≤ 60
  · go_enter Try.func7, Try.ntmps7
    go_wp2_with fail
    go_loopw [3] (fun s3 W => ∃ (k : Nat), k ≤ n ∧ s3 = .int .i64 k ∧ Hid (Lo w W)) (fun s3 _ => n - (intOf s3).toNat)
    case atStart => exact ⟨0, Nat.zero_le _, rfl, Lib.hid (Lo.refl _)⟩
    case round =>
      obtain ⟨k, hk, rfl, HL⟩ := hrel
      by_cases hlt : k < n
      · have hx : l[k]? = some (l.getD k Ch.zs) := Ch.getD_some (by rw [HN.out]; exact hlt)
        obtain ⟨b, off, rfl, r0, r1, r2, r3⟩ := SRow.at4 (RowK.lo HR.out HL.out) hx
        clear hx
        generalize l.getD k Ch.zs = x at *
        obtain ⟨fr, tt, gl, st⟩ := x
        dsimp only at r0 r1 r2 r3
        go_wp2_with fail
        go_quiet (fail)
        have HL2 := Lib.hid (HL.out.drewN nq)
        clear r0 r1 r2 r3
        by_cases hb : 1000 < wrap64 (tt - fr)
        · by_cases hc : wrap64 (tt - fr) < 70000
          · go_wp2_with fail
            go_ret
            exact ⟨false, rfl, fun h => (by cases h), HL2.out⟩
          · go_wp2_with fail
            go_roundw
            case rel => exact ⟨k + 1, by omega, by go_num, HL2⟩
            case measure => simp [intOf]; omega
        · go_wp2_with fail
          go_roundw
          case rel => exact ⟨k + 1, by omega, by go_num, HL2⟩
          case measure => simp [intOf]; omega
      · obtain rfl : k = n := by omega
        go_wp2_with fail
        go_ret
        exact ⟨_, rfl, fun _ => hm, HL.out⟩
  · go_enter Try.func7, Try.ntmps7
    go_wp2_with fail
    go_loopw [3] (fun s3 W => s3 = .int .i64 0 ∧ Hid (Lo w W)) (fun _ _ => 0)
    case atStart => exact ⟨rfl, Lib.hid (Lo.refl _)⟩
    case round =>
      obtain ⟨rfl, HL⟩ := hrel
      by_cases h0 : (0 : Int) < (n : Int)
      · go_wp2_with fail
        go_ret
        exact ⟨_, rfl, fun h => absurd (of_decide_eq_true h) (by omega), HL.out⟩
      · exact absurd h0 (by omega)
end Go.Proofs.Ytnlifmedkkboaaa
