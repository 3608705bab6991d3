/-
  The contract of the document's answer Len of layer 1: a number is a length. No conditions.
-/
import Derived.Test.YtbcilhdamjgoeaaFxLo
namespace Go.Proofs.Ytbcilhdamjgoeaa
open Go.RowKit

set_option maxHeartbeats 400000 in
theorem rlen_any (a : Int) (w : World) : Calls Try.prog 83 #[.int .i64 a] w fun e w' => e = .returned (.bool (Fx.len a)) ∧ w = w' := by
  by_cases h1 : -1073741823 ≤ a
  · by_cases h2 : a ≤ 1073741823
    · rw [Fx.len_yes h1 h2]
      go_enter Try.func83, Try.ntmps83
      go_wp2
      go_ret
      exact ⟨rfl, rfl⟩
    · rw [Fx.len_not (n := a) (by omega)]
      go_enter Try.func83, Try.ntmps83
      go_wp2
      go_ret
      exact ⟨rfl, rfl⟩
  · rw [Fx.len_not (n := a) (by omega)]
    go_enter Try.func83, Try.ntmps83
    go_wp2
    go_ret
    exact ⟨rfl, rfl⟩

end Go.Proofs.Ytbcilhdamjgoeaa
