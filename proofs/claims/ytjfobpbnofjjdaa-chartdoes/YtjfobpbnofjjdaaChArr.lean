/-
  The arrays of package chart when they are made: all noughts. No conditions.
-/
import Derived.Test.YtjfobpbnofjjdaaGkArr
namespace Go.Proofs.Ytjfobpbnofjjdaa
open Go.RowKit

set_option maxRecDepth 1000000 in
set_option maxHeartbeats 4000000 in
theorem small_noughts : Try.zeroCells51 = ((List.replicate 256 (0 : Int)).map (Value.int .i64)).toArray := by
  unfold Try.zeroCells51
  apply Noughts.cells
  apply Noughts.to
  case h => repeat' (first | apply Noughts.app | exact Noughts.of (n := 64) (by rfl) | exact Noughts.of (n := 63) (by rfl))
  case e => rfl
set_option maxRecDepth 1000000 in
set_option maxHeartbeats 4000000 in
theorem trimmed_noughts : Try.zeroCells57 = ((List.replicate 32762 (0 : Int)).map (Value.int .i64)).toArray := by
  unfold Try.zeroCells57
  apply Noughts.cells
  apply Noughts.to
  case h => repeat' (first | apply Noughts.app | exact Noughts.of (n := 64) (by rfl) | exact Noughts.of (n := 63) (by rfl))
  case e => rfl
end Go.Proofs.Ytjfobpbnofjjdaa
