/-
  No cell of these rows narrows 'for every input' (looked for: loops, veiled, ifaces, maps, wideKeys, modest, calm, conditions, laid).
  DERIVED. THE GIVEN ROWS OF THIS SEAT. 4 by the template 'for every input the law returns true; each argument reads behind the call as it read before'; 0 by the template 'total and deterministic' (their statements: YtjfobpbnofjjdaaTotals.lean).
  GIVEN WITH THE SEED: the statements are not yours to turn. If you find one false, say at which input.
  Laid BY PROGRAM, IN A SANDBOX (cutbox-rows.mjs): the forced cells as the released guide's own fill.sh prints them over the translation b3702b41d4ae0f75… (all of the seat's roots in one cut). By AI agents, Wed Nov 11 2026. No macro, syntax, notation, axiom, sorry.
-/
import Derived.Test.YtjfobpbnofjjdaaChecked
import GoSem.Claim
import GoSem.ClaimJoined
import GoSem.ClaimMapViews
import Derived.JoinedTies
import Derived.KernelRfl
namespace Go.Proofs.Ytjfobpbnofjjdaa
/- THE CELL 'sum', in the pinned program and in every row, IS THE sha256 OF THE DUMP (.gsa) THAT YtjfobpbnofjjdaaProg.lean LOADS. Nothing in Lean hashes anything: it is a label: what it is worth is what the hold of that sum in a sandbox is worth. -/
noncomputable def Try.pinned : Pinned := { name := "ytjfobpbnofjjdaa", sum := "b3702b41d4ae0f75e135f40379c5745945f5ea86ebacdde974f34cb752c6449d", checked := Try.checked }
namespace Rows
def none {H : Type} : Left H := { results := [], args := [] }

/-- 'vinculumlaw08.ChartDoes': WHATEVER THE INPUT: true; the input reads as it did. -/
def chartDoesSpec : ChangeSpec := { name := "chartDoes", fn := fun _ => fun
  | [d1, d2, d3] => { results := [.lit (.bool true)], args := [d1, d2, d3] }
  | _ => none }
def chartDoesRow : OpenClaim := { program := "ytjfobpbnofjjdaa", sum := "b3702b41d4ae0f75e135f40379c5745945f5ea86ebacdde974f34cb752c6449d", func := "vinculum/vinculumlaw08.ChartDoes", spec := "chartDoes", inPlace := ["internal/abi.NoEscape"], unfollowed := true, recurses := true, apart := false }
def ChartDoesSaid : Prop := chartDoesRow.holds Try.pinned (OpenSpec.ofChange chartDoesSpec)

/-- ITS FALSE NEIGHBOUR: 'it returns false'. Refute it at one input. -/
def chartDoesWrong : ChangeSpec := { name := "chartDoes", fn := fun _ => fun
  | [d1, d2, d3] => { results := [.lit (.bool false)], args := [d1, d2, d3] }
  | _ => none }
def ChartDoesWrongFalsely : Prop := chartDoesRow.holds Try.pinned (OpenSpec.ofChange chartDoesWrong)

/-- 'vinculumlaw08.ChartBack': WHATEVER THE INPUT: true; the input reads as it did. -/
def chartBackSpec : ChangeSpec := { name := "chartBack", fn := fun _ => fun
  | [d1, d2] => { results := [.lit (.bool true)], args := [d1, d2] }
  | _ => none }
def chartBackRow : OpenClaim := { program := "ytjfobpbnofjjdaa", sum := "b3702b41d4ae0f75e135f40379c5745945f5ea86ebacdde974f34cb752c6449d", func := "vinculum/vinculumlaw08.ChartBack", spec := "chartBack", inPlace := ["internal/abi.NoEscape"], unfollowed := true, recurses := true, apart := false }
def ChartBackSaid : Prop := chartBackRow.holds Try.pinned (OpenSpec.ofChange chartBackSpec)

/-- ITS FALSE NEIGHBOUR: 'it returns false'. Refute it at one input. -/
def chartBackWrong : ChangeSpec := { name := "chartBack", fn := fun _ => fun
  | [d1, d2] => { results := [.lit (.bool false)], args := [d1, d2] }
  | _ => none }
def ChartBackWrongFalsely : Prop := chartBackRow.holds Try.pinned (OpenSpec.ofChange chartBackWrong)

/-- 'vinculumlaw08.ChartOnly': WHATEVER THE INPUT: true; the input reads as it did. -/
def chartOnlySpec : ChangeSpec := { name := "chartOnly", fn := fun _ => fun
  | [d] => { results := [.lit (.bool true)], args := [d] }
  | _ => none }
def chartOnlyRow : OpenClaim := { program := "ytjfobpbnofjjdaa", sum := "b3702b41d4ae0f75e135f40379c5745945f5ea86ebacdde974f34cb752c6449d", func := "vinculum/vinculumlaw08.ChartOnly", spec := "chartOnly", inPlace := ["internal/abi.NoEscape"], unfollowed := true, recurses := true, apart := false }
def ChartOnlySaid : Prop := chartOnlyRow.holds Try.pinned (OpenSpec.ofChange chartOnlySpec)

/-- ITS FALSE NEIGHBOUR: 'it returns false'. Refute it at one input. -/
def chartOnlyWrong : ChangeSpec := { name := "chartOnly", fn := fun _ => fun
  | [d] => { results := [.lit (.bool false)], args := [d] }
  | _ => none }
def ChartOnlyWrongFalsely : Prop := chartOnlyRow.holds Try.pinned (OpenSpec.ofChange chartOnlyWrong)

/-- 'vinculumlaw08.ChartSpan': WHATEVER THE INPUT: true; the input reads as it did. -/
def chartSpanSpec : ChangeSpec := { name := "chartSpan", fn := fun _ => fun
  | [d1, d2] => { results := [.lit (.bool true)], args := [d1, d2] }
  | _ => none }
def chartSpanRow : OpenClaim := { program := "ytjfobpbnofjjdaa", sum := "b3702b41d4ae0f75e135f40379c5745945f5ea86ebacdde974f34cb752c6449d", func := "vinculum/vinculumlaw08.ChartSpan", spec := "chartSpan", inPlace := ["internal/abi.NoEscape"], unfollowed := true, recurses := true, apart := false }
def ChartSpanSaid : Prop := chartSpanRow.holds Try.pinned (OpenSpec.ofChange chartSpanSpec)

/-- ITS FALSE NEIGHBOUR: 'it returns false'. Refute it at one input. -/
def chartSpanWrong : ChangeSpec := { name := "chartSpan", fn := fun _ => fun
  | [d1, d2] => { results := [.lit (.bool false)], args := [d1, d2] }
  | _ => none }
def ChartSpanWrongFalsely : Prop := chartSpanRow.holds Try.pinned (OpenSpec.ofChange chartSpanWrong)

/- THE SECOND FORM. 'bulk': how many values and letters a reading holds, each counted each time it is reached (what is shared counts as often as it is met; a slice's spare places count too). A statement '..UptoSaid' is the law's where the arguments, and the package variables that the reading takes, are together of bulk at most 1048576: NARROWER than '..Said'. Prove '..Said' where nothing that the law and all that it calls make is longer than what came in: it says more and counts as full. Else prove '..UptoSaid'. A law counts once. -/
mutual
def uptoBulk {H : Type} : DataW H → Nat
  | .lit (.string bytes) => bytes.length + 1
  | .lit _ => 1
  | .nil => 1
  | .ptr d => uptoBulk d + 1
  | .slice elems spare => uptoBulkAll elems + uptoBulkAll spare + 1
  | .agg parts => uptoBulkAll parts + 1
  | .iface _ d => uptoBulk d + 1
  | .map entries => uptoBulkEntries entries + 1
  | .held _ => 1
def uptoBulkAll {H : Type} : List (DataW H) → Nat
  | [] => 0
  | d :: r => uptoBulk d + uptoBulkAll r
def uptoBulkEntries {H : Type} : List (Lit × DataW H) → Nat
  | [] => 0
  | x :: r => uptoBulkEntry x + uptoBulkEntries r
def uptoBulkEntry {H : Type} : Lit × DataW H → Nat
  | (.string bytes, d) => bytes.length + uptoBulk d + 1
  | (_, d) => uptoBulk d + 1
 end
def uptoSmall : (H : Type) → List (DataW H) → Bool := fun _ ds => decide (uptoBulkAll ds ≤ 1048576)
def OpenSpec.upto (s : _root_.Go.ChangeSpec) : _root_.Go.OpenSpec := { _root_.Go.OpenSpec.ofChange s with cond := some uptoSmall }

/-- 'vinculumlaw08.ChartDoes', WHERE WHAT IT READS IS OF BULK AT MOST 1048576: true; the input reads as it did. -/
def chartDoesUptoRow : OpenClaim := { program := "ytjfobpbnofjjdaa", sum := "b3702b41d4ae0f75e135f40379c5745945f5ea86ebacdde974f34cb752c6449d", func := "vinculum/vinculumlaw08.ChartDoes", spec := "chartDoes", inPlace := ["internal/abi.NoEscape"], unfollowed := true, recurses := true, apart := false, narrowed := true }
def ChartDoesUptoSaid : Prop := chartDoesUptoRow.holds Try.pinned (OpenSpec.upto chartDoesSpec)

/-- 'vinculumlaw08.ChartBack', WHERE WHAT IT READS IS OF BULK AT MOST 1048576: true; the input reads as it did. -/
def chartBackUptoRow : OpenClaim := { program := "ytjfobpbnofjjdaa", sum := "b3702b41d4ae0f75e135f40379c5745945f5ea86ebacdde974f34cb752c6449d", func := "vinculum/vinculumlaw08.ChartBack", spec := "chartBack", inPlace := ["internal/abi.NoEscape"], unfollowed := true, recurses := true, apart := false, narrowed := true }
def ChartBackUptoSaid : Prop := chartBackUptoRow.holds Try.pinned (OpenSpec.upto chartBackSpec)

/-- 'vinculumlaw08.ChartOnly', WHERE WHAT IT READS IS OF BULK AT MOST 1048576: true; the input reads as it did. -/
def chartOnlyUptoRow : OpenClaim := { program := "ytjfobpbnofjjdaa", sum := "b3702b41d4ae0f75e135f40379c5745945f5ea86ebacdde974f34cb752c6449d", func := "vinculum/vinculumlaw08.ChartOnly", spec := "chartOnly", inPlace := ["internal/abi.NoEscape"], unfollowed := true, recurses := true, apart := false, narrowed := true }
def ChartOnlyUptoSaid : Prop := chartOnlyUptoRow.holds Try.pinned (OpenSpec.upto chartOnlySpec)

/-- 'vinculumlaw08.ChartSpan', WHERE WHAT IT READS IS OF BULK AT MOST 1048576: true; the input reads as it did. -/
def chartSpanUptoRow : OpenClaim := { program := "ytjfobpbnofjjdaa", sum := "b3702b41d4ae0f75e135f40379c5745945f5ea86ebacdde974f34cb752c6449d", func := "vinculum/vinculumlaw08.ChartSpan", spec := "chartSpan", inPlace := ["internal/abi.NoEscape"], unfollowed := true, recurses := true, apart := false, narrowed := true }
def ChartSpanUptoSaid : Prop := chartSpanUptoRow.holds Try.pinned (OpenSpec.upto chartSpanSpec)

end Rows
end Go.Proofs.Ytjfobpbnofjjdaa
