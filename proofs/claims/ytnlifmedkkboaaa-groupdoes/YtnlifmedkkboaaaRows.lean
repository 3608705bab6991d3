/-
  No cell of these rows narrows 'for every input' (looked for: loops, veiled, ifaces, maps, wideKeys, modest, calm, conditions, laid).
  DERIVED. THE GIVEN ROWS OF THIS SEAT. 4 by the template 'for every input the law returns true; each argument reads behind the call as it read before'; 0 by the template 'total and deterministic' (their statements: YtnlifmedkkboaaaTotals.lean).
  GIVEN WITH THE SEED: the statements are not yours to turn. If you find one false, say at which input.
  Laid BY PROGRAM, IN A SANDBOX (cutbox-rows.mjs): the forced cells as the released guide's own fill.sh prints them over the translation c0a076fd80fe66c8… (all of the seat's roots in one cut). By AI agents, Wed Nov 11 2026. No macro, syntax, notation, axiom, sorry.
-/
import Derived.Test.YtnlifmedkkboaaaChecked
import GoSem.Claim
import GoSem.ClaimJoined
import GoSem.ClaimMapViews
import Derived.JoinedTies
import Derived.KernelRfl
namespace Go.Proofs.Ytnlifmedkkboaaa
/- THE CELL 'sum', in the pinned program and in every row, IS THE sha256 OF THE DUMP (.gsa) THAT YtnlifmedkkboaaaProg.lean LOADS. Nothing in Lean hashes anything: it is a label: what it is worth is what the hold of that sum in a sandbox is worth. -/
noncomputable def Try.pinned : Pinned := { name := "ytnlifmedkkboaaa", sum := "c0a076fd80fe66c8a2504521f65414c5329ed4e11136c1c25f4650d9efeee285", checked := Try.checked }
namespace Rows
def none {H : Type} : Left H := { results := [], args := [] }

/-- 'vinculumlaw10.GroupDoes': WHATEVER THE INPUT: true; the input reads as it did. -/
def groupDoesSpec : ChangeSpec := { name := "groupDoes", fn := fun _ => fun
  | [d1, d2, d3, d4] => { results := [.lit (.bool true)], args := [d1, d2, d3, d4] }
  | _ => none }
def groupDoesRow : OpenClaim := { program := "ytnlifmedkkboaaa", sum := "c0a076fd80fe66c8a2504521f65414c5329ed4e11136c1c25f4650d9efeee285", func := "vinculum/vinculumlaw10.GroupDoes", spec := "groupDoes", inPlace := ["internal/abi.NoEscape"], unfollowed := true, recurses := true, apart := false }
def GroupDoesSaid : Prop := groupDoesRow.holds Try.pinned (OpenSpec.ofChange groupDoesSpec)

/-- ITS FALSE NEIGHBOUR: 'it returns false'. Refute it at one input. -/
def groupDoesWrong : ChangeSpec := { name := "groupDoes", fn := fun _ => fun
  | [d1, d2, d3, d4] => { results := [.lit (.bool false)], args := [d1, d2, d3, d4] }
  | _ => none }
def GroupDoesWrongFalsely : Prop := groupDoesRow.holds Try.pinned (OpenSpec.ofChange groupDoesWrong)

/-- 'vinculumlaw10.GroupBack': WHATEVER THE INPUT: true; the input reads as it did. -/
def groupBackSpec : ChangeSpec := { name := "groupBack", fn := fun _ => fun
  | [d1, d2, d3] => { results := [.lit (.bool true)], args := [d1, d2, d3] }
  | _ => none }
def groupBackRow : OpenClaim := { program := "ytnlifmedkkboaaa", sum := "c0a076fd80fe66c8a2504521f65414c5329ed4e11136c1c25f4650d9efeee285", func := "vinculum/vinculumlaw10.GroupBack", spec := "groupBack", inPlace := ["internal/abi.NoEscape"], unfollowed := true, recurses := true, apart := false }
def GroupBackSaid : Prop := groupBackRow.holds Try.pinned (OpenSpec.ofChange groupBackSpec)

/-- ITS FALSE NEIGHBOUR: 'it returns false'. Refute it at one input. -/
def groupBackWrong : ChangeSpec := { name := "groupBack", fn := fun _ => fun
  | [d1, d2, d3] => { results := [.lit (.bool false)], args := [d1, d2, d3] }
  | _ => none }
def GroupBackWrongFalsely : Prop := groupBackRow.holds Try.pinned (OpenSpec.ofChange groupBackWrong)

/-- 'vinculumlaw10.GroupSplit': WHATEVER THE INPUT: true; the input reads as it did. -/
def groupSplitSpec : ChangeSpec := { name := "groupSplit", fn := fun _ => fun
  | [d1, d2, d3] => { results := [.lit (.bool true)], args := [d1, d2, d3] }
  | _ => none }
def groupSplitRow : OpenClaim := { program := "ytnlifmedkkboaaa", sum := "c0a076fd80fe66c8a2504521f65414c5329ed4e11136c1c25f4650d9efeee285", func := "vinculum/vinculumlaw10.GroupSplit", spec := "groupSplit", inPlace := ["internal/abi.NoEscape"], unfollowed := true, recurses := true, apart := false }
def GroupSplitSaid : Prop := groupSplitRow.holds Try.pinned (OpenSpec.ofChange groupSplitSpec)

/-- ITS FALSE NEIGHBOUR: 'it returns false'. Refute it at one input. -/
def groupSplitWrong : ChangeSpec := { name := "groupSplit", fn := fun _ => fun
  | [d1, d2, d3] => { results := [.lit (.bool false)], args := [d1, d2, d3] }
  | _ => none }
def GroupSplitWrongFalsely : Prop := groupSplitRow.holds Try.pinned (OpenSpec.ofChange groupSplitWrong)

/-- 'vinculumlaw10.GroupOnly': WHATEVER THE INPUT: true; the input reads as it did. -/
def groupOnlySpec : ChangeSpec := { name := "groupOnly", fn := fun _ => fun
  | [d1, d2] => { results := [.lit (.bool true)], args := [d1, d2] }
  | _ => none }
def groupOnlyRow : OpenClaim := { program := "ytnlifmedkkboaaa", sum := "c0a076fd80fe66c8a2504521f65414c5329ed4e11136c1c25f4650d9efeee285", func := "vinculum/vinculumlaw10.GroupOnly", spec := "groupOnly", inPlace := ["internal/abi.NoEscape"], unfollowed := true, recurses := true, apart := false }
def GroupOnlySaid : Prop := groupOnlyRow.holds Try.pinned (OpenSpec.ofChange groupOnlySpec)

/-- ITS FALSE NEIGHBOUR: 'it returns false'. Refute it at one input. -/
def groupOnlyWrong : ChangeSpec := { name := "groupOnly", fn := fun _ => fun
  | [d1, d2] => { results := [.lit (.bool false)], args := [d1, d2] }
  | _ => none }
def GroupOnlyWrongFalsely : Prop := groupOnlyRow.holds Try.pinned (OpenSpec.ofChange groupOnlyWrong)

/- THE SECOND FORM. 'bulk': how many values and letters a reading holds, each counted each time it is reached (what is shared counts as often as it is met; a slice's spare places count too). A statement '..UptoSaid' is the law's where the arguments, and the package variables that the reading takes, are together of bulk at most 1048576: NARROWER than '..Said'. Prove '..Said' where nothing that the law and all that it calls make is longer than what came in: it says more and counts as full. Else prove '..UptoSaid'. A law counts once. -/
mutual
def uptoBulk {H : Type} : DataW H → Nat
  | .lit (.string bytes) => bytes.length + 1
  | .lit _ => 1
  | .nil => 1
  | .ptr d => uptoBulk d + 1
  | .slice elems spare => uptoBulkAll elems + uptoBulkAll spare + 1
  | .agg parts => uptoBulkAll parts + 1
  | .iface _ d => uptoBulk d + 1
  | .map entries => uptoBulkEntries entries + 1
  | .held _ => 1
def uptoBulkAll {H : Type} : List (DataW H) → Nat
  | [] => 0
  | d :: r => uptoBulk d + uptoBulkAll r
def uptoBulkEntries {H : Type} : List (Lit × DataW H) → Nat
  | [] => 0
  | x :: r => uptoBulkEntry x + uptoBulkEntries r
def uptoBulkEntry {H : Type} : Lit × DataW H → Nat
  | (.string bytes, d) => bytes.length + uptoBulk d + 1
  | (_, d) => uptoBulk d + 1
 end
def uptoSmall : (H : Type) → List (DataW H) → Bool := fun _ ds => decide (uptoBulkAll ds ≤ 1048576)
def OpenSpec.upto (s : _root_.Go.ChangeSpec) : _root_.Go.OpenSpec := { _root_.Go.OpenSpec.ofChange s with cond := some uptoSmall }

/-- 'vinculumlaw10.GroupDoes', WHERE WHAT IT READS IS OF BULK AT MOST 1048576: true; the input reads as it did. -/
def groupDoesUptoRow : OpenClaim := { program := "ytnlifmedkkboaaa", sum := "c0a076fd80fe66c8a2504521f65414c5329ed4e11136c1c25f4650d9efeee285", func := "vinculum/vinculumlaw10.GroupDoes", spec := "groupDoes", inPlace := ["internal/abi.NoEscape"], unfollowed := true, recurses := true, apart := false, narrowed := true }
def GroupDoesUptoSaid : Prop := groupDoesUptoRow.holds Try.pinned (OpenSpec.upto groupDoesSpec)

/-- 'vinculumlaw10.GroupBack', WHERE WHAT IT READS IS OF BULK AT MOST 1048576: true; the input reads as it did. -/
def groupBackUptoRow : OpenClaim := { program := "ytnlifmedkkboaaa", sum := "c0a076fd80fe66c8a2504521f65414c5329ed4e11136c1c25f4650d9efeee285", func := "vinculum/vinculumlaw10.GroupBack", spec := "groupBack", inPlace := ["internal/abi.NoEscape"], unfollowed := true, recurses := true, apart := false, narrowed := true }
def GroupBackUptoSaid : Prop := groupBackUptoRow.holds Try.pinned (OpenSpec.upto groupBackSpec)

/-- 'vinculumlaw10.GroupSplit', WHERE WHAT IT READS IS OF BULK AT MOST 1048576: true; the input reads as it did. -/
def groupSplitUptoRow : OpenClaim := { program := "ytnlifmedkkboaaa", sum := "c0a076fd80fe66c8a2504521f65414c5329ed4e11136c1c25f4650d9efeee285", func := "vinculum/vinculumlaw10.GroupSplit", spec := "groupSplit", inPlace := ["internal/abi.NoEscape"], unfollowed := true, recurses := true, apart := false, narrowed := true }
def GroupSplitUptoSaid : Prop := groupSplitUptoRow.holds Try.pinned (OpenSpec.upto groupSplitSpec)

/-- 'vinculumlaw10.GroupOnly', WHERE WHAT IT READS IS OF BULK AT MOST 1048576: true; the input reads as it did. -/
def groupOnlyUptoRow : OpenClaim := { program := "ytnlifmedkkboaaa", sum := "c0a076fd80fe66c8a2504521f65414c5329ed4e11136c1c25f4650d9efeee285", func := "vinculum/vinculumlaw10.GroupOnly", spec := "groupOnly", inPlace := ["internal/abi.NoEscape"], unfollowed := true, recurses := true, apart := false, narrowed := true }
def GroupOnlyUptoSaid : Prop := groupOnlyUptoRow.holds Try.pinned (OpenSpec.upto groupOnlySpec)

end Rows
end Go.Proofs.Ytnlifmedkkboaaa
