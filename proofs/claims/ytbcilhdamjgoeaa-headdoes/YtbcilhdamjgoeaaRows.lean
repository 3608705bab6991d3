/-
  No cell of these rows narrows 'for every input' (looked for: loops, veiled, ifaces, maps, wideKeys, modest, calm, conditions, laid).
  DERIVED. THE GIVEN ROWS OF THIS SEAT. 8 by the template 'for every input the law returns true; each argument reads behind the call as it read before'; 0 by the template 'total and deterministic' (their statements: YtbcilhdamjgoeaaTotals.lean).
  GIVEN WITH THE SEED: the statements are not yours to turn. If you find one false, say at which input.
  Laid BY PROGRAM, IN A SANDBOX (cutbox-rows.mjs): the forced cells as the released guide's own fill.sh prints them over the translation 9d5c42b8a2ed3d2a… (all of the seat's roots in one cut). By AI agents, Wed Nov 11 2026. No macro, syntax, notation, axiom, sorry.
-/
import Derived.Test.YtbcilhdamjgoeaaChecked
import GoSem.Claim
import GoSem.ClaimJoined
import GoSem.ClaimMapViews
import Derived.JoinedTies
import Derived.KernelRfl
namespace Go.Proofs.Ytbcilhdamjgoeaa
/- THE CELL 'sum', in the pinned program and in every row, IS THE sha256 OF THE DUMP (.gsa) THAT YtbcilhdamjgoeaaProg.lean LOADS. Nothing in Lean hashes anything: it is a label: what it is worth is what the hold of that sum in a sandbox is worth. -/
noncomputable def Try.pinned : Pinned := { name := "ytbcilhdamjgoeaa", sum := "9d5c42b8a2ed3d2a5fdc05fc3ce7b0aed2a6486d4cbf143cd461ac04c4f20d8b", checked := Try.checked }
namespace Rows
def none {H : Type} : Left H := { results := [], args := [] }

/-- 'vinculumlaw04.SfntBack': WHATEVER THE INPUT: true; the input reads as it did. -/
def sfntBackSpec : ChangeSpec := { name := "sfntBack", fn := fun _ => fun
  | [d1, d2] => { results := [.lit (.bool true)], args := [d1, d2] }
  | _ => none }
def sfntBackRow : OpenClaim := { program := "ytbcilhdamjgoeaa", sum := "9d5c42b8a2ed3d2a5fdc05fc3ce7b0aed2a6486d4cbf143cd461ac04c4f20d8b", func := "vinculum/vinculumlaw04.SfntBack", spec := "sfntBack", inPlace := ["internal/abi.NoEscape", "internal/bytealg.MakeNoZero", "internal/reflectlite.ValueOf", "internal/reflectlite.Swapper", "(internal/reflectlite.Value).Len"], unfollowed := true, recurses := true, apart := false }
def SfntBackSaid : Prop := sfntBackRow.holds Try.pinned (OpenSpec.ofChange sfntBackSpec)

/-- ITS FALSE NEIGHBOUR: 'it returns false'. Refute it at one input. -/
def sfntBackWrong : ChangeSpec := { name := "sfntBack", fn := fun _ => fun
  | [d1, d2] => { results := [.lit (.bool false)], args := [d1, d2] }
  | _ => none }
def SfntBackWrongFalsely : Prop := sfntBackRow.holds Try.pinned (OpenSpec.ofChange sfntBackWrong)

/-- 'vinculumlaw04.SfntAgain': WHATEVER THE INPUT: true; the input reads as it did. -/
def sfntAgainSpec : ChangeSpec := { name := "sfntAgain", fn := fun _ => fun
  | [d] => { results := [.lit (.bool true)], args := [d] }
  | _ => none }
def sfntAgainRow : OpenClaim := { program := "ytbcilhdamjgoeaa", sum := "9d5c42b8a2ed3d2a5fdc05fc3ce7b0aed2a6486d4cbf143cd461ac04c4f20d8b", func := "vinculum/vinculumlaw04.SfntAgain", spec := "sfntAgain", inPlace := ["internal/abi.NoEscape", "internal/bytealg.MakeNoZero", "internal/reflectlite.ValueOf", "internal/reflectlite.Swapper", "(internal/reflectlite.Value).Len"], unfollowed := true, recurses := true, apart := false }
def SfntAgainSaid : Prop := sfntAgainRow.holds Try.pinned (OpenSpec.ofChange sfntAgainSpec)

/-- ITS FALSE NEIGHBOUR: 'it returns false'. Refute it at one input. -/
def sfntAgainWrong : ChangeSpec := { name := "sfntAgain", fn := fun _ => fun
  | [d] => { results := [.lit (.bool false)], args := [d] }
  | _ => none }
def SfntAgainWrongFalsely : Prop := sfntAgainRow.holds Try.pinned (OpenSpec.ofChange sfntAgainWrong)

/-- 'vinculumlaw04.SfntChanged': WHATEVER THE INPUT: true; the input reads as it did. -/
def sfntChangedSpec : ChangeSpec := { name := "sfntChanged", fn := fun _ => fun
  | [d1, d2, d3, d4] => { results := [.lit (.bool true)], args := [d1, d2, d3, d4] }
  | _ => none }
def sfntChangedRow : OpenClaim := { program := "ytbcilhdamjgoeaa", sum := "9d5c42b8a2ed3d2a5fdc05fc3ce7b0aed2a6486d4cbf143cd461ac04c4f20d8b", func := "vinculum/vinculumlaw04.SfntChanged", spec := "sfntChanged", inPlace := ["internal/abi.NoEscape", "internal/bytealg.MakeNoZero", "internal/reflectlite.ValueOf", "internal/reflectlite.Swapper", "(internal/reflectlite.Value).Len"], unfollowed := true, recurses := true, apart := false }
def SfntChangedSaid : Prop := sfntChangedRow.holds Try.pinned (OpenSpec.ofChange sfntChangedSpec)

/-- ITS FALSE NEIGHBOUR: 'it returns false'. Refute it at one input. -/
def sfntChangedWrong : ChangeSpec := { name := "sfntChanged", fn := fun _ => fun
  | [d1, d2, d3, d4] => { results := [.lit (.bool false)], args := [d1, d2, d3, d4] }
  | _ => none }
def SfntChangedWrongFalsely : Prop := sfntChangedRow.holds Try.pinned (OpenSpec.ofChange sfntChangedWrong)

/-- 'vinculumlaw04.SfntSums': WHATEVER THE INPUT: true; the input reads as it did. -/
def sfntSumsSpec : ChangeSpec := { name := "sfntSums", fn := fun _ => fun
  | [d1, d2] => { results := [.lit (.bool true)], args := [d1, d2] }
  | _ => none }
def sfntSumsRow : OpenClaim := { program := "ytbcilhdamjgoeaa", sum := "9d5c42b8a2ed3d2a5fdc05fc3ce7b0aed2a6486d4cbf143cd461ac04c4f20d8b", func := "vinculum/vinculumlaw04.SfntSums", spec := "sfntSums", inPlace := ["internal/abi.NoEscape", "internal/bytealg.MakeNoZero", "internal/reflectlite.ValueOf", "internal/reflectlite.Swapper", "(internal/reflectlite.Value).Len"], unfollowed := true, recurses := true, apart := false }
def SfntSumsSaid : Prop := sfntSumsRow.holds Try.pinned (OpenSpec.ofChange sfntSumsSpec)

/-- ITS FALSE NEIGHBOUR: 'it returns false'. Refute it at one input. -/
def sfntSumsWrong : ChangeSpec := { name := "sfntSums", fn := fun _ => fun
  | [d1, d2] => { results := [.lit (.bool false)], args := [d1, d2] }
  | _ => none }
def SfntSumsWrongFalsely : Prop := sfntSumsRow.holds Try.pinned (OpenSpec.ofChange sfntSumsWrong)

/-- 'vinculumlaw05.HeadDoes': WHATEVER THE INPUT: true; the input reads as it did. -/
def headDoesSpec : ChangeSpec := { name := "headDoes", fn := fun _ => fun
  | [d1, d2, d3, d4, d5, d6] => { results := [.lit (.bool true)], args := [d1, d2, d3, d4, d5, d6] }
  | _ => none }
def headDoesRow : OpenClaim := { program := "ytbcilhdamjgoeaa", sum := "9d5c42b8a2ed3d2a5fdc05fc3ce7b0aed2a6486d4cbf143cd461ac04c4f20d8b", func := "vinculum/vinculumlaw05.HeadDoes", spec := "headDoes", inPlace := ["internal/abi.NoEscape"], unfollowed := true, recurses := true, apart := false }
def HeadDoesSaid : Prop := headDoesRow.holds Try.pinned (OpenSpec.ofChange headDoesSpec)

/-- ITS FALSE NEIGHBOUR: 'it returns false'. Refute it at one input. -/
def headDoesWrong : ChangeSpec := { name := "headDoes", fn := fun _ => fun
  | [d1, d2, d3, d4, d5, d6] => { results := [.lit (.bool false)], args := [d1, d2, d3, d4, d5, d6] }
  | _ => none }
def HeadDoesWrongFalsely : Prop := headDoesRow.holds Try.pinned (OpenSpec.ofChange headDoesWrong)

/-- 'vinculumlaw05.HeadBack': WHATEVER THE INPUT: true; the input reads as it did. -/
def headBackSpec : ChangeSpec := { name := "headBack", fn := fun _ => fun
  | [d1, d2] => { results := [.lit (.bool true)], args := [d1, d2] }
  | _ => none }
def headBackRow : OpenClaim := { program := "ytbcilhdamjgoeaa", sum := "9d5c42b8a2ed3d2a5fdc05fc3ce7b0aed2a6486d4cbf143cd461ac04c4f20d8b", func := "vinculum/vinculumlaw05.HeadBack", spec := "headBack", inPlace := ["internal/abi.NoEscape"], unfollowed := true, recurses := true, apart := false }
def HeadBackSaid : Prop := headBackRow.holds Try.pinned (OpenSpec.ofChange headBackSpec)

/-- ITS FALSE NEIGHBOUR: 'it returns false'. Refute it at one input. -/
def headBackWrong : ChangeSpec := { name := "headBack", fn := fun _ => fun
  | [d1, d2] => { results := [.lit (.bool false)], args := [d1, d2] }
  | _ => none }
def HeadBackWrongFalsely : Prop := headBackRow.holds Try.pinned (OpenSpec.ofChange headBackWrong)

/-- 'vinculumlaw05.HeadOnly': WHATEVER THE INPUT: true; the input reads as it did. -/
def headOnlySpec : ChangeSpec := { name := "headOnly", fn := fun _ => fun
  | [d1, d2, d3, d4, d5] => { results := [.lit (.bool true)], args := [d1, d2, d3, d4, d5] }
  | _ => none }
def headOnlyRow : OpenClaim := { program := "ytbcilhdamjgoeaa", sum := "9d5c42b8a2ed3d2a5fdc05fc3ce7b0aed2a6486d4cbf143cd461ac04c4f20d8b", func := "vinculum/vinculumlaw05.HeadOnly", spec := "headOnly", inPlace := ["internal/abi.NoEscape"], unfollowed := true, recurses := true, apart := false }
def HeadOnlySaid : Prop := headOnlyRow.holds Try.pinned (OpenSpec.ofChange headOnlySpec)

/-- ITS FALSE NEIGHBOUR: 'it returns false'. Refute it at one input. -/
def headOnlyWrong : ChangeSpec := { name := "headOnly", fn := fun _ => fun
  | [d1, d2, d3, d4, d5] => { results := [.lit (.bool false)], args := [d1, d2, d3, d4, d5] }
  | _ => none }
def HeadOnlyWrongFalsely : Prop := headOnlyRow.holds Try.pinned (OpenSpec.ofChange headOnlyWrong)

/-- 'vinculumlaw05.HeadUnits': WHATEVER THE INPUT: true; the input reads as it did. -/
def headUnitsSpec : ChangeSpec := { name := "headUnits", fn := fun _ => fun
  | [d1, d2, d3] => { results := [.lit (.bool true)], args := [d1, d2, d3] }
  | _ => none }
def headUnitsRow : OpenClaim := { program := "ytbcilhdamjgoeaa", sum := "9d5c42b8a2ed3d2a5fdc05fc3ce7b0aed2a6486d4cbf143cd461ac04c4f20d8b", func := "vinculum/vinculumlaw05.HeadUnits", spec := "headUnits", inPlace := ["internal/abi.NoEscape"], unfollowed := true, recurses := true, apart := false }
def HeadUnitsSaid : Prop := headUnitsRow.holds Try.pinned (OpenSpec.ofChange headUnitsSpec)

/-- ITS FALSE NEIGHBOUR: 'it returns false'. Refute it at one input. -/
def headUnitsWrong : ChangeSpec := { name := "headUnits", fn := fun _ => fun
  | [d1, d2, d3] => { results := [.lit (.bool false)], args := [d1, d2, d3] }
  | _ => none }
def HeadUnitsWrongFalsely : Prop := headUnitsRow.holds Try.pinned (OpenSpec.ofChange headUnitsWrong)

/- THE SECOND FORM. 'bulk': how many values and letters a reading holds, each counted each time it is reached (what is shared counts as often as it is met; a slice's spare places count too). A statement '..UptoSaid' is the law's where the arguments, and the package variables that the reading takes, are together of bulk at most 1048576: NARROWER than '..Said'. Prove '..Said' where nothing that the law and all that it calls make is longer than what came in: it says more and counts as full. Else prove '..UptoSaid'. A law counts once. -/
mutual
def uptoBulk {H : Type} : DataW H → Nat
  | .lit (.string bytes) => bytes.length + 1
  | .lit _ => 1
  | .nil => 1
  | .ptr d => uptoBulk d + 1
  | .slice elems spare => uptoBulkAll elems + uptoBulkAll spare + 1
  | .agg parts => uptoBulkAll parts + 1
  | .iface _ d => uptoBulk d + 1
  | .map entries => uptoBulkEntries entries + 1
  | .held _ => 1
def uptoBulkAll {H : Type} : List (DataW H) → Nat
  | [] => 0
  | d :: r => uptoBulk d + uptoBulkAll r
def uptoBulkEntries {H : Type} : List (Lit × DataW H) → Nat
  | [] => 0
  | x :: r => uptoBulkEntry x + uptoBulkEntries r
def uptoBulkEntry {H : Type} : Lit × DataW H → Nat
  | (.string bytes, d) => bytes.length + uptoBulk d + 1
  | (_, d) => uptoBulk d + 1
 end
def uptoSmall : (H : Type) → List (DataW H) → Bool := fun _ ds => decide (uptoBulkAll ds ≤ 1048576)
def OpenSpec.upto (s : _root_.Go.ChangeSpec) : _root_.Go.OpenSpec := { _root_.Go.OpenSpec.ofChange s with cond := some uptoSmall }

/-- 'vinculumlaw04.SfntBack', WHERE WHAT IT READS IS OF BULK AT MOST 1048576: true; the input reads as it did. -/
def sfntBackUptoRow : OpenClaim := { program := "ytbcilhdamjgoeaa", sum := "9d5c42b8a2ed3d2a5fdc05fc3ce7b0aed2a6486d4cbf143cd461ac04c4f20d8b", func := "vinculum/vinculumlaw04.SfntBack", spec := "sfntBack", inPlace := ["internal/abi.NoEscape", "internal/bytealg.MakeNoZero", "internal/reflectlite.ValueOf", "internal/reflectlite.Swapper", "(internal/reflectlite.Value).Len"], unfollowed := true, recurses := true, apart := false, narrowed := true }
def SfntBackUptoSaid : Prop := sfntBackUptoRow.holds Try.pinned (OpenSpec.upto sfntBackSpec)

/-- 'vinculumlaw04.SfntAgain', WHERE WHAT IT READS IS OF BULK AT MOST 1048576: true; the input reads as it did. -/
def sfntAgainUptoRow : OpenClaim := { program := "ytbcilhdamjgoeaa", sum := "9d5c42b8a2ed3d2a5fdc05fc3ce7b0aed2a6486d4cbf143cd461ac04c4f20d8b", func := "vinculum/vinculumlaw04.SfntAgain", spec := "sfntAgain", inPlace := ["internal/abi.NoEscape", "internal/bytealg.MakeNoZero", "internal/reflectlite.ValueOf", "internal/reflectlite.Swapper", "(internal/reflectlite.Value).Len"], unfollowed := true, recurses := true, apart := false, narrowed := true }
def SfntAgainUptoSaid : Prop := sfntAgainUptoRow.holds Try.pinned (OpenSpec.upto sfntAgainSpec)

/-- 'vinculumlaw04.SfntChanged', WHERE WHAT IT READS IS OF BULK AT MOST 1048576: true; the input reads as it did. -/
def sfntChangedUptoRow : OpenClaim := { program := "ytbcilhdamjgoeaa", sum := "9d5c42b8a2ed3d2a5fdc05fc3ce7b0aed2a6486d4cbf143cd461ac04c4f20d8b", func := "vinculum/vinculumlaw04.SfntChanged", spec := "sfntChanged", inPlace := ["internal/abi.NoEscape", "internal/bytealg.MakeNoZero", "internal/reflectlite.ValueOf", "internal/reflectlite.Swapper", "(internal/reflectlite.Value).Len"], unfollowed := true, recurses := true, apart := false, narrowed := true }
def SfntChangedUptoSaid : Prop := sfntChangedUptoRow.holds Try.pinned (OpenSpec.upto sfntChangedSpec)

/-- 'vinculumlaw04.SfntSums', WHERE WHAT IT READS IS OF BULK AT MOST 1048576: true; the input reads as it did. -/
def sfntSumsUptoRow : OpenClaim := { program := "ytbcilhdamjgoeaa", sum := "9d5c42b8a2ed3d2a5fdc05fc3ce7b0aed2a6486d4cbf143cd461ac04c4f20d8b", func := "vinculum/vinculumlaw04.SfntSums", spec := "sfntSums", inPlace := ["internal/abi.NoEscape", "internal/bytealg.MakeNoZero", "internal/reflectlite.ValueOf", "internal/reflectlite.Swapper", "(internal/reflectlite.Value).Len"], unfollowed := true, recurses := true, apart := false, narrowed := true }
def SfntSumsUptoSaid : Prop := sfntSumsUptoRow.holds Try.pinned (OpenSpec.upto sfntSumsSpec)

/-- 'vinculumlaw05.HeadDoes', WHERE WHAT IT READS IS OF BULK AT MOST 1048576: true; the input reads as it did. -/
def headDoesUptoRow : OpenClaim := { program := "ytbcilhdamjgoeaa", sum := "9d5c42b8a2ed3d2a5fdc05fc3ce7b0aed2a6486d4cbf143cd461ac04c4f20d8b", func := "vinculum/vinculumlaw05.HeadDoes", spec := "headDoes", inPlace := ["internal/abi.NoEscape"], unfollowed := true, recurses := true, apart := false, narrowed := true }
def HeadDoesUptoSaid : Prop := headDoesUptoRow.holds Try.pinned (OpenSpec.upto headDoesSpec)

/-- 'vinculumlaw05.HeadBack', WHERE WHAT IT READS IS OF BULK AT MOST 1048576: true; the input reads as it did. -/
def headBackUptoRow : OpenClaim := { program := "ytbcilhdamjgoeaa", sum := "9d5c42b8a2ed3d2a5fdc05fc3ce7b0aed2a6486d4cbf143cd461ac04c4f20d8b", func := "vinculum/vinculumlaw05.HeadBack", spec := "headBack", inPlace := ["internal/abi.NoEscape"], unfollowed := true, recurses := true, apart := false, narrowed := true }
def HeadBackUptoSaid : Prop := headBackUptoRow.holds Try.pinned (OpenSpec.upto headBackSpec)

/-- 'vinculumlaw05.HeadOnly', WHERE WHAT IT READS IS OF BULK AT MOST 1048576: true; the input reads as it did. -/
def headOnlyUptoRow : OpenClaim := { program := "ytbcilhdamjgoeaa", sum := "9d5c42b8a2ed3d2a5fdc05fc3ce7b0aed2a6486d4cbf143cd461ac04c4f20d8b", func := "vinculum/vinculumlaw05.HeadOnly", spec := "headOnly", inPlace := ["internal/abi.NoEscape"], unfollowed := true, recurses := true, apart := false, narrowed := true }
def HeadOnlyUptoSaid : Prop := headOnlyUptoRow.holds Try.pinned (OpenSpec.upto headOnlySpec)

/-- 'vinculumlaw05.HeadUnits', WHERE WHAT IT READS IS OF BULK AT MOST 1048576: true; the input reads as it did. -/
def headUnitsUptoRow : OpenClaim := { program := "ytbcilhdamjgoeaa", sum := "9d5c42b8a2ed3d2a5fdc05fc3ce7b0aed2a6486d4cbf143cd461ac04c4f20d8b", func := "vinculum/vinculumlaw05.HeadUnits", spec := "headUnits", inPlace := ["internal/abi.NoEscape"], unfollowed := true, recurses := true, apart := false, narrowed := true }
def HeadUnitsUptoSaid : Prop := headUnitsUptoRow.holds Try.pinned (OpenSpec.upto headUnitsSpec)

end Rows
end Go.Proofs.Ytbcilhdamjgoeaa
