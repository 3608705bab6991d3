/-
  No cell of these rows narrows 'for every input' (looked for: loops, veiled, ifaces, maps, wideKeys, modest, calm, conditions, laid).
  DERIVED. THE GIVEN ROWS OF THIS SEAT. 5 by the template 'for every input the law returns true; each argument reads behind the call as it read before'; 0 by the template 'total and deterministic' (their statements: YtfnpindohoflaaaTotals.lean).
  GIVEN WITH THE SEED: the statements are not yours to turn. If you find one false, say at which input.
  Laid BY PROGRAM, IN A SANDBOX (cutbox-rows.mjs): the forced cells as the released guide's own fill.sh prints them over the translation 8e27b0aeee150c7a… (all of the seat's roots in one cut). By AI agents, Wed Nov 11 2026. No macro, syntax, notation, axiom, sorry.
-/
import Derived.Test.YtfnpindohoflaaaChecked
import GoSem.Claim
import GoSem.ClaimJoined
import GoSem.ClaimMapViews
import Derived.JoinedTies
import Derived.KernelRfl
namespace Go.Proofs.Ytfnpindohoflaaa
/- THE CELL 'sum', in the pinned program and in every row, IS THE sha256 OF THE DUMP (.gsa) THAT YtfnpindohoflaaaProg.lean LOADS. Nothing in Lean hashes anything: it is a label: what it is worth is what the hold of that sum in a sandbox is worth. -/
noncomputable def Try.pinned : Pinned := { name := "ytfnpindohoflaaa", sum := "8e27b0aeee150c7a977e64265f3ec8b697fc6153469ffdc2a9cace8e4502e502", checked := Try.checked }
namespace Rows
def none {H : Type} : Left H := { results := [], args := [] }

/-- 'vinculumlaw09.SegmentDoes': WHATEVER THE INPUT: true; the input reads as it did. -/
def segmentDoesSpec : ChangeSpec := { name := "segmentDoes", fn := fun _ => fun
  | [d1, d2] => { results := [.lit (.bool true)], args := [d1, d2] }
  | _ => none }
def segmentDoesRow : OpenClaim := { program := "ytfnpindohoflaaa", sum := "8e27b0aeee150c7a977e64265f3ec8b697fc6153469ffdc2a9cace8e4502e502", func := "vinculum/vinculumlaw09.SegmentDoes", spec := "segmentDoes", inPlace := ["internal/abi.NoEscape"], unfollowed := true, recurses := true, apart := false }
def SegmentDoesSaid : Prop := segmentDoesRow.holds Try.pinned (OpenSpec.ofChange segmentDoesSpec)

/-- ITS FALSE NEIGHBOUR: 'it returns false'. Refute it at one input. -/
def segmentDoesWrong : ChangeSpec := { name := "segmentDoes", fn := fun _ => fun
  | [d1, d2] => { results := [.lit (.bool false)], args := [d1, d2] }
  | _ => none }
def SegmentDoesWrongFalsely : Prop := segmentDoesRow.holds Try.pinned (OpenSpec.ofChange segmentDoesWrong)

/-- 'vinculumlaw09.SegmentBack': WHATEVER THE INPUT: true; the input reads as it did. -/
def segmentBackSpec : ChangeSpec := { name := "segmentBack", fn := fun _ => fun
  | [d1, d2, d3] => { results := [.lit (.bool true)], args := [d1, d2, d3] }
  | _ => none }
def segmentBackRow : OpenClaim := { program := "ytfnpindohoflaaa", sum := "8e27b0aeee150c7a977e64265f3ec8b697fc6153469ffdc2a9cace8e4502e502", func := "vinculum/vinculumlaw09.SegmentBack", spec := "segmentBack", inPlace := ["internal/abi.NoEscape"], unfollowed := true, recurses := true, apart := false }
def SegmentBackSaid : Prop := segmentBackRow.holds Try.pinned (OpenSpec.ofChange segmentBackSpec)

/-- ITS FALSE NEIGHBOUR: 'it returns false'. Refute it at one input. -/
def segmentBackWrong : ChangeSpec := { name := "segmentBack", fn := fun _ => fun
  | [d1, d2, d3] => { results := [.lit (.bool false)], args := [d1, d2, d3] }
  | _ => none }
def SegmentBackWrongFalsely : Prop := segmentBackRow.holds Try.pinned (OpenSpec.ofChange segmentBackWrong)

/-- 'vinculumlaw09.SegmentOnly': WHATEVER THE INPUT: true; the input reads as it did. -/
def segmentOnlySpec : ChangeSpec := { name := "segmentOnly", fn := fun _ => fun
  | [d1, d2] => { results := [.lit (.bool true)], args := [d1, d2] }
  | _ => none }
def segmentOnlyRow : OpenClaim := { program := "ytfnpindohoflaaa", sum := "8e27b0aeee150c7a977e64265f3ec8b697fc6153469ffdc2a9cace8e4502e502", func := "vinculum/vinculumlaw09.SegmentOnly", spec := "segmentOnly", inPlace := ["internal/abi.NoEscape"], unfollowed := true, recurses := true, apart := false }
def SegmentOnlySaid : Prop := segmentOnlyRow.holds Try.pinned (OpenSpec.ofChange segmentOnlySpec)

/-- ITS FALSE NEIGHBOUR: 'it returns false'. Refute it at one input. -/
def segmentOnlyWrong : ChangeSpec := { name := "segmentOnly", fn := fun _ => fun
  | [d1, d2] => { results := [.lit (.bool false)], args := [d1, d2] }
  | _ => none }
def SegmentOnlyWrongFalsely : Prop := segmentOnlyRow.holds Try.pinned (OpenSpec.ofChange segmentOnlyWrong)

/-- 'vinculumlaw09.SegmentWraps': WHATEVER THE INPUT: true; the input reads as it did. -/
def segmentWrapsSpec : ChangeSpec := { name := "segmentWraps", fn := fun _ => fun
  | [d1, d2, d3] => { results := [.lit (.bool true)], args := [d1, d2, d3] }
  | _ => none }
def segmentWrapsRow : OpenClaim := { program := "ytfnpindohoflaaa", sum := "8e27b0aeee150c7a977e64265f3ec8b697fc6153469ffdc2a9cace8e4502e502", func := "vinculum/vinculumlaw09.SegmentWraps", spec := "segmentWraps", inPlace := ["internal/abi.NoEscape"], unfollowed := true, recurses := true, apart := false }
def SegmentWrapsSaid : Prop := segmentWrapsRow.holds Try.pinned (OpenSpec.ofChange segmentWrapsSpec)

/-- ITS FALSE NEIGHBOUR: 'it returns false'. Refute it at one input. -/
def segmentWrapsWrong : ChangeSpec := { name := "segmentWraps", fn := fun _ => fun
  | [d1, d2, d3] => { results := [.lit (.bool false)], args := [d1, d2, d3] }
  | _ => none }
def SegmentWrapsWrongFalsely : Prop := segmentWrapsRow.holds Try.pinned (OpenSpec.ofChange segmentWrapsWrong)

/-- 'vinculumlaw09.SegmentMany': WHATEVER THE INPUT: true; the input reads as it did. -/
def segmentManySpec : ChangeSpec := { name := "segmentMany", fn := fun _ => fun
  | [d1, d2] => { results := [.lit (.bool true)], args := [d1, d2] }
  | _ => none }
def segmentManyRow : OpenClaim := { program := "ytfnpindohoflaaa", sum := "8e27b0aeee150c7a977e64265f3ec8b697fc6153469ffdc2a9cace8e4502e502", func := "vinculum/vinculumlaw09.SegmentMany", spec := "segmentMany", inPlace := ["internal/abi.NoEscape"], unfollowed := true, recurses := true, apart := false }
def SegmentManySaid : Prop := segmentManyRow.holds Try.pinned (OpenSpec.ofChange segmentManySpec)

/-- ITS FALSE NEIGHBOUR: 'it returns false'. Refute it at one input. -/
def segmentManyWrong : ChangeSpec := { name := "segmentMany", fn := fun _ => fun
  | [d1, d2] => { results := [.lit (.bool false)], args := [d1, d2] }
  | _ => none }
def SegmentManyWrongFalsely : Prop := segmentManyRow.holds Try.pinned (OpenSpec.ofChange segmentManyWrong)

/- THE SECOND FORM. 'bulk': how many values and letters a reading holds, each counted each time it is reached (what is shared counts as often as it is met; a slice's spare places count too). A statement '..UptoSaid' is the law's where the arguments, and the package variables that the reading takes, are together of bulk at most 1048576: NARROWER than '..Said'. Prove '..Said' where nothing that the law and all that it calls make is longer than what came in: it says more and counts as full. Else prove '..UptoSaid'. A law counts once. -/
mutual
def uptoBulk {H : Type} : DataW H → Nat
  | .lit (.string bytes) => bytes.length + 1
  | .lit _ => 1
  | .nil => 1
  | .ptr d => uptoBulk d + 1
  | .slice elems spare => uptoBulkAll elems + uptoBulkAll spare + 1
  | .agg parts => uptoBulkAll parts + 1
  | .iface _ d => uptoBulk d + 1
  | .map entries => uptoBulkEntries entries + 1
  | .held _ => 1
def uptoBulkAll {H : Type} : List (DataW H) → Nat
  | [] => 0
  | d :: r => uptoBulk d + uptoBulkAll r
def uptoBulkEntries {H : Type} : List (Lit × DataW H) → Nat
  | [] => 0
  | x :: r => uptoBulkEntry x + uptoBulkEntries r
def uptoBulkEntry {H : Type} : Lit × DataW H → Nat
  | (.string bytes, d) => bytes.length + uptoBulk d + 1
  | (_, d) => uptoBulk d + 1
 end
def uptoSmall : (H : Type) → List (DataW H) → Bool := fun _ ds => decide (uptoBulkAll ds ≤ 1048576)
def OpenSpec.upto (s : _root_.Go.ChangeSpec) : _root_.Go.OpenSpec := { _root_.Go.OpenSpec.ofChange s with cond := some uptoSmall }

/-- 'vinculumlaw09.SegmentDoes', WHERE WHAT IT READS IS OF BULK AT MOST 1048576: true; the input reads as it did. -/
def segmentDoesUptoRow : OpenClaim := { program := "ytfnpindohoflaaa", sum := "8e27b0aeee150c7a977e64265f3ec8b697fc6153469ffdc2a9cace8e4502e502", func := "vinculum/vinculumlaw09.SegmentDoes", spec := "segmentDoes", inPlace := ["internal/abi.NoEscape"], unfollowed := true, recurses := true, apart := false, narrowed := true }
def SegmentDoesUptoSaid : Prop := segmentDoesUptoRow.holds Try.pinned (OpenSpec.upto segmentDoesSpec)

/-- 'vinculumlaw09.SegmentBack', WHERE WHAT IT READS IS OF BULK AT MOST 1048576: true; the input reads as it did. -/
def segmentBackUptoRow : OpenClaim := { program := "ytfnpindohoflaaa", sum := "8e27b0aeee150c7a977e64265f3ec8b697fc6153469ffdc2a9cace8e4502e502", func := "vinculum/vinculumlaw09.SegmentBack", spec := "segmentBack", inPlace := ["internal/abi.NoEscape"], unfollowed := true, recurses := true, apart := false, narrowed := true }
def SegmentBackUptoSaid : Prop := segmentBackUptoRow.holds Try.pinned (OpenSpec.upto segmentBackSpec)

/-- 'vinculumlaw09.SegmentOnly', WHERE WHAT IT READS IS OF BULK AT MOST 1048576: true; the input reads as it did. -/
def segmentOnlyUptoRow : OpenClaim := { program := "ytfnpindohoflaaa", sum := "8e27b0aeee150c7a977e64265f3ec8b697fc6153469ffdc2a9cace8e4502e502", func := "vinculum/vinculumlaw09.SegmentOnly", spec := "segmentOnly", inPlace := ["internal/abi.NoEscape"], unfollowed := true, recurses := true, apart := false, narrowed := true }
def SegmentOnlyUptoSaid : Prop := segmentOnlyUptoRow.holds Try.pinned (OpenSpec.upto segmentOnlySpec)

/-- 'vinculumlaw09.SegmentWraps', WHERE WHAT IT READS IS OF BULK AT MOST 1048576: true; the input reads as it did. -/
def segmentWrapsUptoRow : OpenClaim := { program := "ytfnpindohoflaaa", sum := "8e27b0aeee150c7a977e64265f3ec8b697fc6153469ffdc2a9cace8e4502e502", func := "vinculum/vinculumlaw09.SegmentWraps", spec := "segmentWraps", inPlace := ["internal/abi.NoEscape"], unfollowed := true, recurses := true, apart := false, narrowed := true }
def SegmentWrapsUptoSaid : Prop := segmentWrapsUptoRow.holds Try.pinned (OpenSpec.upto segmentWrapsSpec)

/-- 'vinculumlaw09.SegmentMany', WHERE WHAT IT READS IS OF BULK AT MOST 1048576: true; the input reads as it did. -/
def segmentManyUptoRow : OpenClaim := { program := "ytfnpindohoflaaa", sum := "8e27b0aeee150c7a977e64265f3ec8b697fc6153469ffdc2a9cace8e4502e502", func := "vinculum/vinculumlaw09.SegmentMany", spec := "segmentMany", inPlace := ["internal/abi.NoEscape"], unfollowed := true, recurses := true, apart := false, narrowed := true }
def SegmentManyUptoSaid : Prop := segmentManyUptoRow.holds Try.pinned (OpenSpec.upto segmentManySpec)

end Rows
end Go.Proofs.Ytfnpindohoflaaa
