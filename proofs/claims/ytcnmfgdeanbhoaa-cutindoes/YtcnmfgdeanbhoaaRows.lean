/-
  No cell of these rows narrows 'for every input' (looked for: loops, veiled, ifaces, maps, wideKeys, modest, calm, conditions, laid).
  DERIVED. THE GIVEN ROWS OF THIS SEAT. 5 by the template 'for every input the law returns true; each argument reads behind the call as it read before'; 0 by the template 'total and deterministic' (their statements: YtcnmfgdeanbhoaaTotals.lean).
  GIVEN WITH THE SEED: the statements are not yours to turn. If you find one false, say at which input.
  Laid BY PROGRAM, IN A SANDBOX (cutbox-rows.mjs): the forced cells as the released guide's own fill.sh prints them over the translation 6bc72bce7458af0b… (all of the seat's roots in one cut). By AI agents, Wed Nov 11 2026. No macro, syntax, notation, axiom, sorry.
-/
import Derived.Test.YtcnmfgdeanbhoaaChecked
import GoSem.Claim
import GoSem.ClaimJoined
import GoSem.ClaimMapViews
import Derived.JoinedTies
import Derived.KernelRfl
namespace Go.Proofs.Ytcnmfgdeanbhoaa
/- THE CELL 'sum', in the pinned program and in every row, IS THE sha256 OF THE DUMP (.gsa) THAT YtcnmfgdeanbhoaaProg.lean LOADS. Nothing in Lean hashes anything: it is a label: what it is worth is what the hold of that sum in a sandbox is worth. -/
noncomputable def Try.pinned : Pinned := { name := "ytcnmfgdeanbhoaa", sum := "6bc72bce7458af0b8b172ca29b28260417b68c51b6dc3c9527598d1210437f9a", checked := Try.checked }
namespace Rows
def none {H : Type} : Left H := { results := [], args := [] }

/-- 'vinculumlaw15.CutinDoes': WHATEVER THE INPUT: true; the input reads as it did. -/
def cutinDoesSpec : ChangeSpec := { name := "cutinDoes", fn := fun _ => fun
  | [d1, d2, d3] => { results := [.lit (.bool true)], args := [d1, d2, d3] }
  | _ => none }
def cutinDoesRow : OpenClaim := { program := "ytcnmfgdeanbhoaa", sum := "6bc72bce7458af0b8b172ca29b28260417b68c51b6dc3c9527598d1210437f9a", func := "vinculum/vinculumlaw15.CutinDoes", spec := "cutinDoes", inPlace := ["internal/abi.NoEscape"], unfollowed := true, recurses := true, apart := false }
def CutinDoesSaid : Prop := cutinDoesRow.holds Try.pinned (OpenSpec.ofChange cutinDoesSpec)

/-- ITS FALSE NEIGHBOUR: 'it returns false'. Refute it at one input. -/
def cutinDoesWrong : ChangeSpec := { name := "cutinDoes", fn := fun _ => fun
  | [d1, d2, d3] => { results := [.lit (.bool false)], args := [d1, d2, d3] }
  | _ => none }
def CutinDoesWrongFalsely : Prop := cutinDoesRow.holds Try.pinned (OpenSpec.ofChange cutinDoesWrong)

/-- 'vinculumlaw15.CutinFinds': WHATEVER THE INPUT: true; the input reads as it did. -/
def cutinFindsSpec : ChangeSpec := { name := "cutinFinds", fn := fun _ => fun
  | [d1, d2, d3, d4, d5] => { results := [.lit (.bool true)], args := [d1, d2, d3, d4, d5] }
  | _ => none }
def cutinFindsRow : OpenClaim := { program := "ytcnmfgdeanbhoaa", sum := "6bc72bce7458af0b8b172ca29b28260417b68c51b6dc3c9527598d1210437f9a", func := "vinculum/vinculumlaw15.CutinFinds", spec := "cutinFinds", inPlace := ["internal/abi.NoEscape"], unfollowed := true, recurses := true, apart := false }
def CutinFindsSaid : Prop := cutinFindsRow.holds Try.pinned (OpenSpec.ofChange cutinFindsSpec)

/-- ITS FALSE NEIGHBOUR: 'it returns false'. Refute it at one input. -/
def cutinFindsWrong : ChangeSpec := { name := "cutinFinds", fn := fun _ => fun
  | [d1, d2, d3, d4, d5] => { results := [.lit (.bool false)], args := [d1, d2, d3, d4, d5] }
  | _ => none }
def CutinFindsWrongFalsely : Prop := cutinFindsRow.holds Try.pinned (OpenSpec.ofChange cutinFindsWrong)

/-- 'vinculumlaw15.CutinBack': WHATEVER THE INPUT: true; the input reads as it did. -/
def cutinBackSpec : ChangeSpec := { name := "cutinBack", fn := fun _ => fun
  | [d1, d2, d3, d4] => { results := [.lit (.bool true)], args := [d1, d2, d3, d4] }
  | _ => none }
def cutinBackRow : OpenClaim := { program := "ytcnmfgdeanbhoaa", sum := "6bc72bce7458af0b8b172ca29b28260417b68c51b6dc3c9527598d1210437f9a", func := "vinculum/vinculumlaw15.CutinBack", spec := "cutinBack", inPlace := ["internal/abi.NoEscape"], unfollowed := true, recurses := true, apart := false }
def CutinBackSaid : Prop := cutinBackRow.holds Try.pinned (OpenSpec.ofChange cutinBackSpec)

/-- ITS FALSE NEIGHBOUR: 'it returns false'. Refute it at one input. -/
def cutinBackWrong : ChangeSpec := { name := "cutinBack", fn := fun _ => fun
  | [d1, d2, d3, d4] => { results := [.lit (.bool false)], args := [d1, d2, d3, d4] }
  | _ => none }
def CutinBackWrongFalsely : Prop := cutinBackRow.holds Try.pinned (OpenSpec.ofChange cutinBackWrong)

/-- 'vinculumlaw15.CutinOnly': WHATEVER THE INPUT: true; the input reads as it did. -/
def cutinOnlySpec : ChangeSpec := { name := "cutinOnly", fn := fun _ => fun
  | [d1, d2] => { results := [.lit (.bool true)], args := [d1, d2] }
  | _ => none }
def cutinOnlyRow : OpenClaim := { program := "ytcnmfgdeanbhoaa", sum := "6bc72bce7458af0b8b172ca29b28260417b68c51b6dc3c9527598d1210437f9a", func := "vinculum/vinculumlaw15.CutinOnly", spec := "cutinOnly", inPlace := ["internal/abi.NoEscape"], unfollowed := true, recurses := true, apart := false }
def CutinOnlySaid : Prop := cutinOnlyRow.holds Try.pinned (OpenSpec.ofChange cutinOnlySpec)

/-- ITS FALSE NEIGHBOUR: 'it returns false'. Refute it at one input. -/
def cutinOnlyWrong : ChangeSpec := { name := "cutinOnly", fn := fun _ => fun
  | [d1, d2] => { results := [.lit (.bool false)], args := [d1, d2] }
  | _ => none }
def CutinOnlyWrongFalsely : Prop := cutinOnlyRow.holds Try.pinned (OpenSpec.ofChange cutinOnlyWrong)

/-- 'vinculumlaw15.CutinFlat': WHATEVER THE INPUT: true; the input reads as it did. -/
def cutinFlatSpec : ChangeSpec := { name := "cutinFlat", fn := fun _ => fun
  | [d1, d2, d3] => { results := [.lit (.bool true)], args := [d1, d2, d3] }
  | _ => none }
def cutinFlatRow : OpenClaim := { program := "ytcnmfgdeanbhoaa", sum := "6bc72bce7458af0b8b172ca29b28260417b68c51b6dc3c9527598d1210437f9a", func := "vinculum/vinculumlaw15.CutinFlat", spec := "cutinFlat", inPlace := ["internal/abi.NoEscape"], unfollowed := true, recurses := true, apart := false }
def CutinFlatSaid : Prop := cutinFlatRow.holds Try.pinned (OpenSpec.ofChange cutinFlatSpec)

/-- ITS FALSE NEIGHBOUR: 'it returns false'. Refute it at one input. -/
def cutinFlatWrong : ChangeSpec := { name := "cutinFlat", fn := fun _ => fun
  | [d1, d2, d3] => { results := [.lit (.bool false)], args := [d1, d2, d3] }
  | _ => none }
def CutinFlatWrongFalsely : Prop := cutinFlatRow.holds Try.pinned (OpenSpec.ofChange cutinFlatWrong)

/- THE SECOND FORM. 'bulk': how many values and letters a reading holds, each counted each time it is reached (what is shared counts as often as it is met; a slice's spare places count too). A statement '..UptoSaid' is the law's where the arguments, and the package variables that the reading takes, are together of bulk at most 1048576: NARROWER than '..Said'. Prove '..Said' where nothing that the law and all that it calls make is longer than what came in: it says more and counts as full. Else prove '..UptoSaid'. A law counts once. -/
mutual
def uptoBulk {H : Type} : DataW H → Nat
  | .lit (.string bytes) => bytes.length + 1
  | .lit _ => 1
  | .nil => 1
  | .ptr d => uptoBulk d + 1
  | .slice elems spare => uptoBulkAll elems + uptoBulkAll spare + 1
  | .agg parts => uptoBulkAll parts + 1
  | .iface _ d => uptoBulk d + 1
  | .map entries => uptoBulkEntries entries + 1
  | .held _ => 1
def uptoBulkAll {H : Type} : List (DataW H) → Nat
  | [] => 0
  | d :: r => uptoBulk d + uptoBulkAll r
def uptoBulkEntries {H : Type} : List (Lit × DataW H) → Nat
  | [] => 0
  | x :: r => uptoBulkEntry x + uptoBulkEntries r
def uptoBulkEntry {H : Type} : Lit × DataW H → Nat
  | (.string bytes, d) => bytes.length + uptoBulk d + 1
  | (_, d) => uptoBulk d + 1
 end
def uptoSmall : (H : Type) → List (DataW H) → Bool := fun _ ds => decide (uptoBulkAll ds ≤ 1048576)
def OpenSpec.upto (s : _root_.Go.ChangeSpec) : _root_.Go.OpenSpec := { _root_.Go.OpenSpec.ofChange s with cond := some uptoSmall }

/-- 'vinculumlaw15.CutinDoes', WHERE WHAT IT READS IS OF BULK AT MOST 1048576: true; the input reads as it did. -/
def cutinDoesUptoRow : OpenClaim := { program := "ytcnmfgdeanbhoaa", sum := "6bc72bce7458af0b8b172ca29b28260417b68c51b6dc3c9527598d1210437f9a", func := "vinculum/vinculumlaw15.CutinDoes", spec := "cutinDoes", inPlace := ["internal/abi.NoEscape"], unfollowed := true, recurses := true, apart := false, narrowed := true }
def CutinDoesUptoSaid : Prop := cutinDoesUptoRow.holds Try.pinned (OpenSpec.upto cutinDoesSpec)

/-- 'vinculumlaw15.CutinFinds', WHERE WHAT IT READS IS OF BULK AT MOST 1048576: true; the input reads as it did. -/
def cutinFindsUptoRow : OpenClaim := { program := "ytcnmfgdeanbhoaa", sum := "6bc72bce7458af0b8b172ca29b28260417b68c51b6dc3c9527598d1210437f9a", func := "vinculum/vinculumlaw15.CutinFinds", spec := "cutinFinds", inPlace := ["internal/abi.NoEscape"], unfollowed := true, recurses := true, apart := false, narrowed := true }
def CutinFindsUptoSaid : Prop := cutinFindsUptoRow.holds Try.pinned (OpenSpec.upto cutinFindsSpec)

/-- 'vinculumlaw15.CutinBack', WHERE WHAT IT READS IS OF BULK AT MOST 1048576: true; the input reads as it did. -/
def cutinBackUptoRow : OpenClaim := { program := "ytcnmfgdeanbhoaa", sum := "6bc72bce7458af0b8b172ca29b28260417b68c51b6dc3c9527598d1210437f9a", func := "vinculum/vinculumlaw15.CutinBack", spec := "cutinBack", inPlace := ["internal/abi.NoEscape"], unfollowed := true, recurses := true, apart := false, narrowed := true }
def CutinBackUptoSaid : Prop := cutinBackUptoRow.holds Try.pinned (OpenSpec.upto cutinBackSpec)

/-- 'vinculumlaw15.CutinOnly', WHERE WHAT IT READS IS OF BULK AT MOST 1048576: true; the input reads as it did. -/
def cutinOnlyUptoRow : OpenClaim := { program := "ytcnmfgdeanbhoaa", sum := "6bc72bce7458af0b8b172ca29b28260417b68c51b6dc3c9527598d1210437f9a", func := "vinculum/vinculumlaw15.CutinOnly", spec := "cutinOnly", inPlace := ["internal/abi.NoEscape"], unfollowed := true, recurses := true, apart := false, narrowed := true }
def CutinOnlyUptoSaid : Prop := cutinOnlyUptoRow.holds Try.pinned (OpenSpec.upto cutinOnlySpec)

/-- 'vinculumlaw15.CutinFlat', WHERE WHAT IT READS IS OF BULK AT MOST 1048576: true; the input reads as it did. -/
def cutinFlatUptoRow : OpenClaim := { program := "ytcnmfgdeanbhoaa", sum := "6bc72bce7458af0b8b172ca29b28260417b68c51b6dc3c9527598d1210437f9a", func := "vinculum/vinculumlaw15.CutinFlat", spec := "cutinFlat", inPlace := ["internal/abi.NoEscape"], unfollowed := true, recurses := true, apart := false, narrowed := true }
def CutinFlatUptoSaid : Prop := cutinFlatUptoRow.holds Try.pinned (OpenSpec.upto cutinFlatSpec)

end Rows
end Go.Proofs.Ytcnmfgdeanbhoaa
