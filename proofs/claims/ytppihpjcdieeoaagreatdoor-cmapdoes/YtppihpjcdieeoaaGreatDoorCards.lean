/-
  DERIVED. GIVEN WITH THE SEED: THE CARDS: each row of YtppihpjcdieeoaaGreatDoorRows.lean that lists a variable, with what it lists TIED to the program's text (the seventh form; the later family's looks); each row that meets fmt, with fmt's text TOLD by the authors' own Lean function (tested against real Go, not proved from fmt's source: count such statements apart). THE CARD IS WHAT COUNTS. Prove the row's statement (the work); the ties are given (YtppihpjcdieeoaaGreatDoorTie.lean); close each card by the builder's one call (the guide's Derived/Test/ToyasCard.lean, 'card_holds'). Laid BY PROGRAM, IN A SANDBOX (cutbox-door.mjs). By AI agents, Wed Nov 11 2026. No macro, syntax, notation, axiom, sorry.
-/
import Derived.Test.YtppihpjcdieeoaaGreatDoorRows
import GoSem.ClaimSeven
namespace Go.Proofs.YtppihpjcdieeoaaGreatDoor
namespace Rows

/-- THE TIED CARD OF 'vinculumlaw11.CmapDoes'. -/
def cmapDoesCard : Claim7 := { stood := { row := cmapDoesRow, standIns := [], harness := (true, "f61e402f850fae65a1812b51a091ecfe2febfe81ee45c476b057653139abdb83"), looks := true }, kinds := [], alts := [], laidByText := true, laidKinds := [.data], laidTests := true, laidLooks := .later }
def CmapDoesCardSaid : Prop := Claim7.holds Tryz.pinned (.plain (OpenSpec.ofChange cmapDoesSpec)) cmapDoesCard

/-- THE TIED CARD OF 'vinculumlaw11.CmapBack'. -/
def cmapBackCard : Claim7 := { stood := { row := cmapBackRow, standIns := [], harness := (true, "f61e402f850fae65a1812b51a091ecfe2febfe81ee45c476b057653139abdb83"), looks := true }, kinds := [], alts := [], laidByText := true, laidKinds := [.data], laidTests := true, laidLooks := .later }
def CmapBackCardSaid : Prop := Claim7.holds Tryz.pinned (.plain (OpenSpec.ofChange cmapBackSpec)) cmapBackCard

/-- THE TIED CARD OF 'vinculumlaw11.CmapFormats'. -/
def cmapFormatsCard : Claim7 := { stood := { row := cmapFormatsRow, standIns := [], harness := (true, "f61e402f850fae65a1812b51a091ecfe2febfe81ee45c476b057653139abdb83"), looks := true }, kinds := [], alts := [], laidByText := true, laidKinds := [.data], laidTests := true, laidLooks := .later }
def CmapFormatsCardSaid : Prop := Claim7.holds Tryz.pinned (.plain (OpenSpec.ofChange cmapFormatsSpec)) cmapFormatsCard

/-- THE TIED CARD OF 'vinculumlaw11.CmapRecords'. -/
def cmapRecordsCard : Claim7 := { stood := { row := cmapRecordsRow, standIns := [], harness := (true, "f61e402f850fae65a1812b51a091ecfe2febfe81ee45c476b057653139abdb83"), looks := true }, kinds := [], alts := [], laidByText := true, laidKinds := [.data], laidTests := true, laidLooks := .later }
def CmapRecordsCardSaid : Prop := Claim7.holds Tryz.pinned (.plain (OpenSpec.ofChange cmapRecordsSpec)) cmapRecordsCard

/-- THE SECOND FORM's CARD OF 'vinculumlaw11.CmapDoes'. -/
def cmapDoesUptoCard : Claim7 := { stood := { row := cmapDoesUptoRow, standIns := [], harness := (true, "f61e402f850fae65a1812b51a091ecfe2febfe81ee45c476b057653139abdb83"), looks := true }, kinds := [], alts := [], laidByText := true, laidKinds := [.data], laidTests := true, laidLooks := .later }
def CmapDoesUptoCardSaid : Prop := Claim7.holds Tryz.pinned (.plain (OpenSpec.upto cmapDoesSpec)) cmapDoesUptoCard

/-- THE SECOND FORM's CARD OF 'vinculumlaw11.CmapBack'. -/
def cmapBackUptoCard : Claim7 := { stood := { row := cmapBackUptoRow, standIns := [], harness := (true, "f61e402f850fae65a1812b51a091ecfe2febfe81ee45c476b057653139abdb83"), looks := true }, kinds := [], alts := [], laidByText := true, laidKinds := [.data], laidTests := true, laidLooks := .later }
def CmapBackUptoCardSaid : Prop := Claim7.holds Tryz.pinned (.plain (OpenSpec.upto cmapBackSpec)) cmapBackUptoCard

/-- THE SECOND FORM's CARD OF 'vinculumlaw11.CmapFormats'. -/
def cmapFormatsUptoCard : Claim7 := { stood := { row := cmapFormatsUptoRow, standIns := [], harness := (true, "f61e402f850fae65a1812b51a091ecfe2febfe81ee45c476b057653139abdb83"), looks := true }, kinds := [], alts := [], laidByText := true, laidKinds := [.data], laidTests := true, laidLooks := .later }
def CmapFormatsUptoCardSaid : Prop := Claim7.holds Tryz.pinned (.plain (OpenSpec.upto cmapFormatsSpec)) cmapFormatsUptoCard

/-- THE SECOND FORM's CARD OF 'vinculumlaw11.CmapRecords'. -/
def cmapRecordsUptoCard : Claim7 := { stood := { row := cmapRecordsUptoRow, standIns := [], harness := (true, "f61e402f850fae65a1812b51a091ecfe2febfe81ee45c476b057653139abdb83"), looks := true }, kinds := [], alts := [], laidByText := true, laidKinds := [.data], laidTests := true, laidLooks := .later }
def CmapRecordsUptoCardSaid : Prop := Claim7.holds Tryz.pinned (.plain (OpenSpec.upto cmapRecordsSpec)) cmapRecordsUptoCard
end Rows
end Go.Proofs.YtppihpjcdieeoaaGreatDoor
