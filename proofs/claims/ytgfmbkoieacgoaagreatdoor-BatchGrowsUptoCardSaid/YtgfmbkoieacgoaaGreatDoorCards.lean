/-
  DERIVED. GIVEN WITH THE SEED: THE CARDS: each row of YtgfmbkoieacgoaaGreatDoorRows.lean that lists a variable, with what it lists TIED to the program's text (the seventh form; the later family's looks); each row that meets fmt, with fmt's text TOLD by the authors' own Lean function (tested against real Go, not proved from fmt's source: count such statements apart). THE CARD IS WHAT COUNTS. Prove the row's statement (the work); the ties are given (YtgfmbkoieacgoaaGreatDoorTie.lean); close each card by the builder's one call (the guide's Derived/Test/ToyasCard.lean, 'card_holds'). Laid BY PROGRAM, IN A SANDBOX (cutbox-door.mjs). By AI agents, Wed Nov 11 2026. No macro, syntax, notation, axiom, sorry.
-/
import Derived.Test.YtgfmbkoieacgoaaGreatDoorRows
import GoSem.ClaimSeven
namespace Go.Proofs.YtgfmbkoieacgoaaGreatDoor
namespace Rows

/-- THE TIED CARD OF 'waterclocklaw11.BatchOuts'. -/
def batchOutsCard : Claim7 := { stood := { row := batchOutsRow, standIns := [], harness := (true, "89a06eb39e7a6e4fc4b3aa2086d10baed476d1c58a7814767fad0ef7f28f29fc"), looks := true }, kinds := [], alts := [], laidByText := true, laidKinds := [.data, .data, .data, .data, .sentinel, .sentinel, .pinned], laidTests := true, laidLooks := .later }
def BatchOutsCardSaid : Prop := Claim7.holds Tryz.pinned (.plain (OpenSpec.ofChange batchOutsSpec)) batchOutsCard

/-- THE TIED CARD OF 'waterclocklaw11.BatchTells'. -/
def batchTellsCard : Claim7 := { stood := { row := batchTellsRow, standIns := [], harness := (true, "89a06eb39e7a6e4fc4b3aa2086d10baed476d1c58a7814767fad0ef7f28f29fc"), looks := true }, kinds := [], alts := [], laidByText := true, laidKinds := [.data, .data, .data, .data, .sentinel, .sentinel, .pinned], laidTests := true, laidLooks := .later }
def BatchTellsCardSaid : Prop := Claim7.holds Tryz.pinned (.plain (OpenSpec.ofChange batchTellsSpec)) batchTellsCard

/-- THE TIED CARD OF 'waterclocklaw11.BatchGroups'. -/
def batchGroupsCard : Claim7 := { stood := { row := batchGroupsRow, standIns := [], harness := (true, "89a06eb39e7a6e4fc4b3aa2086d10baed476d1c58a7814767fad0ef7f28f29fc"), looks := true }, kinds := [], alts := [], laidByText := true, laidKinds := [.data, .data, .data, .data, .sentinel, .sentinel, .pinned], laidTests := true, laidLooks := .later }
def BatchGroupsCardSaid : Prop := Claim7.holds Tryz.pinned (.plain (OpenSpec.ofChange batchGroupsSpec)) batchGroupsCard

/-- THE TIED CARD OF 'waterclocklaw11.BatchGrows'. -/
def batchGrowsCard : Claim7 := { stood := { row := batchGrowsRow, standIns := [], harness := (true, "89a06eb39e7a6e4fc4b3aa2086d10baed476d1c58a7814767fad0ef7f28f29fc"), looks := true }, kinds := [], alts := [], laidByText := true, laidKinds := [.data, .data, .data, .data, .sentinel, .sentinel, .pinned], laidTests := true, laidLooks := .later }
def BatchGrowsCardSaid : Prop := Claim7.holds Tryz.pinned (.plain (OpenSpec.ofChange batchGrowsSpec)) batchGrowsCard

/-- THE SECOND FORM's CARD OF 'waterclocklaw11.BatchOuts'. -/
def batchOutsUptoCard : Claim7 := { stood := { row := batchOutsUptoRow, standIns := [], harness := (true, "89a06eb39e7a6e4fc4b3aa2086d10baed476d1c58a7814767fad0ef7f28f29fc"), looks := true }, kinds := [], alts := [], laidByText := true, laidKinds := [.data, .data, .data, .data, .sentinel, .sentinel, .pinned], laidTests := true, laidLooks := .later }
def BatchOutsUptoCardSaid : Prop := Claim7.holds Tryz.pinned (.plain (OpenSpec.upto batchOutsSpec)) batchOutsUptoCard

/-- THE SECOND FORM's CARD OF 'waterclocklaw11.BatchTells'. -/
def batchTellsUptoCard : Claim7 := { stood := { row := batchTellsUptoRow, standIns := [], harness := (true, "89a06eb39e7a6e4fc4b3aa2086d10baed476d1c58a7814767fad0ef7f28f29fc"), looks := true }, kinds := [], alts := [], laidByText := true, laidKinds := [.data, .data, .data, .data, .sentinel, .sentinel, .pinned], laidTests := true, laidLooks := .later }
def BatchTellsUptoCardSaid : Prop := Claim7.holds Tryz.pinned (.plain (OpenSpec.upto batchTellsSpec)) batchTellsUptoCard

/-- THE SECOND FORM's CARD OF 'waterclocklaw11.BatchGroups'. -/
def batchGroupsUptoCard : Claim7 := { stood := { row := batchGroupsUptoRow, standIns := [], harness := (true, "89a06eb39e7a6e4fc4b3aa2086d10baed476d1c58a7814767fad0ef7f28f29fc"), looks := true }, kinds := [], alts := [], laidByText := true, laidKinds := [.data, .data, .data, .data, .sentinel, .sentinel, .pinned], laidTests := true, laidLooks := .later }
def BatchGroupsUptoCardSaid : Prop := Claim7.holds Tryz.pinned (.plain (OpenSpec.upto batchGroupsSpec)) batchGroupsUptoCard

/-- THE SECOND FORM's CARD OF 'waterclocklaw11.BatchGrows'. -/
def batchGrowsUptoCard : Claim7 := { stood := { row := batchGrowsUptoRow, standIns := [], harness := (true, "89a06eb39e7a6e4fc4b3aa2086d10baed476d1c58a7814767fad0ef7f28f29fc"), looks := true }, kinds := [], alts := [], laidByText := true, laidKinds := [.data, .data, .data, .data, .sentinel, .sentinel, .pinned], laidTests := true, laidLooks := .later }
def BatchGrowsUptoCardSaid : Prop := Claim7.holds Tryz.pinned (.plain (OpenSpec.upto batchGrowsSpec)) batchGrowsUptoCard
end Rows
end Go.Proofs.YtgfmbkoieacgoaaGreatDoor
