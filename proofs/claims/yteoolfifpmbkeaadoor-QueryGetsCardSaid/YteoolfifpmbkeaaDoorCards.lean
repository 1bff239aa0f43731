/-
  DERIVED. GIVEN WITH THE SEED: THE CARDS: each row of YteoolfifpmbkeaaDoorRows.lean that lists a variable, with what it lists TIED to the program's text (the seventh form; the later family's looks); each row that meets fmt, with fmt's text TOLD by the authors' own Lean function (tested against real Go, not proved from fmt's source: count such statements apart). THE CARD IS WHAT COUNTS. Prove the row's statement (the work); the ties are given (YteoolfifpmbkeaaDoorTie.lean); close each card by the builder's one call (the guide's Derived/Test/ToyasCard.lean, 'card_holds'). Laid BY PROGRAM, IN A SANDBOX (cutbox-door.mjs). By AI agents, Wed Nov 11 2026. No macro, syntax, notation, axiom, sorry.
-/
import Derived.Test.YteoolfifpmbkeaaDoorRows
import GoSem.ClaimSeven
namespace Go.Proofs.YteoolfifpmbkeaaDoor
namespace Rows

/-- THE TIED CARD OF 'waterclocklaw06.QueryTells'. -/
def queryTellsCard : Claim7 := { stood := { row := queryTellsRow, standIns := [], harness := (true, "a3b4495ba69b4f263d6e3c6aafefdebde4381fa16b243b258bb5bde3d020fb33"), looks := true }, kinds := [], alts := [], laidByText := true, laidKinds := [.data, .data, .data, .sentinel, .sentinel, .data, .data], laidTests := true, laidLooks := .later }
def QueryTellsCardSaid : Prop := Claim7.holds Tryd.pinned (.plain (OpenSpec.ofChange queryTellsSpec)) queryTellsCard

/-- THE TIED CARD OF 'waterclocklaw06.QueryGets'. -/
def queryGetsCard : Claim7 := { stood := { row := queryGetsRow, standIns := [], harness := (true, "a3b4495ba69b4f263d6e3c6aafefdebde4381fa16b243b258bb5bde3d020fb33"), looks := true }, kinds := [], alts := [], laidByText := true, laidKinds := [.data, .data, .data, .sentinel, .sentinel, .data, .data], laidTests := true, laidLooks := .later }
def QueryGetsCardSaid : Prop := Claim7.holds Tryd.pinned (.plain (OpenSpec.ofChange queryGetsSpec)) queryGetsCard

/-- THE SECOND FORM's CARD OF 'waterclocklaw06.QueryTells'. -/
def queryTellsUptoCard : Claim7 := { stood := { row := queryTellsUptoRow, standIns := [], harness := (true, "a3b4495ba69b4f263d6e3c6aafefdebde4381fa16b243b258bb5bde3d020fb33"), looks := true }, kinds := [], alts := [], laidByText := true, laidKinds := [.data, .data, .data, .sentinel, .sentinel, .data, .data], laidTests := true, laidLooks := .later }
def QueryTellsUptoCardSaid : Prop := Claim7.holds Tryd.pinned (.plain (OpenSpec.upto queryTellsSpec)) queryTellsUptoCard

/-- THE SECOND FORM's CARD OF 'waterclocklaw06.QueryGets'. -/
def queryGetsUptoCard : Claim7 := { stood := { row := queryGetsUptoRow, standIns := [], harness := (true, "a3b4495ba69b4f263d6e3c6aafefdebde4381fa16b243b258bb5bde3d020fb33"), looks := true }, kinds := [], alts := [], laidByText := true, laidKinds := [.data, .data, .data, .sentinel, .sentinel, .data, .data], laidTests := true, laidLooks := .later }
def QueryGetsUptoCardSaid : Prop := Claim7.holds Tryd.pinned (.plain (OpenSpec.upto queryGetsSpec)) queryGetsUptoCard
end Rows
end Go.Proofs.YteoolfifpmbkeaaDoor
