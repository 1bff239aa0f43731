/-
  DERIVED. GIVEN WITH THE SEED: THE CARDS: each row of YtoelfjhejfgkiaaDoorRows.lean that lists a variable, with what it lists TIED to the program's text (the seventh form; the later family's looks); each row that meets fmt, with fmt's text TOLD by the authors' own Lean function (tested against real Go, not proved from fmt's source: count such statements apart). THE CARD IS WHAT COUNTS. Prove the row's statement (the work); the ties are given (YtoelfjhejfgkiaaDoorTie.lean); close each card by the builder's one call (the guide's Derived/Test/ToyasCard.lean, 'card_holds'). Laid BY PROGRAM, IN A SANDBOX (cutbox-door.mjs). By AI agents, Wed Nov 11 2026. No macro, syntax, notation, axiom, sorry.
-/
import Derived.Test.YtoelfjhejfgkiaaDoorRows
import GoSem.ClaimSeven
namespace Go.Proofs.YtoelfjhejfgkiaaDoor
namespace Rows

/-- THE TIED CARD OF 'waterclocklaw04.GaussTells'. -/
def gaussTellsCard : Claim7 := { stood := { row := gaussTellsRow, standIns := [], harness := (true, "df6234425b2403d151f272e42a5600243f4552e0958d0db12126d7b48139b4fa"), looks := true }, kinds := [], alts := [], laidByText := true, laidKinds := [.data, .data, .data, .data, .sentinel, .sentinel, .pinned], laidTests := true, laidLooks := .later }
def GaussTellsCardSaid : Prop := Claim7.holds Tryd.pinned (.plain (OpenSpec.ofChange gaussTellsSpec)) gaussTellsCard

/-- THE TIED CARD OF 'waterclocklaw04.GaussTurns'. -/
def gaussTurnsCard : Claim7 := { stood := { row := gaussTurnsRow, standIns := [], harness := (true, "df6234425b2403d151f272e42a5600243f4552e0958d0db12126d7b48139b4fa"), looks := true }, kinds := [], alts := [], laidByText := true, laidKinds := [.data, .data, .data, .data, .sentinel, .sentinel, .pinned], laidTests := true, laidLooks := .later }
def GaussTurnsCardSaid : Prop := Claim7.holds Tryd.pinned (.plain (OpenSpec.ofChange gaussTurnsSpec)) gaussTurnsCard

/-- THE TIED CARD OF 'waterclocklaw04.GaussRing'. -/
def gaussRingCard : Claim7 := { stood := { row := gaussRingRow, standIns := [], harness := (true, "df6234425b2403d151f272e42a5600243f4552e0958d0db12126d7b48139b4fa"), looks := true }, kinds := [], alts := [], laidByText := true, laidKinds := [.data, .data, .data, .data, .sentinel, .sentinel, .pinned], laidTests := true, laidLooks := .later }
def GaussRingCardSaid : Prop := Claim7.holds Tryd.pinned (.plain (OpenSpec.ofChange gaussRingSpec)) gaussRingCard

/-- THE SECOND FORM's CARD OF 'waterclocklaw04.GaussTells'. -/
def gaussTellsUptoCard : Claim7 := { stood := { row := gaussTellsUptoRow, standIns := [], harness := (true, "df6234425b2403d151f272e42a5600243f4552e0958d0db12126d7b48139b4fa"), looks := true }, kinds := [], alts := [], laidByText := true, laidKinds := [.data, .data, .data, .data, .sentinel, .sentinel, .pinned], laidTests := true, laidLooks := .later }
def GaussTellsUptoCardSaid : Prop := Claim7.holds Tryd.pinned (.plain (OpenSpec.upto gaussTellsSpec)) gaussTellsUptoCard

/-- THE SECOND FORM's CARD OF 'waterclocklaw04.GaussTurns'. -/
def gaussTurnsUptoCard : Claim7 := { stood := { row := gaussTurnsUptoRow, standIns := [], harness := (true, "df6234425b2403d151f272e42a5600243f4552e0958d0db12126d7b48139b4fa"), looks := true }, kinds := [], alts := [], laidByText := true, laidKinds := [.data, .data, .data, .data, .sentinel, .sentinel, .pinned], laidTests := true, laidLooks := .later }
def GaussTurnsUptoCardSaid : Prop := Claim7.holds Tryd.pinned (.plain (OpenSpec.upto gaussTurnsSpec)) gaussTurnsUptoCard

/-- THE SECOND FORM's CARD OF 'waterclocklaw04.GaussRing'. -/
def gaussRingUptoCard : Claim7 := { stood := { row := gaussRingUptoRow, standIns := [], harness := (true, "df6234425b2403d151f272e42a5600243f4552e0958d0db12126d7b48139b4fa"), looks := true }, kinds := [], alts := [], laidByText := true, laidKinds := [.data, .data, .data, .data, .sentinel, .sentinel, .pinned], laidTests := true, laidLooks := .later }
def GaussRingUptoCardSaid : Prop := Claim7.holds Tryd.pinned (.plain (OpenSpec.upto gaussRingSpec)) gaussRingUptoCard
end Rows
end Go.Proofs.YtoelfjhejfgkiaaDoor
