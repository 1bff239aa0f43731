/-
  DERIVED. GIVEN WITH THE SEED: THE CARDS: each row of YtkgmcjeficgciaaDoorRows.lean that lists a variable, with what it lists TIED to the program's text (the seventh form; the later family's looks); each row that meets fmt, with fmt's text TOLD by the authors' own Lean function (tested against real Go, not proved from fmt's source: count such statements apart). THE CARD IS WHAT COUNTS. Prove the row's statement (the work); the ties are given (YtkgmcjeficgciaaDoorTie.lean); close each card by the builder's one call (the guide's Derived/Test/ToyasCard.lean, 'card_holds'). Laid BY PROGRAM, IN A SANDBOX (cutbox-door.mjs). By AI agents, Wed Nov 11 2026. No macro, syntax, notation, axiom, sorry.
-/
import Derived.Test.YtkgmcjeficgciaaDoorRows
import GoSem.ClaimSeven
namespace Go.Proofs.YtkgmcjeficgciaaDoor
namespace Rows

/-- THE TIED CARD OF 'waterclocklaw08.WinsTell'. -/
def winsTellCard : Claim7 := { stood := { row := winsTellRow, standIns := [], harness := (true, "31531b9e7cd0922d590cef6347e679fefb78970e8c6ac392ee1a960051d13bf1"), looks := true }, kinds := [], alts := [], laidByText := true, laidKinds := [.data, .data, .data, .sentinel, .sentinel], laidTests := true, laidLooks := .later }
def WinsTellCardSaid : Prop := Claim7.holds Tryd.pinned (.plain (OpenSpec.ofChange winsTellSpec)) winsTellCard

/-- THE TIED CARD OF 'waterclocklaw08.WinsOrder'. -/
def winsOrderCard : Claim7 := { stood := { row := winsOrderRow, standIns := [], harness := (true, "31531b9e7cd0922d590cef6347e679fefb78970e8c6ac392ee1a960051d13bf1"), looks := true }, kinds := [], alts := [], laidByText := true, laidKinds := [.data, .data, .data, .sentinel, .sentinel], laidTests := true, laidLooks := .later }
def WinsOrderCardSaid : Prop := Claim7.holds Tryd.pinned (.plain (OpenSpec.ofChange winsOrderSpec)) winsOrderCard

/-- THE TIED CARD OF 'waterclocklaw08.WinsGet'. -/
def winsGetCard : Claim7 := { stood := { row := winsGetRow, standIns := [], harness := (true, "31531b9e7cd0922d590cef6347e679fefb78970e8c6ac392ee1a960051d13bf1"), looks := true }, kinds := [], alts := [], laidByText := true, laidKinds := [.data, .data, .data, .sentinel, .sentinel], laidTests := true, laidLooks := .later }
def WinsGetCardSaid : Prop := Claim7.holds Tryd.pinned (.plain (OpenSpec.ofChange winsGetSpec)) winsGetCard

/-- THE TIED CARD OF 'waterclocklaw08.WinsHold'. -/
def winsHoldCard : Claim7 := { stood := { row := winsHoldRow, standIns := [], harness := (true, "31531b9e7cd0922d590cef6347e679fefb78970e8c6ac392ee1a960051d13bf1"), looks := true }, kinds := [], alts := [], laidByText := true, laidKinds := [.data, .data, .data, .sentinel, .sentinel], laidTests := true, laidLooks := .later }
def WinsHoldCardSaid : Prop := Claim7.holds Tryd.pinned (.plain (OpenSpec.ofChange winsHoldSpec)) winsHoldCard

/-- THE TIED CARD OF 'waterclocklaw08.WinsCover'. -/
def winsCoverCard : Claim7 := { stood := { row := winsCoverRow, standIns := [], harness := (true, "31531b9e7cd0922d590cef6347e679fefb78970e8c6ac392ee1a960051d13bf1"), looks := true }, kinds := [], alts := [], laidByText := true, laidKinds := [.data, .data, .data, .sentinel, .sentinel], laidTests := true, laidLooks := .later }
def WinsCoverCardSaid : Prop := Claim7.holds Tryd.pinned (.plain (OpenSpec.ofChange winsCoverSpec)) winsCoverCard

/-- THE SECOND FORM's CARD OF 'waterclocklaw08.WinsTell'. -/
def winsTellUptoCard : Claim7 := { stood := { row := winsTellUptoRow, standIns := [], harness := (true, "31531b9e7cd0922d590cef6347e679fefb78970e8c6ac392ee1a960051d13bf1"), looks := true }, kinds := [], alts := [], laidByText := true, laidKinds := [.data, .data, .data, .sentinel, .sentinel], laidTests := true, laidLooks := .later }
def WinsTellUptoCardSaid : Prop := Claim7.holds Tryd.pinned (.plain (OpenSpec.upto winsTellSpec)) winsTellUptoCard

/-- THE SECOND FORM's CARD OF 'waterclocklaw08.WinsOrder'. -/
def winsOrderUptoCard : Claim7 := { stood := { row := winsOrderUptoRow, standIns := [], harness := (true, "31531b9e7cd0922d590cef6347e679fefb78970e8c6ac392ee1a960051d13bf1"), looks := true }, kinds := [], alts := [], laidByText := true, laidKinds := [.data, .data, .data, .sentinel, .sentinel], laidTests := true, laidLooks := .later }
def WinsOrderUptoCardSaid : Prop := Claim7.holds Tryd.pinned (.plain (OpenSpec.upto winsOrderSpec)) winsOrderUptoCard

/-- THE SECOND FORM's CARD OF 'waterclocklaw08.WinsGet'. -/
def winsGetUptoCard : Claim7 := { stood := { row := winsGetUptoRow, standIns := [], harness := (true, "31531b9e7cd0922d590cef6347e679fefb78970e8c6ac392ee1a960051d13bf1"), looks := true }, kinds := [], alts := [], laidByText := true, laidKinds := [.data, .data, .data, .sentinel, .sentinel], laidTests := true, laidLooks := .later }
def WinsGetUptoCardSaid : Prop := Claim7.holds Tryd.pinned (.plain (OpenSpec.upto winsGetSpec)) winsGetUptoCard

/-- THE SECOND FORM's CARD OF 'waterclocklaw08.WinsHold'. -/
def winsHoldUptoCard : Claim7 := { stood := { row := winsHoldUptoRow, standIns := [], harness := (true, "31531b9e7cd0922d590cef6347e679fefb78970e8c6ac392ee1a960051d13bf1"), looks := true }, kinds := [], alts := [], laidByText := true, laidKinds := [.data, .data, .data, .sentinel, .sentinel], laidTests := true, laidLooks := .later }
def WinsHoldUptoCardSaid : Prop := Claim7.holds Tryd.pinned (.plain (OpenSpec.upto winsHoldSpec)) winsHoldUptoCard

/-- THE SECOND FORM's CARD OF 'waterclocklaw08.WinsCover'. -/
def winsCoverUptoCard : Claim7 := { stood := { row := winsCoverUptoRow, standIns := [], harness := (true, "31531b9e7cd0922d590cef6347e679fefb78970e8c6ac392ee1a960051d13bf1"), looks := true }, kinds := [], alts := [], laidByText := true, laidKinds := [.data, .data, .data, .sentinel, .sentinel], laidTests := true, laidLooks := .later }
def WinsCoverUptoCardSaid : Prop := Claim7.holds Tryd.pinned (.plain (OpenSpec.upto winsCoverSpec)) winsCoverUptoCard
end Rows
end Go.Proofs.YtkgmcjeficgciaaDoor
