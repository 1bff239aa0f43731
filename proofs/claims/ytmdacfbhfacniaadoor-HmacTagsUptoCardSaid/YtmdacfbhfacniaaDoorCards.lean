/-
  DERIVED. GIVEN WITH THE SEED: THE CARDS: each row of YtmdacfbhfacniaaDoorRows.lean that lists a variable, with what it lists TIED to the program's text (the seventh form; the later family's looks); each row that meets fmt, with fmt's text TOLD by the authors' own Lean function (tested against real Go, not proved from fmt's source: count such statements apart). THE CARD IS WHAT COUNTS. Prove the row's statement (the work); the ties are given (YtmdacfbhfacniaaDoorTie.lean); close each card by the builder's one call (the guide's Derived/Test/ToyasCard.lean, 'card_holds'). Laid BY PROGRAM, IN A SANDBOX (cutbox-door.mjs). By AI agents, Wed Nov 11 2026. No macro, syntax, notation, axiom, sorry.
-/
import Derived.Test.YtmdacfbhfacniaaDoorRows
import GoSem.ClaimSeven
namespace Go.Proofs.YtmdacfbhfacniaaDoor
namespace Rows

/-- THE TIED CARD OF 'waterclocklaw02.HmacTags'. -/
def hmacTagsCard : Claim7 := { stood := { row := hmacTagsRow, standIns := [], harness := (true, "47bf22d0aa30fce6cd31d57c7900f6aeb7488466b9fbccfccc946d3f871a736c"), looks := false }, kinds := [], alts := [], laidByText := true, laidKinds := [.data, .data], laidTests := true, laidLooks := .later }
def HmacTagsCardSaid : Prop := Claim7.holds Tryd.pinned (.plain (OpenSpec.ofChange hmacTagsSpec)) hmacTagsCard

/-- THE TIED CARD OF 'waterclocklaw02.HmacPlays'. -/
def hmacPlaysCard : Claim7 := { stood := { row := hmacPlaysRow, standIns := [], harness := (true, "47bf22d0aa30fce6cd31d57c7900f6aeb7488466b9fbccfccc946d3f871a736c"), looks := false }, kinds := [], alts := [], laidByText := true, laidKinds := [.data, .data], laidTests := true, laidLooks := .later }
def HmacPlaysCardSaid : Prop := Claim7.holds Tryd.pinned (.plain (OpenSpec.ofChange hmacPlaysSpec)) hmacPlaysCard

/-- THE SECOND FORM's CARD OF 'waterclocklaw02.HmacTags'. -/
def hmacTagsUptoCard : Claim7 := { stood := { row := hmacTagsUptoRow, standIns := [], harness := (true, "47bf22d0aa30fce6cd31d57c7900f6aeb7488466b9fbccfccc946d3f871a736c"), looks := false }, kinds := [], alts := [], laidByText := true, laidKinds := [.data, .data], laidTests := true, laidLooks := .later }
def HmacTagsUptoCardSaid : Prop := Claim7.holds Tryd.pinned (.plain (OpenSpec.upto hmacTagsSpec)) hmacTagsUptoCard

/-- THE SECOND FORM's CARD OF 'waterclocklaw02.HmacPlays'. -/
def hmacPlaysUptoCard : Claim7 := { stood := { row := hmacPlaysUptoRow, standIns := [], harness := (true, "47bf22d0aa30fce6cd31d57c7900f6aeb7488466b9fbccfccc946d3f871a736c"), looks := false }, kinds := [], alts := [], laidByText := true, laidKinds := [.data, .data], laidTests := true, laidLooks := .later }
def HmacPlaysUptoCardSaid : Prop := Claim7.holds Tryd.pinned (.plain (OpenSpec.upto hmacPlaysSpec)) hmacPlaysUptoCard
end Rows
end Go.Proofs.YtmdacfbhfacniaaDoor
