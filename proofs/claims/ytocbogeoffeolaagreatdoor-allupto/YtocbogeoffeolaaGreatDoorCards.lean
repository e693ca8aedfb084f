/-
  DERIVED. GIVEN WITH THE SEED: THE CARDS: each row of YtocbogeoffeolaaGreatDoorRows.lean that lists a variable, with what it lists TIED to the program's text (the seventh form; the later family's looks); each row that meets fmt, with fmt's text TOLD by the authors' own Lean function (tested against real Go, not proved from fmt's source: count such statements apart). THE CARD IS WHAT COUNTS. Prove the row's statement (the work); the ties are given (YtocbogeoffeolaaGreatDoorTie.lean); close each card by the builder's one call (the guide's Derived/Test/ToyasCard.lean, 'card_holds'). Laid BY PROGRAM, IN A SANDBOX (cutbox-door.mjs). By AI agents, Wed Nov 11 2026. No macro, syntax, notation, axiom, sorry.
-/
import Derived.Test.YtocbogeoffeolaaGreatDoorRows
import GoSem.ClaimSeven
namespace Go.Proofs.YtocbogeoffeolaaGreatDoor
namespace Rows

/-- THE TIED CARD OF 'hintlaw.Segments'. -/
def segmentsCard : Claim7 := { stood := { row := segmentsRow, standIns := [], harness := (true, "93efea820a6ef72177068c61922b39422e65767c8341b23520ecd061f3345db2"), looks := true }, kinds := [], alts := [], goes := true, laidByText := true, laidKinds := [.data, .data, .data, .data], laidTests := true, laidLooks := .later }
def SegmentsCardSaid : Prop := Claim7.holds Tryz.pinned (.plain (OpenSpec.ofChange segmentsSpec)) segmentsCard

/-- THE TIED CARD OF 'hintlaw.Completes'. -/
def completesCard : Claim7 := { stood := { row := completesRow, standIns := [], harness := (true, "93efea820a6ef72177068c61922b39422e65767c8341b23520ecd061f3345db2"), looks := true }, kinds := [], alts := [], goes := true, laidByText := true, laidKinds := [.data, .data, .data, .data], laidTests := true, laidLooks := .later }
def CompletesCardSaid : Prop := Claim7.holds Tryz.pinned (.plain (OpenSpec.ofChange completesSpec)) completesCard

/-- THE TIED CARD OF 'hintlaw.Suggests'. -/
def suggestsCard : Claim7 := { stood := { row := suggestsRow, standIns := [], harness := (true, "93efea820a6ef72177068c61922b39422e65767c8341b23520ecd061f3345db2"), looks := true }, kinds := [], alts := [], goes := true, laidByText := true, laidKinds := [.data, .data, .data, .data], laidTests := true, laidLooks := .later }
def SuggestsCardSaid : Prop := Claim7.holds Tryz.pinned (.plain (OpenSpec.ofChange suggestsSpec)) suggestsCard

/-- THE TIED CARD OF 'hintkeep.Found'. -/
def foundCard : Claim7 := { stood := { row := foundRow, standIns := [], harness := (true, "93efea820a6ef72177068c61922b39422e65767c8341b23520ecd061f3345db2"), looks := true }, kinds := [], alts := [], goes := true, laidByText := true, laidKinds := [.data, .data, .data, .data], laidTests := true, laidLooks := .later }
def FoundCardSaid : Prop := Claim7.holds Tryz.pinned (.plain (OpenSpec.ofChange foundSpec)) foundCard

/-- THE TIED CARD OF 'hintkeep.Turned'. -/
def turnedCard : Claim7 := { stood := { row := turnedRow, standIns := [], harness := (true, "93efea820a6ef72177068c61922b39422e65767c8341b23520ecd061f3345db2"), looks := true }, kinds := [], alts := [], goes := true, laidByText := true, laidKinds := [.data, .data, .data, .data], laidTests := true, laidLooks := .later }
def TurnedCardSaid : Prop := Claim7.holds Tryz.pinned (.plain (OpenSpec.ofChange turnedSpec)) turnedCard

/-- THE TIED CARD OF 'hintkeep.Wider'. -/
def widerCard : Claim7 := { stood := { row := widerRow, standIns := [], harness := (true, "93efea820a6ef72177068c61922b39422e65767c8341b23520ecd061f3345db2"), looks := true }, kinds := [], alts := [], goes := true, laidByText := true, laidKinds := [.data, .data, .data, .data], laidTests := true, laidLooks := .later }
def WiderCardSaid : Prop := Claim7.holds Tryz.pinned (.plain (OpenSpec.ofChange widerSpec)) widerCard

/-- THE TIED CARD OF 'hintkeep.Carried'. -/
def carriedCard : Claim7 := { stood := { row := carriedRow, standIns := [], harness := (true, "93efea820a6ef72177068c61922b39422e65767c8341b23520ecd061f3345db2"), looks := true }, kinds := [], alts := [], goes := true, laidByText := true, laidKinds := [.data, .data, .data, .data], laidTests := true, laidLooks := .later }
def CarriedCardSaid : Prop := Claim7.holds Tryz.pinned (.plain (OpenSpec.ofChange carriedSpec)) carriedCard

/-- THE TIED CARD OF 'hintkeep.Follows'. -/
def followsCard : Claim7 := { stood := { row := followsRow, standIns := [], harness := (true, "93efea820a6ef72177068c61922b39422e65767c8341b23520ecd061f3345db2"), looks := true }, kinds := [], alts := [], goes := true, laidByText := true, laidKinds := [.data, .data, .data, .data], laidTests := true, laidLooks := .later }
def FollowsCardSaid : Prop := Claim7.holds Tryz.pinned (.plain (OpenSpec.ofChange followsSpec)) followsCard

/-- THE TIED CARD OF 'hintkeep.Refused'. -/
def refusedCard : Claim7 := { stood := { row := refusedRow, standIns := [], harness := (true, "93efea820a6ef72177068c61922b39422e65767c8341b23520ecd061f3345db2"), looks := true }, kinds := [], alts := [], goes := true, laidByText := true, laidKinds := [.data, .data, .data, .data], laidTests := true, laidLooks := .later }
def RefusedCardSaid : Prop := Claim7.holds Tryz.pinned (.plain (OpenSpec.ofChange refusedSpec)) refusedCard

/-- THE TIED CARD OF 'hintlaw.All'. -/
def allCard : Claim7 := { stood := { row := allRow, standIns := [], harness := (true, "93efea820a6ef72177068c61922b39422e65767c8341b23520ecd061f3345db2"), looks := true }, kinds := [], alts := [], goes := true, laidByText := true, laidKinds := [.data, .data, .data, .data], laidTests := true, laidLooks := .later }
def AllCardSaid : Prop := Claim7.holds Tryz.pinned (.plain (OpenSpec.ofChange allSpec)) allCard

/-- THE SECOND FORM's CARD OF 'hintlaw.Segments'. -/
def segmentsUptoCard : Claim7 := { stood := { row := segmentsUptoRow, standIns := [], harness := (true, "93efea820a6ef72177068c61922b39422e65767c8341b23520ecd061f3345db2"), looks := true }, kinds := [], alts := [], goes := true, laidByText := true, laidKinds := [.data, .data, .data, .data], laidTests := true, laidLooks := .later }
def SegmentsUptoCardSaid : Prop := Claim7.holds Tryz.pinned (.plain (OpenSpec.upto segmentsSpec)) segmentsUptoCard

/-- THE SECOND FORM's CARD OF 'hintlaw.Completes'. -/
def completesUptoCard : Claim7 := { stood := { row := completesUptoRow, standIns := [], harness := (true, "93efea820a6ef72177068c61922b39422e65767c8341b23520ecd061f3345db2"), looks := true }, kinds := [], alts := [], goes := true, laidByText := true, laidKinds := [.data, .data, .data, .data], laidTests := true, laidLooks := .later }
def CompletesUptoCardSaid : Prop := Claim7.holds Tryz.pinned (.plain (OpenSpec.upto completesSpec)) completesUptoCard

/-- THE SECOND FORM's CARD OF 'hintlaw.Suggests'. -/
def suggestsUptoCard : Claim7 := { stood := { row := suggestsUptoRow, standIns := [], harness := (true, "93efea820a6ef72177068c61922b39422e65767c8341b23520ecd061f3345db2"), looks := true }, kinds := [], alts := [], goes := true, laidByText := true, laidKinds := [.data, .data, .data, .data], laidTests := true, laidLooks := .later }
def SuggestsUptoCardSaid : Prop := Claim7.holds Tryz.pinned (.plain (OpenSpec.upto suggestsSpec)) suggestsUptoCard

/-- THE SECOND FORM's CARD OF 'hintkeep.Found'. -/
def foundUptoCard : Claim7 := { stood := { row := foundUptoRow, standIns := [], harness := (true, "93efea820a6ef72177068c61922b39422e65767c8341b23520ecd061f3345db2"), looks := true }, kinds := [], alts := [], goes := true, laidByText := true, laidKinds := [.data, .data, .data, .data], laidTests := true, laidLooks := .later }
def FoundUptoCardSaid : Prop := Claim7.holds Tryz.pinned (.plain (OpenSpec.upto foundSpec)) foundUptoCard

/-- THE SECOND FORM's CARD OF 'hintkeep.Turned'. -/
def turnedUptoCard : Claim7 := { stood := { row := turnedUptoRow, standIns := [], harness := (true, "93efea820a6ef72177068c61922b39422e65767c8341b23520ecd061f3345db2"), looks := true }, kinds := [], alts := [], goes := true, laidByText := true, laidKinds := [.data, .data, .data, .data], laidTests := true, laidLooks := .later }
def TurnedUptoCardSaid : Prop := Claim7.holds Tryz.pinned (.plain (OpenSpec.upto turnedSpec)) turnedUptoCard

/-- THE SECOND FORM's CARD OF 'hintkeep.Wider'. -/
def widerUptoCard : Claim7 := { stood := { row := widerUptoRow, standIns := [], harness := (true, "93efea820a6ef72177068c61922b39422e65767c8341b23520ecd061f3345db2"), looks := true }, kinds := [], alts := [], goes := true, laidByText := true, laidKinds := [.data, .data, .data, .data], laidTests := true, laidLooks := .later }
def WiderUptoCardSaid : Prop := Claim7.holds Tryz.pinned (.plain (OpenSpec.upto widerSpec)) widerUptoCard

/-- THE SECOND FORM's CARD OF 'hintkeep.Carried'. -/
def carriedUptoCard : Claim7 := { stood := { row := carriedUptoRow, standIns := [], harness := (true, "93efea820a6ef72177068c61922b39422e65767c8341b23520ecd061f3345db2"), looks := true }, kinds := [], alts := [], goes := true, laidByText := true, laidKinds := [.data, .data, .data, .data], laidTests := true, laidLooks := .later }
def CarriedUptoCardSaid : Prop := Claim7.holds Tryz.pinned (.plain (OpenSpec.upto carriedSpec)) carriedUptoCard

/-- THE SECOND FORM's CARD OF 'hintkeep.Follows'. -/
def followsUptoCard : Claim7 := { stood := { row := followsUptoRow, standIns := [], harness := (true, "93efea820a6ef72177068c61922b39422e65767c8341b23520ecd061f3345db2"), looks := true }, kinds := [], alts := [], goes := true, laidByText := true, laidKinds := [.data, .data, .data, .data], laidTests := true, laidLooks := .later }
def FollowsUptoCardSaid : Prop := Claim7.holds Tryz.pinned (.plain (OpenSpec.upto followsSpec)) followsUptoCard

/-- THE SECOND FORM's CARD OF 'hintkeep.Refused'. -/
def refusedUptoCard : Claim7 := { stood := { row := refusedUptoRow, standIns := [], harness := (true, "93efea820a6ef72177068c61922b39422e65767c8341b23520ecd061f3345db2"), looks := true }, kinds := [], alts := [], goes := true, laidByText := true, laidKinds := [.data, .data, .data, .data], laidTests := true, laidLooks := .later }
def RefusedUptoCardSaid : Prop := Claim7.holds Tryz.pinned (.plain (OpenSpec.upto refusedSpec)) refusedUptoCard

/-- THE SECOND FORM's CARD OF 'hintlaw.All'. -/
def allUptoCard : Claim7 := { stood := { row := allUptoRow, standIns := [], harness := (true, "93efea820a6ef72177068c61922b39422e65767c8341b23520ecd061f3345db2"), looks := true }, kinds := [], alts := [], goes := true, laidByText := true, laidKinds := [.data, .data, .data, .data], laidTests := true, laidLooks := .later }
def AllUptoCardSaid : Prop := Claim7.holds Tryz.pinned (.plain (OpenSpec.upto allSpec)) allUptoCard
end Rows
end Go.Proofs.YtocbogeoffeolaaGreatDoor
