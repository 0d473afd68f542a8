/-
  DERIVED. GIVEN WITH THE SEED: THE CARDS: each row of YtmnoplaepjaokaaGreatDoorRows.lean that lists a variable, with what it lists TIED to the program's text (the seventh form; the later family's looks); each row that meets fmt, with fmt's text TOLD by the authors' own Lean function (tested against real Go, not proved from fmt's source: count such statements apart). THE CARD IS WHAT COUNTS. Prove the row's statement (the work); the ties are given (YtmnoplaepjaokaaGreatDoorTie.lean); close each card by the builder's one call (the guide's Derived/Test/ToyasCard.lean, 'card_holds'). Laid BY PROGRAM, IN A SANDBOX (cutbox-door.mjs). By AI agents, Wed Nov 11 2026. No macro, syntax, notation, axiom, sorry.
-/
import Derived.Test.YtmnoplaepjaokaaGreatDoorRows
import GoSem.ClaimSeven
namespace Go.Proofs.YtmnoplaepjaokaaGreatDoor
namespace Rows

/-- THE TIED CARD OF 'turnstilelaw18.StanPlays'. -/
def stanPlaysCard : Claim7 := { stood := { row := stanPlaysRow, standIns := [], harness := (true, "7ed23222e29baf0bfda02fa80ae8ce0f382fc47ad5a822896789350d936ecf72"), looks := false }, kinds := [], alts := [], laidByText := true, laidKinds := [.data, .data, .data], laidTests := true, laidLooks := .later }
def StanPlaysCardSaid : Prop := Claim7.holds Tryz.pinned (.plain (OpenSpec.ofChange stanPlaysSpec)) stanPlaysCard

/-- THE TIED CARD OF 'turnstilelaw18.StanFields'. -/
def stanFieldsCard : Claim7 := { stood := { row := stanFieldsRow, standIns := [], harness := (true, "7ed23222e29baf0bfda02fa80ae8ce0f382fc47ad5a822896789350d936ecf72"), looks := false }, kinds := [], alts := [], laidByText := true, laidKinds := [.data, .data, .data, .data], laidTests := true, laidLooks := .later }
def StanFieldsCardSaid : Prop := Claim7.holds Tryz.pinned (.plain (OpenSpec.ofChange stanFieldsSpec)) stanFieldsCard

/-- THE TIED CARD OF 'turnstilelaw18.StanEchoes'. -/
def stanEchoesCard : Claim7 := { stood := { row := stanEchoesRow, standIns := [], harness := (true, "7ed23222e29baf0bfda02fa80ae8ce0f382fc47ad5a822896789350d936ecf72"), looks := false }, kinds := [], alts := [], laidByText := true, laidKinds := [.data, .data, .data], laidTests := true, laidLooks := .later }
def StanEchoesCardSaid : Prop := Claim7.holds Tryz.pinned (.plain (OpenSpec.ofChange stanEchoesSpec)) stanEchoesCard

/-- THE TIED CARD OF 'turnstilelaw18.StanDealt'. -/
def stanDealtCard : Claim7 := { stood := { row := stanDealtRow, standIns := [], harness := (true, "7ed23222e29baf0bfda02fa80ae8ce0f382fc47ad5a822896789350d936ecf72"), looks := false }, kinds := [], alts := [], laidByText := true, laidKinds := [.data, .data, .data], laidTests := true, laidLooks := .later }
def StanDealtCardSaid : Prop := Claim7.holds Tryz.pinned (.plain (OpenSpec.ofChange stanDealtSpec)) stanDealtCard

/-- THE TIED CARD OF 'turnstilelaw18.StanTells'. -/
def stanTellsCard : Claim7 := { stood := { row := stanTellsRow, standIns := [], harness := (true, "7ed23222e29baf0bfda02fa80ae8ce0f382fc47ad5a822896789350d936ecf72"), looks := false }, kinds := [], alts := [], laidByText := true, laidKinds := [.data, .data, .data, .data], laidTests := true, laidLooks := .later }
def StanTellsCardSaid : Prop := Claim7.holds Tryz.pinned (.plain (OpenSpec.ofChange stanTellsSpec)) stanTellsCard

/-- THE TIED CARD OF 'turnstilelaw18.StanBack'. -/
def stanBackCard : Claim7 := { stood := { row := stanBackRow, standIns := [], harness := (true, "7ed23222e29baf0bfda02fa80ae8ce0f382fc47ad5a822896789350d936ecf72"), looks := false }, kinds := [], alts := [], laidByText := true, laidKinds := [.data, .data, .data], laidTests := true, laidLooks := .later }
def StanBackCardSaid : Prop := Claim7.holds Tryz.pinned (.plain (OpenSpec.ofChange stanBackSpec)) stanBackCard

/-- THE SECOND FORM's CARD OF 'turnstilelaw18.StanPlays'. -/
def stanPlaysUptoCard : Claim7 := { stood := { row := stanPlaysUptoRow, standIns := [], harness := (true, "7ed23222e29baf0bfda02fa80ae8ce0f382fc47ad5a822896789350d936ecf72"), looks := false }, kinds := [], alts := [], laidByText := true, laidKinds := [.data, .data, .data], laidTests := true, laidLooks := .later }
def StanPlaysUptoCardSaid : Prop := Claim7.holds Tryz.pinned (.plain (OpenSpec.upto stanPlaysSpec)) stanPlaysUptoCard

/-- THE SECOND FORM's CARD OF 'turnstilelaw18.StanFields'. -/
def stanFieldsUptoCard : Claim7 := { stood := { row := stanFieldsUptoRow, standIns := [], harness := (true, "7ed23222e29baf0bfda02fa80ae8ce0f382fc47ad5a822896789350d936ecf72"), looks := false }, kinds := [], alts := [], laidByText := true, laidKinds := [.data, .data, .data, .data], laidTests := true, laidLooks := .later }
def StanFieldsUptoCardSaid : Prop := Claim7.holds Tryz.pinned (.plain (OpenSpec.upto stanFieldsSpec)) stanFieldsUptoCard

/-- THE SECOND FORM's CARD OF 'turnstilelaw18.StanEchoes'. -/
def stanEchoesUptoCard : Claim7 := { stood := { row := stanEchoesUptoRow, standIns := [], harness := (true, "7ed23222e29baf0bfda02fa80ae8ce0f382fc47ad5a822896789350d936ecf72"), looks := false }, kinds := [], alts := [], laidByText := true, laidKinds := [.data, .data, .data], laidTests := true, laidLooks := .later }
def StanEchoesUptoCardSaid : Prop := Claim7.holds Tryz.pinned (.plain (OpenSpec.upto stanEchoesSpec)) stanEchoesUptoCard

/-- THE SECOND FORM's CARD OF 'turnstilelaw18.StanDealt'. -/
def stanDealtUptoCard : Claim7 := { stood := { row := stanDealtUptoRow, standIns := [], harness := (true, "7ed23222e29baf0bfda02fa80ae8ce0f382fc47ad5a822896789350d936ecf72"), looks := false }, kinds := [], alts := [], laidByText := true, laidKinds := [.data, .data, .data], laidTests := true, laidLooks := .later }
def StanDealtUptoCardSaid : Prop := Claim7.holds Tryz.pinned (.plain (OpenSpec.upto stanDealtSpec)) stanDealtUptoCard

/-- THE SECOND FORM's CARD OF 'turnstilelaw18.StanTells'. -/
def stanTellsUptoCard : Claim7 := { stood := { row := stanTellsUptoRow, standIns := [], harness := (true, "7ed23222e29baf0bfda02fa80ae8ce0f382fc47ad5a822896789350d936ecf72"), looks := false }, kinds := [], alts := [], laidByText := true, laidKinds := [.data, .data, .data, .data], laidTests := true, laidLooks := .later }
def StanTellsUptoCardSaid : Prop := Claim7.holds Tryz.pinned (.plain (OpenSpec.upto stanTellsSpec)) stanTellsUptoCard

/-- THE SECOND FORM's CARD OF 'turnstilelaw18.StanBack'. -/
def stanBackUptoCard : Claim7 := { stood := { row := stanBackUptoRow, standIns := [], harness := (true, "7ed23222e29baf0bfda02fa80ae8ce0f382fc47ad5a822896789350d936ecf72"), looks := false }, kinds := [], alts := [], laidByText := true, laidKinds := [.data, .data, .data], laidTests := true, laidLooks := .later }
def StanBackUptoCardSaid : Prop := Claim7.holds Tryz.pinned (.plain (OpenSpec.upto stanBackSpec)) stanBackUptoCard
end Rows
end Go.Proofs.YtmnoplaepjaokaaGreatDoor
