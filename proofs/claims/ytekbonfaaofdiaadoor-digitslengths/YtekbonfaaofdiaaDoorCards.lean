/-
  DERIVED. GIVEN WITH THE SEED: THE CARDS: each row of YtekbonfaaofdiaaDoorRows.lean that lists a variable, with what it lists TIED to the program's text (the seventh form; the later family's looks); each row that meets fmt, with fmt's text TOLD by the authors' own Lean function (tested against real Go, not proved from fmt's source: count such statements apart). THE CARD IS WHAT COUNTS. Prove the row's statement (the work); the ties are given (YtekbonfaaofdiaaDoorTie.lean); close each card by the builder's one call (the guide's Derived/Test/ToyasCard.lean, 'card_holds'). Laid BY PROGRAM, IN A SANDBOX (cutbox-door.mjs). By AI agents, Wed Nov 11 2026. No macro, syntax, notation, axiom, sorry.
-/
import Derived.Test.YtekbonfaaofdiaaDoorRows
import GoSem.ClaimSeven
namespace Go.Proofs.YtekbonfaaofdiaaDoor
namespace Rows

/-- THE TIED CARD OF 'turnstilelaw1.DigitsPacks'. -/
def digitsPacksCard : Claim7 := { stood := { row := digitsPacksRow, standIns := [], harness := (true, "332ddd619dbfc97a339d90755b04b8d911b5ed504155c2f055d82de7c961e66d"), looks := false }, kinds := [], alts := [], laidByText := true, laidKinds := [.data], laidTests := true, laidLooks := .later }
def DigitsPacksCardSaid : Prop := Claim7.holds Tryd.pinned (.plain (OpenSpec.ofChange digitsPacksSpec)) digitsPacksCard

/-- THE TIED CARD OF 'turnstilelaw1.DigitsUnpacks'. -/
def digitsUnpacksCard : Claim7 := { stood := { row := digitsUnpacksRow, standIns := [], harness := (true, "332ddd619dbfc97a339d90755b04b8d911b5ed504155c2f055d82de7c961e66d"), looks := false }, kinds := [], alts := [], laidByText := true, laidKinds := [.data], laidTests := true, laidLooks := .later }
def DigitsUnpacksCardSaid : Prop := Claim7.holds Tryd.pinned (.plain (OpenSpec.ofChange digitsUnpacksSpec)) digitsUnpacksCard

/-- THE TIED CARD OF 'turnstilelaw1.DigitsNumbers'. -/
def digitsNumbersCard : Claim7 := { stood := { row := digitsNumbersRow, standIns := [], harness := (true, "332ddd619dbfc97a339d90755b04b8d911b5ed504155c2f055d82de7c961e66d"), looks := false }, kinds := [], alts := [], laidByText := true, laidKinds := [.data, .data, .data], laidTests := true, laidLooks := .later }
def DigitsNumbersCardSaid : Prop := Claim7.holds Tryd.pinned (.plain (OpenSpec.ofChange digitsNumbersSpec)) digitsNumbersCard

/-- THE TIED CARD OF 'turnstilelaw1.DigitsPrefixes'. -/
def digitsPrefixesCard : Claim7 := { stood := { row := digitsPrefixesRow, standIns := [], harness := (true, "332ddd619dbfc97a339d90755b04b8d911b5ed504155c2f055d82de7c961e66d"), looks := false }, kinds := [], alts := [], laidByText := true, laidKinds := [.data, .data, .data, .data], laidTests := true, laidLooks := .later }
def DigitsPrefixesCardSaid : Prop := Claim7.holds Tryd.pinned (.plain (OpenSpec.ofChange digitsPrefixesSpec)) digitsPrefixesCard

/-- THE TIED CARD OF 'turnstilelaw1.DigitsLengths'. -/
def digitsLengthsCard : Claim7 := { stood := { row := digitsLengthsRow, standIns := [], harness := (true, "332ddd619dbfc97a339d90755b04b8d911b5ed504155c2f055d82de7c961e66d"), looks := false }, kinds := [], alts := [], laidByText := true, laidKinds := [.data, .data, .data, .data], laidTests := true, laidLooks := .later }
def DigitsLengthsCardSaid : Prop := Claim7.holds Tryd.pinned (.plain (OpenSpec.ofChange digitsLengthsSpec)) digitsLengthsCard

/-- THE SECOND FORM's CARD OF 'turnstilelaw1.DigitsPacks'. -/
def digitsPacksUptoCard : Claim7 := { stood := { row := digitsPacksUptoRow, standIns := [], harness := (true, "332ddd619dbfc97a339d90755b04b8d911b5ed504155c2f055d82de7c961e66d"), looks := false }, kinds := [], alts := [], laidByText := true, laidKinds := [.data], laidTests := true, laidLooks := .later }
def DigitsPacksUptoCardSaid : Prop := Claim7.holds Tryd.pinned (.plain (OpenSpec.upto digitsPacksSpec)) digitsPacksUptoCard

/-- THE SECOND FORM's CARD OF 'turnstilelaw1.DigitsUnpacks'. -/
def digitsUnpacksUptoCard : Claim7 := { stood := { row := digitsUnpacksUptoRow, standIns := [], harness := (true, "332ddd619dbfc97a339d90755b04b8d911b5ed504155c2f055d82de7c961e66d"), looks := false }, kinds := [], alts := [], laidByText := true, laidKinds := [.data], laidTests := true, laidLooks := .later }
def DigitsUnpacksUptoCardSaid : Prop := Claim7.holds Tryd.pinned (.plain (OpenSpec.upto digitsUnpacksSpec)) digitsUnpacksUptoCard

/-- THE SECOND FORM's CARD OF 'turnstilelaw1.DigitsNumbers'. -/
def digitsNumbersUptoCard : Claim7 := { stood := { row := digitsNumbersUptoRow, standIns := [], harness := (true, "332ddd619dbfc97a339d90755b04b8d911b5ed504155c2f055d82de7c961e66d"), looks := false }, kinds := [], alts := [], laidByText := true, laidKinds := [.data, .data, .data], laidTests := true, laidLooks := .later }
def DigitsNumbersUptoCardSaid : Prop := Claim7.holds Tryd.pinned (.plain (OpenSpec.upto digitsNumbersSpec)) digitsNumbersUptoCard

/-- THE SECOND FORM's CARD OF 'turnstilelaw1.DigitsPrefixes'. -/
def digitsPrefixesUptoCard : Claim7 := { stood := { row := digitsPrefixesUptoRow, standIns := [], harness := (true, "332ddd619dbfc97a339d90755b04b8d911b5ed504155c2f055d82de7c961e66d"), looks := false }, kinds := [], alts := [], laidByText := true, laidKinds := [.data, .data, .data, .data], laidTests := true, laidLooks := .later }
def DigitsPrefixesUptoCardSaid : Prop := Claim7.holds Tryd.pinned (.plain (OpenSpec.upto digitsPrefixesSpec)) digitsPrefixesUptoCard

/-- THE SECOND FORM's CARD OF 'turnstilelaw1.DigitsLengths'. -/
def digitsLengthsUptoCard : Claim7 := { stood := { row := digitsLengthsUptoRow, standIns := [], harness := (true, "332ddd619dbfc97a339d90755b04b8d911b5ed504155c2f055d82de7c961e66d"), looks := false }, kinds := [], alts := [], laidByText := true, laidKinds := [.data, .data, .data, .data], laidTests := true, laidLooks := .later }
def DigitsLengthsUptoCardSaid : Prop := Claim7.holds Tryd.pinned (.plain (OpenSpec.upto digitsLengthsSpec)) digitsLengthsUptoCard
end Rows
end Go.Proofs.YtekbonfaaofdiaaDoor
