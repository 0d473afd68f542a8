/-
  DERIVED. GIVEN WITH THE SEED: THE CARDS: each row of YtekbonfaaofdiabDoorRows.lean that lists a variable, with what it lists TIED to the program's text (the seventh form; the later family's looks); each row that meets fmt, with fmt's text TOLD by the authors' own Lean function (tested against real Go, not proved from fmt's source: count such statements apart). THE CARD IS WHAT COUNTS. Prove the row's statement (the work); the ties are given (YtekbonfaaofdiabDoorTie.lean); close each card by the builder's one call (the guide's Derived/Test/ToyasCard.lean, 'card_holds'). Laid BY PROGRAM, IN A SANDBOX (cutbox-door.mjs). By AI agents, Wed Nov 11 2026. No macro, syntax, notation, axiom, sorry.
-/
import Derived.Test.YtekbonfaaofdiabDoorRows
import GoSem.ClaimSeven
namespace Go.Proofs.YtekbonfaaofdiabDoor
namespace Rows

/-- THE TIED CARD OF 'turnstilelaw1.DigitsBack'. -/
def digitsBackCard : Claim7 := { stood := { row := digitsBackRow, standIns := [], harness := (true, "a26e7be97aa3858a016f9b972f3d78389747ebdb53fb4b785c0940543b71a6eb"), looks := false }, kinds := [], alts := [], laidByText := true, laidKinds := [.data], laidTests := true, laidLooks := .later }
def DigitsBackCardSaid : Prop := Claim7.holds Tryd.pinned (.plain (OpenSpec.ofChange digitsBackSpec)) digitsBackCard

/-- THE TIED CARD OF 'turnstilelaw1.DigitsForms'. -/
def digitsFormsCard : Claim7 := { stood := { row := digitsFormsRow, standIns := [], harness := (true, "a26e7be97aa3858a016f9b972f3d78389747ebdb53fb4b785c0940543b71a6eb"), looks := false }, kinds := [], alts := [], laidByText := true, laidKinds := [.data], laidTests := true, laidLooks := .later }
def DigitsFormsCardSaid : Prop := Claim7.holds Tryd.pinned (.plain (OpenSpec.ofChange digitsFormsSpec)) digitsFormsCard

/-- THE TIED CARD OF 'turnstilelaw1.DigitsLetters'. -/
def digitsLettersCard : Claim7 := { stood := { row := digitsLettersRow, standIns := [], harness := (true, "a26e7be97aa3858a016f9b972f3d78389747ebdb53fb4b785c0940543b71a6eb"), looks := false }, kinds := [], alts := [], laidByText := true, laidKinds := [.data], laidTests := true, laidLooks := .later }
def DigitsLettersCardSaid : Prop := Claim7.holds Tryd.pinned (.plain (OpenSpec.ofChange digitsLettersSpec)) digitsLettersCard

/-- THE TIED CARD OF 'turnstilelaw1.DigitsMeasured'. -/
def digitsMeasuredCard : Claim7 := { stood := { row := digitsMeasuredRow, standIns := [], harness := (true, "a26e7be97aa3858a016f9b972f3d78389747ebdb53fb4b785c0940543b71a6eb"), looks := false }, kinds := [], alts := [], laidByText := true, laidKinds := [.data, .data, .data, .data], laidTests := true, laidLooks := .later }
def DigitsMeasuredCardSaid : Prop := Claim7.holds Tryd.pinned (.plain (OpenSpec.ofChange digitsMeasuredSpec)) digitsMeasuredCard

/-- THE SECOND FORM's CARD OF 'turnstilelaw1.DigitsBack'. -/
def digitsBackUptoCard : Claim7 := { stood := { row := digitsBackUptoRow, standIns := [], harness := (true, "a26e7be97aa3858a016f9b972f3d78389747ebdb53fb4b785c0940543b71a6eb"), looks := false }, kinds := [], alts := [], laidByText := true, laidKinds := [.data], laidTests := true, laidLooks := .later }
def DigitsBackUptoCardSaid : Prop := Claim7.holds Tryd.pinned (.plain (OpenSpec.upto digitsBackSpec)) digitsBackUptoCard

/-- THE SECOND FORM's CARD OF 'turnstilelaw1.DigitsForms'. -/
def digitsFormsUptoCard : Claim7 := { stood := { row := digitsFormsUptoRow, standIns := [], harness := (true, "a26e7be97aa3858a016f9b972f3d78389747ebdb53fb4b785c0940543b71a6eb"), looks := false }, kinds := [], alts := [], laidByText := true, laidKinds := [.data], laidTests := true, laidLooks := .later }
def DigitsFormsUptoCardSaid : Prop := Claim7.holds Tryd.pinned (.plain (OpenSpec.upto digitsFormsSpec)) digitsFormsUptoCard

/-- THE SECOND FORM's CARD OF 'turnstilelaw1.DigitsLetters'. -/
def digitsLettersUptoCard : Claim7 := { stood := { row := digitsLettersUptoRow, standIns := [], harness := (true, "a26e7be97aa3858a016f9b972f3d78389747ebdb53fb4b785c0940543b71a6eb"), looks := false }, kinds := [], alts := [], laidByText := true, laidKinds := [.data], laidTests := true, laidLooks := .later }
def DigitsLettersUptoCardSaid : Prop := Claim7.holds Tryd.pinned (.plain (OpenSpec.upto digitsLettersSpec)) digitsLettersUptoCard

/-- THE SECOND FORM's CARD OF 'turnstilelaw1.DigitsMeasured'. -/
def digitsMeasuredUptoCard : Claim7 := { stood := { row := digitsMeasuredUptoRow, standIns := [], harness := (true, "a26e7be97aa3858a016f9b972f3d78389747ebdb53fb4b785c0940543b71a6eb"), looks := false }, kinds := [], alts := [], laidByText := true, laidKinds := [.data, .data, .data, .data], laidTests := true, laidLooks := .later }
def DigitsMeasuredUptoCardSaid : Prop := Claim7.holds Tryd.pinned (.plain (OpenSpec.upto digitsMeasuredSpec)) digitsMeasuredUptoCard
end Rows
end Go.Proofs.YtekbonfaaofdiabDoor
