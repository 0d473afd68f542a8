/-
  DERIVED. GIVEN WITH THE SEED: THE CARDS: each row of YtmgnmkolijaidaaDoorRows.lean that lists a variable, with what it lists TIED to the program's text (the seventh form; the later family's looks); each row that meets fmt, with fmt's text TOLD by the authors' own Lean function (tested against real Go, not proved from fmt's source: count such statements apart). THE CARD IS WHAT COUNTS. Prove the row's statement (the work); the ties are given (YtmgnmkolijaidaaDoorTie.lean); close each card by the builder's one call (the guide's Derived/Test/ToyasCard.lean, 'card_holds'). Laid BY PROGRAM, IN A SANDBOX (cutbox-door.mjs). By AI agents, Wed Nov 11 2026. No macro, syntax, notation, axiom, sorry.
-/
import Derived.Test.YtmgnmkolijaidaaDoorRows
import GoSem.ClaimSeven
namespace Go.Proofs.YtmgnmkolijaidaaDoor
namespace Rows

/-- THE TIED CARD OF 'turnstilelaw1.DigitsMeasured'. -/
def digitsMeasuredCard : Claim7 := { stood := { row := digitsMeasuredRow, standIns := [], harness := (true, "bb73c81035360690f0b968e078912e3e62b161056534e979cee61c9b496c7c8f"), looks := false }, kinds := [], alts := [], laidByText := true, laidKinds := [.data, .data, .data, .data], laidTests := true, laidLooks := .later }
def DigitsMeasuredCardSaid : Prop := Claim7.holds Tryd.pinned (.plain (OpenSpec.ofChange digitsMeasuredSpec)) digitsMeasuredCard

/-- THE SECOND FORM's CARD OF 'turnstilelaw1.DigitsMeasured'. -/
def digitsMeasuredUptoCard : Claim7 := { stood := { row := digitsMeasuredUptoRow, standIns := [], harness := (true, "bb73c81035360690f0b968e078912e3e62b161056534e979cee61c9b496c7c8f"), looks := false }, kinds := [], alts := [], laidByText := true, laidKinds := [.data, .data, .data, .data], laidTests := true, laidLooks := .later }
def DigitsMeasuredUptoCardSaid : Prop := Claim7.holds Tryd.pinned (.plain (OpenSpec.upto digitsMeasuredSpec)) digitsMeasuredUptoCard
end Rows
end Go.Proofs.YtmgnmkolijaidaaDoor
