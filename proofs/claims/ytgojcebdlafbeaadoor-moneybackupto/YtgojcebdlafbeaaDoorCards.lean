/-
  DERIVED. GIVEN WITH THE SEED: THE CARDS: each row of YtgojcebdlafbeaaDoorRows.lean that lists a variable, with what it lists TIED to the program's text (the seventh form; the later family's looks); each row that meets fmt, with fmt's text TOLD by the authors' own Lean function (tested against real Go, not proved from fmt's source: count such statements apart). THE CARD IS WHAT COUNTS. Prove the row's statement (the work); the ties are given (YtgojcebdlafbeaaDoorTie.lean); close each card by the builder's one call (the guide's Derived/Test/ToyasCard.lean, 'card_holds'). Laid BY PROGRAM, IN A SANDBOX (cutbox-door.mjs). By AI agents, Wed Nov 11 2026. No macro, syntax, notation, axiom, sorry.
-/
import Derived.Test.YtgojcebdlafbeaaDoorRows
import GoSem.ClaimSeven
namespace Go.Proofs.YtgojcebdlafbeaaDoor
namespace Rows

/-- THE TIED CARD OF 'turnstilelaw7.MoneyShows'. -/
def moneyShowsCard : Claim7 := { stood := { row := moneyShowsRow, standIns := [], harness := (true, "b9a5079a0175f4e3f1fecad654ea11b54cd15bae731cf678d688d5df799ceb42"), looks := true }, kinds := [], alts := [], laidByText := true, laidKinds := [.data, .data, .data, .data, .sentinel, .sentinel, .pinned], laidTests := true, laidLooks := .later }
def MoneyShowsCardSaid : Prop := Claim7.holds Tryd.pinned (.plain (OpenSpec.ofChange moneyShowsSpec)) moneyShowsCard

/-- THE TIED CARD OF 'turnstilelaw7.MoneyBack'. -/
def moneyBackCard : Claim7 := { stood := { row := moneyBackRow, standIns := [], harness := (true, "b9a5079a0175f4e3f1fecad654ea11b54cd15bae731cf678d688d5df799ceb42"), looks := true }, kinds := [], alts := [], laidByText := true, laidKinds := [.data, .data, .data, .data, .sentinel, .sentinel, .pinned], laidTests := true, laidLooks := .later }
def MoneyBackCardSaid : Prop := Claim7.holds Tryd.pinned (.plain (OpenSpec.ofChange moneyBackSpec)) moneyBackCard

/-- THE SECOND FORM's CARD OF 'turnstilelaw7.MoneyShows'. -/
def moneyShowsUptoCard : Claim7 := { stood := { row := moneyShowsUptoRow, standIns := [], harness := (true, "b9a5079a0175f4e3f1fecad654ea11b54cd15bae731cf678d688d5df799ceb42"), looks := true }, kinds := [], alts := [], laidByText := true, laidKinds := [.data, .data, .data, .data, .sentinel, .sentinel, .pinned], laidTests := true, laidLooks := .later }
def MoneyShowsUptoCardSaid : Prop := Claim7.holds Tryd.pinned (.plain (OpenSpec.upto moneyShowsSpec)) moneyShowsUptoCard

/-- THE SECOND FORM's CARD OF 'turnstilelaw7.MoneyBack'. -/
def moneyBackUptoCard : Claim7 := { stood := { row := moneyBackUptoRow, standIns := [], harness := (true, "b9a5079a0175f4e3f1fecad654ea11b54cd15bae731cf678d688d5df799ceb42"), looks := true }, kinds := [], alts := [], laidByText := true, laidKinds := [.data, .data, .data, .data, .sentinel, .sentinel, .pinned], laidTests := true, laidLooks := .later }
def MoneyBackUptoCardSaid : Prop := Claim7.holds Tryd.pinned (.plain (OpenSpec.upto moneyBackSpec)) moneyBackUptoCard
end Rows
end Go.Proofs.YtgojcebdlafbeaaDoor
