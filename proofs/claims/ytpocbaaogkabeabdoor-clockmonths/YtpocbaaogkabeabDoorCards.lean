/-
  DERIVED. GIVEN WITH THE SEED: THE CARDS: each row of YtpocbaaogkabeabDoorRows.lean that lists a variable, with what it lists TIED to the program's text (the seventh form; the later family's looks); each row that meets fmt, with fmt's text TOLD by the authors' own Lean function (tested against real Go, not proved from fmt's source: count such statements apart). THE CARD IS WHAT COUNTS. Prove the row's statement (the work); the ties are given (YtpocbaaogkabeabDoorTie.lean); close each card by the builder's one call (the guide's Derived/Test/ToyasCard.lean, 'card_holds'). Laid BY PROGRAM, IN A SANDBOX (cutbox-door.mjs). By AI agents, Wed Nov 11 2026. No macro, syntax, notation, axiom, sorry.
-/
import Derived.Test.YtpocbaaogkabeabDoorRows
import GoSem.ClaimSeven
namespace Go.Proofs.YtpocbaaogkabeabDoor
namespace Rows

/-- THE TIED CARD OF 'turnstilelaw8.ClockNearest'. -/
def clockNearestCard : Claim7 := { stood := { row := clockNearestRow, standIns := [], harness := (true, "0483820281a26f6c1a70ad9c0c0a377cae4f91d83a708bc789deb5aa8b1ab3d7"), looks := false }, kinds := [], alts := [], laidByText := true, laidKinds := [.data], laidTests := true, laidLooks := .later }
def ClockNearestCardSaid : Prop := Claim7.holds Tryd.pinned (.plain (OpenSpec.ofChange clockNearestSpec)) clockNearestCard

/-- THE TIED CARD OF 'turnstilelaw8.ClockMonths'. -/
def clockMonthsCard : Claim7 := { stood := { row := clockMonthsRow, standIns := [], harness := (true, "0483820281a26f6c1a70ad9c0c0a377cae4f91d83a708bc789deb5aa8b1ab3d7"), looks := false }, kinds := [], alts := [], laidByText := true, laidKinds := [.data], laidTests := true, laidLooks := .later }
def ClockMonthsCardSaid : Prop := Claim7.holds Tryd.pinned (.plain (OpenSpec.ofChange clockMonthsSpec)) clockMonthsCard

/-- THE SECOND FORM's CARD OF 'turnstilelaw8.ClockNearest'. -/
def clockNearestUptoCard : Claim7 := { stood := { row := clockNearestUptoRow, standIns := [], harness := (true, "0483820281a26f6c1a70ad9c0c0a377cae4f91d83a708bc789deb5aa8b1ab3d7"), looks := false }, kinds := [], alts := [], laidByText := true, laidKinds := [.data], laidTests := true, laidLooks := .later }
def ClockNearestUptoCardSaid : Prop := Claim7.holds Tryd.pinned (.plain (OpenSpec.upto clockNearestSpec)) clockNearestUptoCard

/-- THE SECOND FORM's CARD OF 'turnstilelaw8.ClockMonths'. -/
def clockMonthsUptoCard : Claim7 := { stood := { row := clockMonthsUptoRow, standIns := [], harness := (true, "0483820281a26f6c1a70ad9c0c0a377cae4f91d83a708bc789deb5aa8b1ab3d7"), looks := false }, kinds := [], alts := [], laidByText := true, laidKinds := [.data], laidTests := true, laidLooks := .later }
def ClockMonthsUptoCardSaid : Prop := Claim7.holds Tryd.pinned (.plain (OpenSpec.upto clockMonthsSpec)) clockMonthsUptoCard
end Rows
end Go.Proofs.YtpocbaaogkabeabDoor
