/-
  DERIVED. GIVEN WITH THE SEED: THE CARDS: each row of YtpocbaaogkabeaaDoorRows.lean that lists a variable, with what it lists TIED to the program's text (the seventh form; the later family's looks); each row that meets fmt, with fmt's text TOLD by the authors' own Lean function (tested against real Go, not proved from fmt's source: count such statements apart). THE CARD IS WHAT COUNTS. Prove the row's statement (the work); the ties are given (YtpocbaaogkabeaaDoorTie.lean); close each card by the builder's one call (the guide's Derived/Test/ToyasCard.lean, 'card_holds'). Laid BY PROGRAM, IN A SANDBOX (cutbox-door.mjs). By AI agents, Wed Nov 11 2026. No macro, syntax, notation, axiom, sorry.
-/
import Derived.Test.YtpocbaaogkabeaaDoorRows
import GoSem.ClaimSeven
namespace Go.Proofs.YtpocbaaogkabeaaDoor
namespace Rows

/-- THE TIED CARD OF 'turnstilelaw8.ClockDates'. -/
def clockDatesCard : Claim7 := { stood := { row := clockDatesRow, standIns := [], harness := (true, "6012d7922b88962d143b361d28174904c2cd204c5e81596b286dd60c3f99f0f8"), looks := false }, kinds := [], alts := [], laidByText := true, laidKinds := [.data], laidTests := true, laidLooks := .later }
def ClockDatesCardSaid : Prop := Claim7.holds Tryd.pinned (.plain (OpenSpec.ofChange clockDatesSpec)) clockDatesCard

/-- THE TIED CARD OF 'turnstilelaw8.ClockTells'. -/
def clockTellsCard : Claim7 := { stood := { row := clockTellsRow, standIns := [], harness := (true, "6012d7922b88962d143b361d28174904c2cd204c5e81596b286dd60c3f99f0f8"), looks := false }, kinds := [], alts := [], laidByText := true, laidKinds := [.data], laidTests := true, laidLooks := .later }
def ClockTellsCardSaid : Prop := Claim7.holds Tryd.pinned (.plain (OpenSpec.ofChange clockTellsSpec)) clockTellsCard

/-- THE TIED CARD OF 'turnstilelaw8.ClockNear'. -/
def clockNearCard : Claim7 := { stood := { row := clockNearRow, standIns := [], harness := (true, "6012d7922b88962d143b361d28174904c2cd204c5e81596b286dd60c3f99f0f8"), looks := false }, kinds := [], alts := [], laidByText := true, laidKinds := [.data], laidTests := true, laidLooks := .later }
def ClockNearCardSaid : Prop := Claim7.holds Tryd.pinned (.plain (OpenSpec.ofChange clockNearSpec)) clockNearCard

/-- THE TIED CARD OF 'turnstilelaw8.ClockLast'. -/
def clockLastCard : Claim7 := { stood := { row := clockLastRow, standIns := [], harness := (true, "6012d7922b88962d143b361d28174904c2cd204c5e81596b286dd60c3f99f0f8"), looks := false }, kinds := [], alts := [], laidByText := true, laidKinds := [.data], laidTests := true, laidLooks := .later }
def ClockLastCardSaid : Prop := Claim7.holds Tryd.pinned (.plain (OpenSpec.ofChange clockLastSpec)) clockLastCard

/-- THE TIED CARD OF 'turnstilelaw8.ClockBack'. -/
def clockBackCard : Claim7 := { stood := { row := clockBackRow, standIns := [], harness := (true, "6012d7922b88962d143b361d28174904c2cd204c5e81596b286dd60c3f99f0f8"), looks := false }, kinds := [], alts := [], laidByText := true, laidKinds := [.data], laidTests := true, laidLooks := .later }
def ClockBackCardSaid : Prop := Claim7.holds Tryd.pinned (.plain (OpenSpec.ofChange clockBackSpec)) clockBackCard

/-- THE TIED CARD OF 'turnstilelaw8.ClockRises'. -/
def clockRisesCard : Claim7 := { stood := { row := clockRisesRow, standIns := [], harness := (true, "6012d7922b88962d143b361d28174904c2cd204c5e81596b286dd60c3f99f0f8"), looks := false }, kinds := [], alts := [], laidByText := true, laidKinds := [.data], laidTests := true, laidLooks := .later }
def ClockRisesCardSaid : Prop := Claim7.holds Tryd.pinned (.plain (OpenSpec.ofChange clockRisesSpec)) clockRisesCard

/-- THE SECOND FORM's CARD OF 'turnstilelaw8.ClockDates'. -/
def clockDatesUptoCard : Claim7 := { stood := { row := clockDatesUptoRow, standIns := [], harness := (true, "6012d7922b88962d143b361d28174904c2cd204c5e81596b286dd60c3f99f0f8"), looks := false }, kinds := [], alts := [], laidByText := true, laidKinds := [.data], laidTests := true, laidLooks := .later }
def ClockDatesUptoCardSaid : Prop := Claim7.holds Tryd.pinned (.plain (OpenSpec.upto clockDatesSpec)) clockDatesUptoCard

/-- THE SECOND FORM's CARD OF 'turnstilelaw8.ClockTells'. -/
def clockTellsUptoCard : Claim7 := { stood := { row := clockTellsUptoRow, standIns := [], harness := (true, "6012d7922b88962d143b361d28174904c2cd204c5e81596b286dd60c3f99f0f8"), looks := false }, kinds := [], alts := [], laidByText := true, laidKinds := [.data], laidTests := true, laidLooks := .later }
def ClockTellsUptoCardSaid : Prop := Claim7.holds Tryd.pinned (.plain (OpenSpec.upto clockTellsSpec)) clockTellsUptoCard

/-- THE SECOND FORM's CARD OF 'turnstilelaw8.ClockNear'. -/
def clockNearUptoCard : Claim7 := { stood := { row := clockNearUptoRow, standIns := [], harness := (true, "6012d7922b88962d143b361d28174904c2cd204c5e81596b286dd60c3f99f0f8"), looks := false }, kinds := [], alts := [], laidByText := true, laidKinds := [.data], laidTests := true, laidLooks := .later }
def ClockNearUptoCardSaid : Prop := Claim7.holds Tryd.pinned (.plain (OpenSpec.upto clockNearSpec)) clockNearUptoCard

/-- THE SECOND FORM's CARD OF 'turnstilelaw8.ClockLast'. -/
def clockLastUptoCard : Claim7 := { stood := { row := clockLastUptoRow, standIns := [], harness := (true, "6012d7922b88962d143b361d28174904c2cd204c5e81596b286dd60c3f99f0f8"), looks := false }, kinds := [], alts := [], laidByText := true, laidKinds := [.data], laidTests := true, laidLooks := .later }
def ClockLastUptoCardSaid : Prop := Claim7.holds Tryd.pinned (.plain (OpenSpec.upto clockLastSpec)) clockLastUptoCard

/-- THE SECOND FORM's CARD OF 'turnstilelaw8.ClockBack'. -/
def clockBackUptoCard : Claim7 := { stood := { row := clockBackUptoRow, standIns := [], harness := (true, "6012d7922b88962d143b361d28174904c2cd204c5e81596b286dd60c3f99f0f8"), looks := false }, kinds := [], alts := [], laidByText := true, laidKinds := [.data], laidTests := true, laidLooks := .later }
def ClockBackUptoCardSaid : Prop := Claim7.holds Tryd.pinned (.plain (OpenSpec.upto clockBackSpec)) clockBackUptoCard

/-- THE SECOND FORM's CARD OF 'turnstilelaw8.ClockRises'. -/
def clockRisesUptoCard : Claim7 := { stood := { row := clockRisesUptoRow, standIns := [], harness := (true, "6012d7922b88962d143b361d28174904c2cd204c5e81596b286dd60c3f99f0f8"), looks := false }, kinds := [], alts := [], laidByText := true, laidKinds := [.data], laidTests := true, laidLooks := .later }
def ClockRisesUptoCardSaid : Prop := Claim7.holds Tryd.pinned (.plain (OpenSpec.upto clockRisesSpec)) clockRisesUptoCard
end Rows
end Go.Proofs.YtpocbaaogkabeaaDoor
