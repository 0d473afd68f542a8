/-
  DERIVED. GIVEN WITH THE SEED: THE CARDS: each row of YtecboaocoobjgaaGreatDoorRows.lean that lists a variable, with what it lists TIED to the program's text (the seventh form; the later family's looks); each row that meets fmt, with fmt's text TOLD by the authors' own Lean function (tested against real Go, not proved from fmt's source: count such statements apart). THE CARD IS WHAT COUNTS. Prove the row's statement (the work); the ties are given (YtecboaocoobjgaaGreatDoorTie.lean); close each card by the builder's one call (the guide's Derived/Test/ToyasCard.lean, 'card_holds'). Laid BY PROGRAM, IN A SANDBOX (cutbox-door.mjs). By AI agents, Wed Nov 11 2026. No macro, syntax, notation, axiom, sorry.
-/
import Derived.Test.YtecboaocoobjgaaGreatDoorRows
import GoSem.ClaimSeven
namespace Go.Proofs.YtecboaocoobjgaaGreatDoor
namespace Rows

/-- THE TIED CARD OF 'turnstilelaw15.RouteTries'. -/
def routeTriesCard : Claim7 := { stood := { row := routeTriesRow, standIns := [], harness := (true, "eb490e1b6c252b0f37c24929b4c5d2965a91a26184bc27bc4925bf8a201bb4ce"), looks := false }, kinds := [], alts := [], laidByText := true, laidKinds := [.data, .data, .data, .data, .data], laidTests := true, laidLooks := .later }
def RouteTriesCardSaid : Prop := Claim7.holds Tryz.pinned (.plain (OpenSpec.ofChange routeTriesSpec)) routeTriesCard

/-- THE SECOND FORM's CARD OF 'turnstilelaw15.RouteTries'. -/
def routeTriesUptoCard : Claim7 := { stood := { row := routeTriesUptoRow, standIns := [], harness := (true, "eb490e1b6c252b0f37c24929b4c5d2965a91a26184bc27bc4925bf8a201bb4ce"), looks := false }, kinds := [], alts := [], laidByText := true, laidKinds := [.data, .data, .data, .data, .data], laidTests := true, laidLooks := .later }
def RouteTriesUptoCardSaid : Prop := Claim7.holds Tryz.pinned (.plain (OpenSpec.upto routeTriesSpec)) routeTriesUptoCard
end Rows
end Go.Proofs.YtecboaocoobjgaaGreatDoor
