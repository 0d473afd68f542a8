/-
  DERIVED. GIVEN WITH THE SEED: THE CARDS: each row of YtheeicjoblkfnaaGreatDoorRows.lean that lists a variable, with what it lists TIED to the program's text (the seventh form; the later family's looks); each row that meets fmt, with fmt's text TOLD by the authors' own Lean function (tested against real Go, not proved from fmt's source: count such statements apart). THE CARD IS WHAT COUNTS. Prove the row's statement (the work); the ties are given (YtheeicjoblkfnaaGreatDoorTie.lean); close each card by the builder's one call (the guide's Derived/Test/ToyasCard.lean, 'card_holds'). Laid BY PROGRAM, IN A SANDBOX (cutbox-door.mjs). By AI agents, Wed Nov 11 2026. No macro, syntax, notation, axiom, sorry.
-/
import Derived.Test.YtheeicjoblkfnaaGreatDoorRows
import GoSem.ClaimSeven
namespace Go.Proofs.YtheeicjoblkfnaaGreatDoor
namespace Rows

/-- THE TIED CARD OF 'turnstilelaw15.RouteTries'. -/
def routeTriesCard : Claim7 := { stood := { row := routeTriesRow, standIns := [], harness := (true, "1d791e839a20774b54c6a6d24cbe697603fe62d1cf9bb8bbd885b4d18fe9ecf5"), looks := false }, kinds := [], alts := [], laidByText := true, laidKinds := [.data, .data, .data, .data, .data], laidTests := true, laidLooks := .later }
def RouteTriesCardSaid : Prop := Claim7.holds Tryz.pinned (.plain (OpenSpec.ofChange routeTriesSpec)) routeTriesCard

/-- THE TIED CARD OF 'turnstilelaw15.RouteChooses'. -/
def routeChoosesCard : Claim7 := { stood := { row := routeChoosesRow, standIns := [], harness := (true, "1d791e839a20774b54c6a6d24cbe697603fe62d1cf9bb8bbd885b4d18fe9ecf5"), looks := false }, kinds := [], alts := [], laidByText := true, laidKinds := [.data, .data, .data, .data, .data], laidTests := true, laidLooks := .later }
def RouteChoosesCardSaid : Prop := Claim7.holds Tryz.pinned (.plain (OpenSpec.ofChange routeChoosesSpec)) routeChoosesCard

/-- THE TIED CARD OF 'turnstilelaw15.RouteRights'. -/
def routeRightsCard : Claim7 := { stood := { row := routeRightsRow, standIns := [], harness := (true, "1d791e839a20774b54c6a6d24cbe697603fe62d1cf9bb8bbd885b4d18fe9ecf5"), looks := false }, kinds := [], alts := [], laidByText := true, laidKinds := [.data, .data, .data, .data, .data], laidTests := true, laidLooks := .later }
def RouteRightsCardSaid : Prop := Claim7.holds Tryz.pinned (.plain (OpenSpec.ofChange routeRightsSpec)) routeRightsCard

/-- THE TIED CARD OF 'turnstilelaw15.RouteFinds'. -/
def routeFindsCard : Claim7 := { stood := { row := routeFindsRow, standIns := [], harness := (true, "1d791e839a20774b54c6a6d24cbe697603fe62d1cf9bb8bbd885b4d18fe9ecf5"), looks := false }, kinds := [], alts := [], laidByText := true, laidKinds := [.data, .data, .data, .data, .data], laidTests := true, laidLooks := .later }
def RouteFindsCardSaid : Prop := Claim7.holds Tryz.pinned (.plain (OpenSpec.ofChange routeFindsSpec)) routeFindsCard

/-- THE TIED CARD OF 'turnstilelaw15.RouteOrder'. -/
def routeOrderCard : Claim7 := { stood := { row := routeOrderRow, standIns := [], harness := (true, "1d791e839a20774b54c6a6d24cbe697603fe62d1cf9bb8bbd885b4d18fe9ecf5"), looks := false }, kinds := [], alts := [], laidByText := true, laidKinds := [.data, .data, .data, .data, .data], laidTests := true, laidLooks := .later }
def RouteOrderCardSaid : Prop := Claim7.holds Tryz.pinned (.plain (OpenSpec.ofChange routeOrderSpec)) routeOrderCard

/-- THE TIED CARD OF 'turnstilelaw15.RouteBreaks'. -/
def routeBreaksCard : Claim7 := { stood := { row := routeBreaksRow, standIns := [], harness := (true, "1d791e839a20774b54c6a6d24cbe697603fe62d1cf9bb8bbd885b4d18fe9ecf5"), looks := false }, kinds := [], alts := [], laidByText := true, laidKinds := [.data, .data, .data, .data, .data], laidTests := true, laidLooks := .later }
def RouteBreaksCardSaid : Prop := Claim7.holds Tryz.pinned (.plain (OpenSpec.ofChange routeBreaksSpec)) routeBreaksCard

/-- THE SECOND FORM's CARD OF 'turnstilelaw15.RouteTries'. -/
def routeTriesUptoCard : Claim7 := { stood := { row := routeTriesUptoRow, standIns := [], harness := (true, "1d791e839a20774b54c6a6d24cbe697603fe62d1cf9bb8bbd885b4d18fe9ecf5"), looks := false }, kinds := [], alts := [], laidByText := true, laidKinds := [.data, .data, .data, .data, .data], laidTests := true, laidLooks := .later }
def RouteTriesUptoCardSaid : Prop := Claim7.holds Tryz.pinned (.plain (OpenSpec.upto routeTriesSpec)) routeTriesUptoCard

/-- THE SECOND FORM's CARD OF 'turnstilelaw15.RouteChooses'. -/
def routeChoosesUptoCard : Claim7 := { stood := { row := routeChoosesUptoRow, standIns := [], harness := (true, "1d791e839a20774b54c6a6d24cbe697603fe62d1cf9bb8bbd885b4d18fe9ecf5"), looks := false }, kinds := [], alts := [], laidByText := true, laidKinds := [.data, .data, .data, .data, .data], laidTests := true, laidLooks := .later }
def RouteChoosesUptoCardSaid : Prop := Claim7.holds Tryz.pinned (.plain (OpenSpec.upto routeChoosesSpec)) routeChoosesUptoCard

/-- THE SECOND FORM's CARD OF 'turnstilelaw15.RouteRights'. -/
def routeRightsUptoCard : Claim7 := { stood := { row := routeRightsUptoRow, standIns := [], harness := (true, "1d791e839a20774b54c6a6d24cbe697603fe62d1cf9bb8bbd885b4d18fe9ecf5"), looks := false }, kinds := [], alts := [], laidByText := true, laidKinds := [.data, .data, .data, .data, .data], laidTests := true, laidLooks := .later }
def RouteRightsUptoCardSaid : Prop := Claim7.holds Tryz.pinned (.plain (OpenSpec.upto routeRightsSpec)) routeRightsUptoCard

/-- THE SECOND FORM's CARD OF 'turnstilelaw15.RouteFinds'. -/
def routeFindsUptoCard : Claim7 := { stood := { row := routeFindsUptoRow, standIns := [], harness := (true, "1d791e839a20774b54c6a6d24cbe697603fe62d1cf9bb8bbd885b4d18fe9ecf5"), looks := false }, kinds := [], alts := [], laidByText := true, laidKinds := [.data, .data, .data, .data, .data], laidTests := true, laidLooks := .later }
def RouteFindsUptoCardSaid : Prop := Claim7.holds Tryz.pinned (.plain (OpenSpec.upto routeFindsSpec)) routeFindsUptoCard

/-- THE SECOND FORM's CARD OF 'turnstilelaw15.RouteOrder'. -/
def routeOrderUptoCard : Claim7 := { stood := { row := routeOrderUptoRow, standIns := [], harness := (true, "1d791e839a20774b54c6a6d24cbe697603fe62d1cf9bb8bbd885b4d18fe9ecf5"), looks := false }, kinds := [], alts := [], laidByText := true, laidKinds := [.data, .data, .data, .data, .data], laidTests := true, laidLooks := .later }
def RouteOrderUptoCardSaid : Prop := Claim7.holds Tryz.pinned (.plain (OpenSpec.upto routeOrderSpec)) routeOrderUptoCard

/-- THE SECOND FORM's CARD OF 'turnstilelaw15.RouteBreaks'. -/
def routeBreaksUptoCard : Claim7 := { stood := { row := routeBreaksUptoRow, standIns := [], harness := (true, "1d791e839a20774b54c6a6d24cbe697603fe62d1cf9bb8bbd885b4d18fe9ecf5"), looks := false }, kinds := [], alts := [], laidByText := true, laidKinds := [.data, .data, .data, .data, .data], laidTests := true, laidLooks := .later }
def RouteBreaksUptoCardSaid : Prop := Claim7.holds Tryz.pinned (.plain (OpenSpec.upto routeBreaksSpec)) routeBreaksUptoCard
end Rows
end Go.Proofs.YtheeicjoblkfnaaGreatDoor
