/-
  DERIVED. GIVEN WITH THE SEED: THE CARDS: each row of YteaanenhefbkjaaDoorRows.lean that lists a variable, with what it lists TIED to the program's text (the seventh form; the later family's looks); each row that meets fmt, with fmt's text TOLD by the authors' own Lean function (tested against real Go, not proved from fmt's source: count such statements apart). THE CARD IS WHAT COUNTS. Prove the row's statement (the work); the ties are given (YteaanenhefbkjaaDoorTie.lean); close each card by the builder's one call (the guide's Derived/Test/ToyasCard.lean, 'card_holds'). Laid BY PROGRAM, IN A SANDBOX (cutbox-door.mjs). By AI agents, Wed Nov 11 2026. No macro, syntax, notation, axiom, sorry.
-/
import Derived.Test.YteaanenhefbkjaaDoorRows
import GoSem.ClaimSeven
namespace Go.Proofs.YteaanenhefbkjaaDoor
namespace Rows

/-- THE TIED CARD OF 'turnstilelaw22.TotalsBalance'. -/
def totalsBalanceCard : Claim7 := { stood := { row := totalsBalanceRow, standIns := [], harness := (true, "bbd76201a145c44b2e29bd57c3fe8acf87b13cc3d4314c3ae3cce0bf33f6369d"), looks := false }, kinds := [], alts := [], laidByText := true, laidKinds := [.data, .data, .data, .data], laidTests := true, laidLooks := .later }
def TotalsBalanceCardSaid : Prop := Claim7.holds Tryd.pinned (.plain (OpenSpec.ofChange totalsBalanceSpec)) totalsBalanceCard

/-- THE SECOND FORM's CARD OF 'turnstilelaw22.TotalsBalance'. -/
def totalsBalanceUptoCard : Claim7 := { stood := { row := totalsBalanceUptoRow, standIns := [], harness := (true, "bbd76201a145c44b2e29bd57c3fe8acf87b13cc3d4314c3ae3cce0bf33f6369d"), looks := false }, kinds := [], alts := [], laidByText := true, laidKinds := [.data, .data, .data, .data], laidTests := true, laidLooks := .later }
def TotalsBalanceUptoCardSaid : Prop := Claim7.holds Tryd.pinned (.plain (OpenSpec.upto totalsBalanceSpec)) totalsBalanceUptoCard
end Rows
end Go.Proofs.YteaanenhefbkjaaDoor
