/-
  NARROWER THAN 'FOR EVERY INPUT', by the rows' own cells (each row's printed sentence says how): ClockNearest: laid · ClockMonths: laid.
  DERIVED. THE GIVEN ROWS OF THIS SEAT. 2 by the template 'for every input the law returns true; each argument reads behind the call as it read before'; 0 by the template 'total and deterministic' (their statements: YtpocbaaogkabeabDoorTotals.lean).
  GIVEN WITH THE SEED: the statements are not yours to turn. If you find one false, say at which input.
  Laid BY PROGRAM, IN A SANDBOX (cutbox-rows.mjs): the forced cells as the released guide's own fill.sh prints them over the translation 2684517aa41d441c… (all of the seat's roots in one cut). By AI agents, Wed Nov 11 2026. No macro, syntax, notation, axiom, sorry.
-/
import Derived.Test.YtpocbaaogkabeabDoorChecked
import GoSem.Claim
import GoSem.ClaimJoined
import GoSem.ClaimMapViews
import Derived.JoinedTies
import Derived.KernelRfl
namespace Go.Proofs.YtpocbaaogkabeabDoor
/- THE CELL 'sum', in the pinned program and in every row, IS THE sha256 OF THE DUMP (.gsa) THAT YtpocbaaogkabeabDoorProg.lean LOADS. Nothing in Lean hashes anything: it is a label: what it is worth is what the hold of that sum in a sandbox is worth. -/
noncomputable def Tryd.pinned : Pinned := { name := "ytpocbaaogkabeabdoor", sum := "2684517aa41d441c43f82d753ed678a3c621dbe52d32d8bee66210a57fbe6fdd", checked := Tryd.checked }
namespace Rows
def none {H : Type} : Left H := { results := [], args := [] }

/- WHAT THE LISTED PACKAGE-LEVEL VARIABLES READ AS WHEN THE CALL BEGINS. Each datum BY PROGRAM (the guide's laid-datum.mjs) off the statement by which the dump's own 'gosem.cut.vars' lays the variable. In a bare row this is a premise. The card (YtpocbaaogkabeabDoorCards.lean) ties it to the program's text. -/
def laid_turnstile_clock_ahead {H : Type} : DataW H := .agg [.lit (.int .i64 0), .lit (.int .i64 31), .lit (.int .i64 59), .lit (.int .i64 90), .lit (.int .i64 120), .lit (.int .i64 151), .lit (.int .i64 181), .lit (.int .i64 212), .lit (.int .i64 243), .lit (.int .i64 273), .lit (.int .i64 304), .lit (.int .i64 334), .lit (.int .i64 365)]

/-- 'turnstilelaw8.ClockNearest': WHATEVER THE INPUT: true; the input reads as it did. -/
def clockNearestSpec : ChangeSpec := { name := "clockNearest", fn := fun _ => fun
  | [d1, d2] => { results := [.lit (.bool true)], args := [d1, d2] }
  | _ => none }
def clockNearestRow : OpenClaim := { program := "ytpocbaaogkabeabdoor", sum := "2684517aa41d441c43f82d753ed678a3c621dbe52d32d8bee66210a57fbe6fdd", func := "turnstile/turnstilelaw8.ClockNearest", spec := "clockNearest", named := ["turnstile/clock.ahead"], apart := false, laid := [("turnstile/clock.ahead", laid_turnstile_clock_ahead)] }
def ClockNearestSaid : Prop := clockNearestRow.holds Tryd.pinned (OpenSpec.ofChange clockNearestSpec)

/-- ITS FALSE NEIGHBOUR: 'it returns false'. Refute it at one input. -/
def clockNearestWrong : ChangeSpec := { name := "clockNearest", fn := fun _ => fun
  | [d1, d2] => { results := [.lit (.bool false)], args := [d1, d2] }
  | _ => none }
def ClockNearestWrongFalsely : Prop := clockNearestRow.holds Tryd.pinned (OpenSpec.ofChange clockNearestWrong)

/-- 'turnstilelaw8.ClockMonths': WHATEVER THE INPUT: true; the input reads as it did. -/
def clockMonthsSpec : ChangeSpec := { name := "clockMonths", fn := fun _ => fun
  | [d1, d2, d3, d4] => { results := [.lit (.bool true)], args := [d1, d2, d3, d4] }
  | _ => none }
def clockMonthsRow : OpenClaim := { program := "ytpocbaaogkabeabdoor", sum := "2684517aa41d441c43f82d753ed678a3c621dbe52d32d8bee66210a57fbe6fdd", func := "turnstile/turnstilelaw8.ClockMonths", spec := "clockMonths", named := ["turnstile/clock.ahead"], apart := false, laid := [("turnstile/clock.ahead", laid_turnstile_clock_ahead)] }
def ClockMonthsSaid : Prop := clockMonthsRow.holds Tryd.pinned (OpenSpec.ofChange clockMonthsSpec)

/-- ITS FALSE NEIGHBOUR: 'it returns false'. Refute it at one input. -/
def clockMonthsWrong : ChangeSpec := { name := "clockMonths", fn := fun _ => fun
  | [d1, d2, d3, d4] => { results := [.lit (.bool false)], args := [d1, d2, d3, d4] }
  | _ => none }
def ClockMonthsWrongFalsely : Prop := clockMonthsRow.holds Tryd.pinned (OpenSpec.ofChange clockMonthsWrong)

/- THE SECOND FORM. 'bulk': how many values and letters a reading holds, each counted each time it is reached (what is shared counts as often as it is met; a slice's spare places count too). A statement '..UptoSaid' is the law's where the arguments, and the package variables that the reading takes, are together of bulk at most 1048576: NARROWER than '..Said'. Prove '..Said' where nothing that the law and all that it calls make is longer than what came in: it says more and counts as full. Else prove '..UptoSaid'. A law counts once. -/
mutual
def uptoBulk {H : Type} : DataW H → Nat
  | .lit (.string bytes) => bytes.length + 1
  | .lit _ => 1
  | .nil => 1
  | .ptr d => uptoBulk d + 1
  | .slice elems spare => uptoBulkAll elems + uptoBulkAll spare + 1
  | .agg parts => uptoBulkAll parts + 1
  | .iface _ d => uptoBulk d + 1
  | .map entries => uptoBulkEntries entries + 1
  | .held _ => 1
def uptoBulkAll {H : Type} : List (DataW H) → Nat
  | [] => 0
  | d :: r => uptoBulk d + uptoBulkAll r
def uptoBulkEntries {H : Type} : List (Lit × DataW H) → Nat
  | [] => 0
  | x :: r => uptoBulkEntry x + uptoBulkEntries r
def uptoBulkEntry {H : Type} : Lit × DataW H → Nat
  | (.string bytes, d) => bytes.length + uptoBulk d + 1
  | (_, d) => uptoBulk d + 1
 end
def uptoSmall : (H : Type) → List (DataW H) → Bool := fun _ ds => decide (uptoBulkAll ds ≤ 1048576)
def OpenSpec.upto (s : _root_.Go.ChangeSpec) : _root_.Go.OpenSpec := { _root_.Go.OpenSpec.ofChange s with cond := some uptoSmall }

/-- 'turnstilelaw8.ClockNearest', WHERE WHAT IT READS IS OF BULK AT MOST 1048576: true; the input reads as it did. -/
def clockNearestUptoRow : OpenClaim := { program := "ytpocbaaogkabeabdoor", sum := "2684517aa41d441c43f82d753ed678a3c621dbe52d32d8bee66210a57fbe6fdd", func := "turnstile/turnstilelaw8.ClockNearest", spec := "clockNearest", named := ["turnstile/clock.ahead"], apart := false, laid := [("turnstile/clock.ahead", laid_turnstile_clock_ahead)], narrowed := true }
def ClockNearestUptoSaid : Prop := clockNearestUptoRow.holds Tryd.pinned (OpenSpec.upto clockNearestSpec)

/-- 'turnstilelaw8.ClockMonths', WHERE WHAT IT READS IS OF BULK AT MOST 1048576: true; the input reads as it did. -/
def clockMonthsUptoRow : OpenClaim := { program := "ytpocbaaogkabeabdoor", sum := "2684517aa41d441c43f82d753ed678a3c621dbe52d32d8bee66210a57fbe6fdd", func := "turnstile/turnstilelaw8.ClockMonths", spec := "clockMonths", named := ["turnstile/clock.ahead"], apart := false, laid := [("turnstile/clock.ahead", laid_turnstile_clock_ahead)], narrowed := true }
def ClockMonthsUptoSaid : Prop := clockMonthsUptoRow.holds Tryd.pinned (OpenSpec.upto clockMonthsSpec)

end Rows
end Go.Proofs.YtpocbaaogkabeabDoor
