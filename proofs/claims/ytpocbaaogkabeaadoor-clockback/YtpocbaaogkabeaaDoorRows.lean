/-
  NARROWER THAN 'FOR EVERY INPUT', by the rows' own cells (each row's printed sentence says how): ClockDates: laid · ClockTells: laid · ClockNear: laid · ClockLast: laid · ClockBack: laid · ClockRises: laid.
  DERIVED. THE GIVEN ROWS OF THIS SEAT. 6 by the template 'for every input the law returns true; each argument reads behind the call as it read before'; 0 by the template 'total and deterministic' (their statements: YtpocbaaogkabeaaDoorTotals.lean).
  GIVEN WITH THE SEED: the statements are not yours to turn. If you find one false, say at which input.
  Laid BY PROGRAM, IN A SANDBOX (cutbox-rows.mjs): the forced cells as the released guide's own fill.sh prints them over the translation 737465a6fc9e0c11… (all of the seat's roots in one cut). By AI agents, Wed Nov 11 2026. No macro, syntax, notation, axiom, sorry.
-/
import Derived.Test.YtpocbaaogkabeaaDoorChecked
import GoSem.Claim
import GoSem.ClaimJoined
import GoSem.ClaimMapViews
import Derived.JoinedTies
import Derived.KernelRfl
namespace Go.Proofs.YtpocbaaogkabeaaDoor
/- THE CELL 'sum', in the pinned program and in every row, IS THE sha256 OF THE DUMP (.gsa) THAT YtpocbaaogkabeaaDoorProg.lean LOADS. Nothing in Lean hashes anything: it is a label: what it is worth is what the hold of that sum in a sandbox is worth. -/
noncomputable def Tryd.pinned : Pinned := { name := "ytpocbaaogkabeaadoor", sum := "737465a6fc9e0c11f0337e6c8fccdef20c9836733c5946eecb398ed226f9af76", checked := Tryd.checked }
namespace Rows
def none {H : Type} : Left H := { results := [], args := [] }

/- WHAT THE LISTED PACKAGE-LEVEL VARIABLES READ AS WHEN THE CALL BEGINS. Each datum BY PROGRAM (the guide's laid-datum.mjs) off the statement by which the dump's own 'gosem.cut.vars' lays the variable. In a bare row this is a premise. The card (YtpocbaaogkabeaaDoorCards.lean) ties it to the program's text. -/
def laid_turnstile_clock_ahead {H : Type} : DataW H := .agg [.lit (.int .i64 0), .lit (.int .i64 31), .lit (.int .i64 59), .lit (.int .i64 90), .lit (.int .i64 120), .lit (.int .i64 151), .lit (.int .i64 181), .lit (.int .i64 212), .lit (.int .i64 243), .lit (.int .i64 273), .lit (.int .i64 304), .lit (.int .i64 334), .lit (.int .i64 365)]

/-- 'turnstilelaw8.ClockDates': WHATEVER THE INPUT: true; the input reads as it did. -/
def clockDatesSpec : ChangeSpec := { name := "clockDates", fn := fun _ => fun
  | [d1, d2] => { results := [.lit (.bool true)], args := [d1, d2] }
  | _ => none }
def clockDatesRow : OpenClaim := { program := "ytpocbaaogkabeaadoor", sum := "737465a6fc9e0c11f0337e6c8fccdef20c9836733c5946eecb398ed226f9af76", func := "turnstile/turnstilelaw8.ClockDates", spec := "clockDates", named := ["turnstile/clock.ahead"], apart := false, laid := [("turnstile/clock.ahead", laid_turnstile_clock_ahead)] }
def ClockDatesSaid : Prop := clockDatesRow.holds Tryd.pinned (OpenSpec.ofChange clockDatesSpec)

/-- ITS FALSE NEIGHBOUR: 'it returns false'. Refute it at one input. -/
def clockDatesWrong : ChangeSpec := { name := "clockDates", fn := fun _ => fun
  | [d1, d2] => { results := [.lit (.bool false)], args := [d1, d2] }
  | _ => none }
def ClockDatesWrongFalsely : Prop := clockDatesRow.holds Tryd.pinned (OpenSpec.ofChange clockDatesWrong)

/-- 'turnstilelaw8.ClockTells': WHATEVER THE INPUT: true; the input reads as it did. -/
def clockTellsSpec : ChangeSpec := { name := "clockTells", fn := fun _ => fun
  | [d1, d2] => { results := [.lit (.bool true)], args := [d1, d2] }
  | _ => none }
def clockTellsRow : OpenClaim := { program := "ytpocbaaogkabeaadoor", sum := "737465a6fc9e0c11f0337e6c8fccdef20c9836733c5946eecb398ed226f9af76", func := "turnstile/turnstilelaw8.ClockTells", spec := "clockTells", named := ["turnstile/clock.ahead"], apart := false, laid := [("turnstile/clock.ahead", laid_turnstile_clock_ahead)] }
def ClockTellsSaid : Prop := clockTellsRow.holds Tryd.pinned (OpenSpec.ofChange clockTellsSpec)

/-- ITS FALSE NEIGHBOUR: 'it returns false'. Refute it at one input. -/
def clockTellsWrong : ChangeSpec := { name := "clockTells", fn := fun _ => fun
  | [d1, d2] => { results := [.lit (.bool false)], args := [d1, d2] }
  | _ => none }
def ClockTellsWrongFalsely : Prop := clockTellsRow.holds Tryd.pinned (OpenSpec.ofChange clockTellsWrong)

/-- 'turnstilelaw8.ClockNear': WHATEVER THE INPUT: true; the input reads as it did. -/
def clockNearSpec : ChangeSpec := { name := "clockNear", fn := fun _ => fun
  | [d1, d2] => { results := [.lit (.bool true)], args := [d1, d2] }
  | _ => none }
def clockNearRow : OpenClaim := { program := "ytpocbaaogkabeaadoor", sum := "737465a6fc9e0c11f0337e6c8fccdef20c9836733c5946eecb398ed226f9af76", func := "turnstile/turnstilelaw8.ClockNear", spec := "clockNear", named := ["turnstile/clock.ahead"], apart := false, laid := [("turnstile/clock.ahead", laid_turnstile_clock_ahead)] }
def ClockNearSaid : Prop := clockNearRow.holds Tryd.pinned (OpenSpec.ofChange clockNearSpec)

/-- ITS FALSE NEIGHBOUR: 'it returns false'. Refute it at one input. -/
def clockNearWrong : ChangeSpec := { name := "clockNear", fn := fun _ => fun
  | [d1, d2] => { results := [.lit (.bool false)], args := [d1, d2] }
  | _ => none }
def ClockNearWrongFalsely : Prop := clockNearRow.holds Tryd.pinned (OpenSpec.ofChange clockNearWrong)

/-- 'turnstilelaw8.ClockLast': WHATEVER THE INPUT: true; the input reads as it did. -/
def clockLastSpec : ChangeSpec := { name := "clockLast", fn := fun _ => fun
  | [d] => { results := [.lit (.bool true)], args := [d] }
  | _ => none }
def clockLastRow : OpenClaim := { program := "ytpocbaaogkabeaadoor", sum := "737465a6fc9e0c11f0337e6c8fccdef20c9836733c5946eecb398ed226f9af76", func := "turnstile/turnstilelaw8.ClockLast", spec := "clockLast", named := ["turnstile/clock.ahead"], apart := false, laid := [("turnstile/clock.ahead", laid_turnstile_clock_ahead)] }
def ClockLastSaid : Prop := clockLastRow.holds Tryd.pinned (OpenSpec.ofChange clockLastSpec)

/-- ITS FALSE NEIGHBOUR: 'it returns false'. Refute it at one input. -/
def clockLastWrong : ChangeSpec := { name := "clockLast", fn := fun _ => fun
  | [d] => { results := [.lit (.bool false)], args := [d] }
  | _ => none }
def ClockLastWrongFalsely : Prop := clockLastRow.holds Tryd.pinned (OpenSpec.ofChange clockLastWrong)

/-- 'turnstilelaw8.ClockBack': WHATEVER THE INPUT: true; the input reads as it did. -/
def clockBackSpec : ChangeSpec := { name := "clockBack", fn := fun _ => fun
  | [d] => { results := [.lit (.bool true)], args := [d] }
  | _ => none }
def clockBackRow : OpenClaim := { program := "ytpocbaaogkabeaadoor", sum := "737465a6fc9e0c11f0337e6c8fccdef20c9836733c5946eecb398ed226f9af76", func := "turnstile/turnstilelaw8.ClockBack", spec := "clockBack", named := ["turnstile/clock.ahead"], apart := false, laid := [("turnstile/clock.ahead", laid_turnstile_clock_ahead)] }
def ClockBackSaid : Prop := clockBackRow.holds Tryd.pinned (OpenSpec.ofChange clockBackSpec)

/-- ITS FALSE NEIGHBOUR: 'it returns false'. Refute it at one input. -/
def clockBackWrong : ChangeSpec := { name := "clockBack", fn := fun _ => fun
  | [d] => { results := [.lit (.bool false)], args := [d] }
  | _ => none }
def ClockBackWrongFalsely : Prop := clockBackRow.holds Tryd.pinned (OpenSpec.ofChange clockBackWrong)

/-- 'turnstilelaw8.ClockRises': WHATEVER THE INPUT: true; the input reads as it did. -/
def clockRisesSpec : ChangeSpec := { name := "clockRises", fn := fun _ => fun
  | [d1, d2] => { results := [.lit (.bool true)], args := [d1, d2] }
  | _ => none }
def clockRisesRow : OpenClaim := { program := "ytpocbaaogkabeaadoor", sum := "737465a6fc9e0c11f0337e6c8fccdef20c9836733c5946eecb398ed226f9af76", func := "turnstile/turnstilelaw8.ClockRises", spec := "clockRises", named := ["turnstile/clock.ahead"], apart := false, laid := [("turnstile/clock.ahead", laid_turnstile_clock_ahead)] }
def ClockRisesSaid : Prop := clockRisesRow.holds Tryd.pinned (OpenSpec.ofChange clockRisesSpec)

/-- ITS FALSE NEIGHBOUR: 'it returns false'. Refute it at one input. -/
def clockRisesWrong : ChangeSpec := { name := "clockRises", fn := fun _ => fun
  | [d1, d2] => { results := [.lit (.bool false)], args := [d1, d2] }
  | _ => none }
def ClockRisesWrongFalsely : Prop := clockRisesRow.holds Tryd.pinned (OpenSpec.ofChange clockRisesWrong)

/- THE SECOND FORM. 'bulk': how many values and letters a reading holds, each counted each time it is reached (what is shared counts as often as it is met; a slice's spare places count too). A statement '..UptoSaid' is the law's where the arguments, and the package variables that the reading takes, are together of bulk at most 1048576: NARROWER than '..Said'. Prove '..Said' where nothing that the law and all that it calls make is longer than what came in: it says more and counts as full. Else prove '..UptoSaid'. A law counts once. -/
mutual
def uptoBulk {H : Type} : DataW H → Nat
  | .lit (.string bytes) => bytes.length + 1
  | .lit _ => 1
  | .nil => 1
  | .ptr d => uptoBulk d + 1
  | .slice elems spare => uptoBulkAll elems + uptoBulkAll spare + 1
  | .agg parts => uptoBulkAll parts + 1
  | .iface _ d => uptoBulk d + 1
  | .map entries => uptoBulkEntries entries + 1
  | .held _ => 1
def uptoBulkAll {H : Type} : List (DataW H) → Nat
  | [] => 0
  | d :: r => uptoBulk d + uptoBulkAll r
def uptoBulkEntries {H : Type} : List (Lit × DataW H) → Nat
  | [] => 0
  | x :: r => uptoBulkEntry x + uptoBulkEntries r
def uptoBulkEntry {H : Type} : Lit × DataW H → Nat
  | (.string bytes, d) => bytes.length + uptoBulk d + 1
  | (_, d) => uptoBulk d + 1
 end
def uptoSmall : (H : Type) → List (DataW H) → Bool := fun _ ds => decide (uptoBulkAll ds ≤ 1048576)
def OpenSpec.upto (s : _root_.Go.ChangeSpec) : _root_.Go.OpenSpec := { _root_.Go.OpenSpec.ofChange s with cond := some uptoSmall }

/-- 'turnstilelaw8.ClockDates', WHERE WHAT IT READS IS OF BULK AT MOST 1048576: true; the input reads as it did. -/
def clockDatesUptoRow : OpenClaim := { program := "ytpocbaaogkabeaadoor", sum := "737465a6fc9e0c11f0337e6c8fccdef20c9836733c5946eecb398ed226f9af76", func := "turnstile/turnstilelaw8.ClockDates", spec := "clockDates", named := ["turnstile/clock.ahead"], apart := false, laid := [("turnstile/clock.ahead", laid_turnstile_clock_ahead)], narrowed := true }
def ClockDatesUptoSaid : Prop := clockDatesUptoRow.holds Tryd.pinned (OpenSpec.upto clockDatesSpec)

/-- 'turnstilelaw8.ClockTells', WHERE WHAT IT READS IS OF BULK AT MOST 1048576: true; the input reads as it did. -/
def clockTellsUptoRow : OpenClaim := { program := "ytpocbaaogkabeaadoor", sum := "737465a6fc9e0c11f0337e6c8fccdef20c9836733c5946eecb398ed226f9af76", func := "turnstile/turnstilelaw8.ClockTells", spec := "clockTells", named := ["turnstile/clock.ahead"], apart := false, laid := [("turnstile/clock.ahead", laid_turnstile_clock_ahead)], narrowed := true }
def ClockTellsUptoSaid : Prop := clockTellsUptoRow.holds Tryd.pinned (OpenSpec.upto clockTellsSpec)

/-- 'turnstilelaw8.ClockNear', WHERE WHAT IT READS IS OF BULK AT MOST 1048576: true; the input reads as it did. -/
def clockNearUptoRow : OpenClaim := { program := "ytpocbaaogkabeaadoor", sum := "737465a6fc9e0c11f0337e6c8fccdef20c9836733c5946eecb398ed226f9af76", func := "turnstile/turnstilelaw8.ClockNear", spec := "clockNear", named := ["turnstile/clock.ahead"], apart := false, laid := [("turnstile/clock.ahead", laid_turnstile_clock_ahead)], narrowed := true }
def ClockNearUptoSaid : Prop := clockNearUptoRow.holds Tryd.pinned (OpenSpec.upto clockNearSpec)

/-- 'turnstilelaw8.ClockLast', WHERE WHAT IT READS IS OF BULK AT MOST 1048576: true; the input reads as it did. -/
def clockLastUptoRow : OpenClaim := { program := "ytpocbaaogkabeaadoor", sum := "737465a6fc9e0c11f0337e6c8fccdef20c9836733c5946eecb398ed226f9af76", func := "turnstile/turnstilelaw8.ClockLast", spec := "clockLast", named := ["turnstile/clock.ahead"], apart := false, laid := [("turnstile/clock.ahead", laid_turnstile_clock_ahead)], narrowed := true }
def ClockLastUptoSaid : Prop := clockLastUptoRow.holds Tryd.pinned (OpenSpec.upto clockLastSpec)

/-- 'turnstilelaw8.ClockBack', WHERE WHAT IT READS IS OF BULK AT MOST 1048576: true; the input reads as it did. -/
def clockBackUptoRow : OpenClaim := { program := "ytpocbaaogkabeaadoor", sum := "737465a6fc9e0c11f0337e6c8fccdef20c9836733c5946eecb398ed226f9af76", func := "turnstile/turnstilelaw8.ClockBack", spec := "clockBack", named := ["turnstile/clock.ahead"], apart := false, laid := [("turnstile/clock.ahead", laid_turnstile_clock_ahead)], narrowed := true }
def ClockBackUptoSaid : Prop := clockBackUptoRow.holds Tryd.pinned (OpenSpec.upto clockBackSpec)

/-- 'turnstilelaw8.ClockRises', WHERE WHAT IT READS IS OF BULK AT MOST 1048576: true; the input reads as it did. -/
def clockRisesUptoRow : OpenClaim := { program := "ytpocbaaogkabeaadoor", sum := "737465a6fc9e0c11f0337e6c8fccdef20c9836733c5946eecb398ed226f9af76", func := "turnstile/turnstilelaw8.ClockRises", spec := "clockRises", named := ["turnstile/clock.ahead"], apart := false, laid := [("turnstile/clock.ahead", laid_turnstile_clock_ahead)], narrowed := true }
def ClockRisesUptoSaid : Prop := clockRisesUptoRow.holds Tryd.pinned (OpenSpec.upto clockRisesSpec)

end Rows
end Go.Proofs.YtpocbaaogkabeaaDoor
