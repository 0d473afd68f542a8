/-
  No cell of these rows narrows 'for every input' (looked for: loops, veiled, ifaces, maps, wideKeys, modest, calm, conditions, laid).
  DERIVED. THE GIVEN ROWS OF THIS SEAT. 2 by the template 'for every input the law returns true; each argument reads behind the call as it read before'; 0 by the template 'total and deterministic' (their statements: YtekbonfaaofdiabTotals.lean).
  GIVEN WITH THE SEED: the statements are not yours to turn. If you find one false, say at which input.
  Laid BY PROGRAM, IN A SANDBOX (cutbox-rows.mjs): the forced cells as the released guide's own fill.sh prints them over the translation 716ccfe860bf0531… (all of the seat's roots in one cut). By AI agents, Wed Nov 11 2026. No macro, syntax, notation, axiom, sorry.
-/
import Derived.Test.YtekbonfaaofdiabChecked
import GoSem.Claim
import GoSem.ClaimJoined
import GoSem.ClaimMapViews
import Derived.JoinedTies
import Derived.KernelRfl
namespace Go.Proofs.Ytekbonfaaofdiab
/- THE CELL 'sum', in the pinned program and in every row, IS THE sha256 OF THE DUMP (.gsa) THAT YtekbonfaaofdiabProg.lean LOADS. Nothing in Lean hashes anything: it is a label: what it is worth is what the hold of that sum in a sandbox is worth. -/
noncomputable def Try.pinned : Pinned := { name := "ytekbonfaaofdiab", sum := "716ccfe860bf05317ce82906b53dd13e211290d71b0f822cf205b9c632ebe787", checked := Try.checked }
namespace Rows
def none {H : Type} : Left H := { results := [], args := [] }

/-- 'turnstilelaw1.DigitsHexes': WHATEVER THE INPUT: true; the input reads as it did. -/
def digitsHexesSpec : ChangeSpec := { name := "digitsHexes", fn := fun _ => fun
  | [d1, d2] => { results := [.lit (.bool true)], args := [d1, d2] }
  | _ => none }
def digitsHexesRow : OpenClaim := { program := "ytekbonfaaofdiab", sum := "716ccfe860bf05317ce82906b53dd13e211290d71b0f822cf205b9c632ebe787", func := "turnstile/turnstilelaw1.DigitsHexes", spec := "digitsHexes", inPlace := ["internal/bytealg.IndexByteString"], unfollowed := true, recurses := true, apart := false }
def DigitsHexesSaid : Prop := digitsHexesRow.holds Try.pinned (OpenSpec.ofChange digitsHexesSpec)

/-- ITS FALSE NEIGHBOUR: 'it returns false'. Refute it at one input. -/
def digitsHexesWrong : ChangeSpec := { name := "digitsHexes", fn := fun _ => fun
  | [d1, d2] => { results := [.lit (.bool false)], args := [d1, d2] }
  | _ => none }
def DigitsHexesWrongFalsely : Prop := digitsHexesRow.holds Try.pinned (OpenSpec.ofChange digitsHexesWrong)

/-- 'turnstilelaw1.DigitsCounts': WHATEVER THE INPUT: true; the input reads as it did. -/
def digitsCountsSpec : ChangeSpec := { name := "digitsCounts", fn := fun _ => fun
  | [d1, d2, d3] => { results := [.lit (.bool true)], args := [d1, d2, d3] }
  | _ => none }
def digitsCountsRow : OpenClaim := { program := "ytekbonfaaofdiab", sum := "716ccfe860bf05317ce82906b53dd13e211290d71b0f822cf205b9c632ebe787", func := "turnstile/turnstilelaw1.DigitsCounts", spec := "digitsCounts", apart := false }
def DigitsCountsSaid : Prop := digitsCountsRow.holds Try.pinned (OpenSpec.ofChange digitsCountsSpec)

/-- ITS FALSE NEIGHBOUR: 'it returns false'. Refute it at one input. -/
def digitsCountsWrong : ChangeSpec := { name := "digitsCounts", fn := fun _ => fun
  | [d1, d2, d3] => { results := [.lit (.bool false)], args := [d1, d2, d3] }
  | _ => none }
def DigitsCountsWrongFalsely : Prop := digitsCountsRow.holds Try.pinned (OpenSpec.ofChange digitsCountsWrong)

/- THE SECOND FORM. 'bulk': how many values and letters a reading holds, each counted each time it is reached (what is shared counts as often as it is met; a slice's spare places count too). A statement '..UptoSaid' is the law's where the arguments, and the package variables that the reading takes, are together of bulk at most 1048576: NARROWER than '..Said'. Prove '..Said' where nothing that the law and all that it calls make is longer than what came in: it says more and counts as full. Else prove '..UptoSaid'. A law counts once. -/
mutual
def uptoBulk {H : Type} : DataW H → Nat
  | .lit (.string bytes) => bytes.length + 1
  | .lit _ => 1
  | .nil => 1
  | .ptr d => uptoBulk d + 1
  | .slice elems spare => uptoBulkAll elems + uptoBulkAll spare + 1
  | .agg parts => uptoBulkAll parts + 1
  | .iface _ d => uptoBulk d + 1
  | .map entries => uptoBulkEntries entries + 1
  | .held _ => 1
def uptoBulkAll {H : Type} : List (DataW H) → Nat
  | [] => 0
  | d :: r => uptoBulk d + uptoBulkAll r
def uptoBulkEntries {H : Type} : List (Lit × DataW H) → Nat
  | [] => 0
  | x :: r => uptoBulkEntry x + uptoBulkEntries r
def uptoBulkEntry {H : Type} : Lit × DataW H → Nat
  | (.string bytes, d) => bytes.length + uptoBulk d + 1
  | (_, d) => uptoBulk d + 1
 end
def uptoSmall : (H : Type) → List (DataW H) → Bool := fun _ ds => decide (uptoBulkAll ds ≤ 1048576)
def OpenSpec.upto (s : _root_.Go.ChangeSpec) : _root_.Go.OpenSpec := { _root_.Go.OpenSpec.ofChange s with cond := some uptoSmall }

/-- 'turnstilelaw1.DigitsHexes', WHERE WHAT IT READS IS OF BULK AT MOST 1048576: true; the input reads as it did. -/
def digitsHexesUptoRow : OpenClaim := { program := "ytekbonfaaofdiab", sum := "716ccfe860bf05317ce82906b53dd13e211290d71b0f822cf205b9c632ebe787", func := "turnstile/turnstilelaw1.DigitsHexes", spec := "digitsHexes", inPlace := ["internal/bytealg.IndexByteString"], unfollowed := true, recurses := true, apart := false, narrowed := true }
def DigitsHexesUptoSaid : Prop := digitsHexesUptoRow.holds Try.pinned (OpenSpec.upto digitsHexesSpec)

/-- 'turnstilelaw1.DigitsCounts', WHERE WHAT IT READS IS OF BULK AT MOST 1048576: true; the input reads as it did. -/
def digitsCountsUptoRow : OpenClaim := { program := "ytekbonfaaofdiab", sum := "716ccfe860bf05317ce82906b53dd13e211290d71b0f822cf205b9c632ebe787", func := "turnstile/turnstilelaw1.DigitsCounts", spec := "digitsCounts", apart := false, narrowed := true }
def DigitsCountsUptoSaid : Prop := digitsCountsUptoRow.holds Try.pinned (OpenSpec.upto digitsCountsSpec)

end Rows
end Go.Proofs.Ytekbonfaaofdiab
