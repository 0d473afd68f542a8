/-
  No cell of these rows narrows 'for every input' (looked for: loops, veiled, ifaces, maps, wideKeys, modest, calm, conditions, laid).
  DERIVED. THE GIVEN ROWS OF THIS SEAT. 3 by the template 'for every input the law returns true; each argument reads behind the call as it read before'; 0 by the template 'total and deterministic' (their statements: YtbdkflfgmdcciabTotals.lean).
  GIVEN WITH THE SEED: the statements are not yours to turn. If you find one false, say at which input.
  Laid BY PROGRAM, IN A SANDBOX (cutbox-rows.mjs): the forced cells as the released guide's own fill.sh prints them over the translation 6bae072f6b2a4d72… (all of the seat's roots in one cut). By AI agents, Wed Nov 11 2026. No macro, syntax, notation, axiom, sorry.
-/
import Derived.Test.YtbdkflfgmdcciabChecked
import GoSem.Claim
import GoSem.ClaimJoined
import GoSem.ClaimMapViews
import Derived.JoinedTies
import Derived.KernelRfl
namespace Go.Proofs.Ytbdkflfgmdcciab
/- THE CELL 'sum', in the pinned program and in every row, IS THE sha256 OF THE DUMP (.gsa) THAT YtbdkflfgmdcciabProg.lean LOADS. Nothing in Lean hashes anything: it is a label: what it is worth is what the hold of that sum in a sandbox is worth. -/
noncomputable def Try.pinned : Pinned := { name := "ytbdkflfgmdcciab", sum := "6bae072f6b2a4d7214ea9a7e2950b467f8d72c8a83bc9eb6cc7a441c22ae16fb", checked := Try.checked }
namespace Rows
def none {H : Type} : Left H := { results := [], args := [] }

/-- 'turnstilelaw5.CardAgain': WHATEVER THE INPUT: true; the input reads as it did. -/
def cardAgainSpec : ChangeSpec := { name := "cardAgain", fn := fun _ => fun
  | [d] => { results := [.lit (.bool true)], args := [d] }
  | _ => none }
def cardAgainRow : OpenClaim := { program := "ytbdkflfgmdcciab", sum := "6bae072f6b2a4d7214ea9a7e2950b467f8d72c8a83bc9eb6cc7a441c22ae16fb", func := "turnstile/turnstilelaw5.CardAgain", spec := "cardAgain", inPlace := ["internal/bytealg.IndexByteString"], apart := false }
def CardAgainSaid : Prop := cardAgainRow.holds Try.pinned (OpenSpec.ofChange cardAgainSpec)

/-- ITS FALSE NEIGHBOUR: 'it returns false'. Refute it at one input. -/
def cardAgainWrong : ChangeSpec := { name := "cardAgain", fn := fun _ => fun
  | [d] => { results := [.lit (.bool false)], args := [d] }
  | _ => none }
def CardAgainWrongFalsely : Prop := cardAgainRow.holds Try.pinned (OpenSpec.ofChange cardAgainWrong)

/-- 'turnstilelaw5.CardTurned': WHATEVER THE INPUT: true; the input reads as it did. -/
def cardTurnedSpec : ChangeSpec := { name := "cardTurned", fn := fun _ => fun
  | [d1, d2, d3, d4] => { results := [.lit (.bool true)], args := [d1, d2, d3, d4] }
  | _ => none }
def cardTurnedRow : OpenClaim := { program := "ytbdkflfgmdcciab", sum := "6bae072f6b2a4d7214ea9a7e2950b467f8d72c8a83bc9eb6cc7a441c22ae16fb", func := "turnstile/turnstilelaw5.CardTurned", spec := "cardTurned", inPlace := ["internal/bytealg.IndexByteString"], apart := false }
def CardTurnedSaid : Prop := cardTurnedRow.holds Try.pinned (OpenSpec.ofChange cardTurnedSpec)

/-- ITS FALSE NEIGHBOUR: 'it returns false'. Refute it at one input. -/
def cardTurnedWrong : ChangeSpec := { name := "cardTurned", fn := fun _ => fun
  | [d1, d2, d3, d4] => { results := [.lit (.bool false)], args := [d1, d2, d3, d4] }
  | _ => none }
def CardTurnedWrongFalsely : Prop := cardTurnedRow.holds Try.pinned (OpenSpec.ofChange cardTurnedWrong)

/-- 'turnstilelaw5.CardMasks': WHATEVER THE INPUT: true; the input reads as it did. -/
def cardMasksSpec : ChangeSpec := { name := "cardMasks", fn := fun _ => fun
  | [d] => { results := [.lit (.bool true)], args := [d] }
  | _ => none }
def cardMasksRow : OpenClaim := { program := "ytbdkflfgmdcciab", sum := "6bae072f6b2a4d7214ea9a7e2950b467f8d72c8a83bc9eb6cc7a441c22ae16fb", func := "turnstile/turnstilelaw5.CardMasks", spec := "cardMasks", inPlace := ["internal/bytealg.IndexByteString", "internal/abi.NoEscape", "internal/bytealg.MakeNoZero"], apart := false }
def CardMasksSaid : Prop := cardMasksRow.holds Try.pinned (OpenSpec.ofChange cardMasksSpec)

/-- ITS FALSE NEIGHBOUR: 'it returns false'. Refute it at one input. -/
def cardMasksWrong : ChangeSpec := { name := "cardMasks", fn := fun _ => fun
  | [d] => { results := [.lit (.bool false)], args := [d] }
  | _ => none }
def CardMasksWrongFalsely : Prop := cardMasksRow.holds Try.pinned (OpenSpec.ofChange cardMasksWrong)

/- THE SECOND FORM. 'bulk': how many values and letters a reading holds, each counted each time it is reached (what is shared counts as often as it is met; a slice's spare places count too). A statement '..UptoSaid' is the law's where the arguments, and the package variables that the reading takes, are together of bulk at most 1048576: NARROWER than '..Said'. Prove '..Said' where nothing that the law and all that it calls make is longer than what came in: it says more and counts as full. Else prove '..UptoSaid'. A law counts once. -/
mutual
def uptoBulk {H : Type} : DataW H → Nat
  | .lit (.string bytes) => bytes.length + 1
  | .lit _ => 1
  | .nil => 1
  | .ptr d => uptoBulk d + 1
  | .slice elems spare => uptoBulkAll elems + uptoBulkAll spare + 1
  | .agg parts => uptoBulkAll parts + 1
  | .iface _ d => uptoBulk d + 1
  | .map entries => uptoBulkEntries entries + 1
  | .held _ => 1
def uptoBulkAll {H : Type} : List (DataW H) → Nat
  | [] => 0
  | d :: r => uptoBulk d + uptoBulkAll r
def uptoBulkEntries {H : Type} : List (Lit × DataW H) → Nat
  | [] => 0
  | x :: r => uptoBulkEntry x + uptoBulkEntries r
def uptoBulkEntry {H : Type} : Lit × DataW H → Nat
  | (.string bytes, d) => bytes.length + uptoBulk d + 1
  | (_, d) => uptoBulk d + 1
 end
def uptoSmall : (H : Type) → List (DataW H) → Bool := fun _ ds => decide (uptoBulkAll ds ≤ 1048576)
def OpenSpec.upto (s : _root_.Go.ChangeSpec) : _root_.Go.OpenSpec := { _root_.Go.OpenSpec.ofChange s with cond := some uptoSmall }

/-- 'turnstilelaw5.CardAgain', WHERE WHAT IT READS IS OF BULK AT MOST 1048576: true; the input reads as it did. -/
def cardAgainUptoRow : OpenClaim := { program := "ytbdkflfgmdcciab", sum := "6bae072f6b2a4d7214ea9a7e2950b467f8d72c8a83bc9eb6cc7a441c22ae16fb", func := "turnstile/turnstilelaw5.CardAgain", spec := "cardAgain", inPlace := ["internal/bytealg.IndexByteString"], apart := false, narrowed := true }
def CardAgainUptoSaid : Prop := cardAgainUptoRow.holds Try.pinned (OpenSpec.upto cardAgainSpec)

/-- 'turnstilelaw5.CardTurned', WHERE WHAT IT READS IS OF BULK AT MOST 1048576: true; the input reads as it did. -/
def cardTurnedUptoRow : OpenClaim := { program := "ytbdkflfgmdcciab", sum := "6bae072f6b2a4d7214ea9a7e2950b467f8d72c8a83bc9eb6cc7a441c22ae16fb", func := "turnstile/turnstilelaw5.CardTurned", spec := "cardTurned", inPlace := ["internal/bytealg.IndexByteString"], apart := false, narrowed := true }
def CardTurnedUptoSaid : Prop := cardTurnedUptoRow.holds Try.pinned (OpenSpec.upto cardTurnedSpec)

/-- 'turnstilelaw5.CardMasks', WHERE WHAT IT READS IS OF BULK AT MOST 1048576: true; the input reads as it did. -/
def cardMasksUptoRow : OpenClaim := { program := "ytbdkflfgmdcciab", sum := "6bae072f6b2a4d7214ea9a7e2950b467f8d72c8a83bc9eb6cc7a441c22ae16fb", func := "turnstile/turnstilelaw5.CardMasks", spec := "cardMasks", inPlace := ["internal/bytealg.IndexByteString", "internal/abi.NoEscape", "internal/bytealg.MakeNoZero"], apart := false, narrowed := true }
def CardMasksUptoSaid : Prop := cardMasksUptoRow.holds Try.pinned (OpenSpec.upto cardMasksSpec)

end Rows
end Go.Proofs.Ytbdkflfgmdcciab
