/-
  No cell of these rows narrows 'for every input' (looked for: loops, veiled, ifaces, maps, wideKeys, modest, calm, conditions, laid).
  DERIVED. THE GIVEN ROWS OF THIS SEAT. 4 by the template 'for every input the law returns true; each argument reads behind the call as it read before'; 0 by the template 'total and deterministic' (their statements: YtgidjfhlooggkabTotals.lean).
  GIVEN WITH THE SEED: the statements are not yours to turn. If you find one false, say at which input.
  Laid BY PROGRAM, IN A SANDBOX (cutbox-rows.mjs): the forced cells as the released guide's own fill.sh prints them over the translation 89375b0cf8ab933e… (all of the seat's roots in one cut). By AI agents, Wed Nov 11 2026. No macro, syntax, notation, axiom, sorry.
-/
import Derived.Test.YtgidjfhlooggkabChecked
import GoSem.Claim
import GoSem.ClaimJoined
import GoSem.ClaimMapViews
import Derived.JoinedTies
import Derived.KernelRfl
namespace Go.Proofs.Ytgidjfhlooggkab
/- THE CELL 'sum', in the pinned program and in every row, IS THE sha256 OF THE DUMP (.gsa) THAT YtgidjfhlooggkabProg.lean LOADS. Nothing in Lean hashes anything: it is a label: what it is worth is what the hold of that sum in a sandbox is worth. -/
noncomputable def Try.pinned : Pinned := { name := "ytgidjfhlooggkab", sum := "89375b0cf8ab933e978a10d35c23b8e5363f665e525df3449d0d0c5cb83ebd5e", checked := Try.checked }
namespace Rows
def none {H : Type} : Left H := { results := [], args := [] }

/-- 'turnstilelaw9.TlvAgain': WHATEVER THE INPUT: true; the input reads as it did. -/
def tlvAgainSpec : ChangeSpec := { name := "tlvAgain", fn := fun _ => fun
  | [d] => { results := [.lit (.bool true)], args := [d] }
  | _ => none }
def tlvAgainRow : OpenClaim := { program := "ytgidjfhlooggkab", sum := "89375b0cf8ab933e978a10d35c23b8e5363f665e525df3449d0d0c5cb83ebd5e", func := "turnstile/turnstilelaw9.TlvAgain", spec := "tlvAgain", inPlace := ["internal/abi.NoEscape", "internal/bytealg.MakeNoZero"], unfollowed := true, recurses := true, apart := false }
def TlvAgainSaid : Prop := tlvAgainRow.holds Try.pinned (OpenSpec.ofChange tlvAgainSpec)

/-- ITS FALSE NEIGHBOUR: 'it returns false'. Refute it at one input. -/
def tlvAgainWrong : ChangeSpec := { name := "tlvAgain", fn := fun _ => fun
  | [d] => { results := [.lit (.bool false)], args := [d] }
  | _ => none }
def TlvAgainWrongFalsely : Prop := tlvAgainRow.holds Try.pinned (OpenSpec.ofChange tlvAgainWrong)

/-- 'turnstilelaw9.TlvCut': WHATEVER THE INPUT: true; the input reads as it did. -/
def tlvCutSpec : ChangeSpec := { name := "tlvCut", fn := fun _ => fun
  | [d1, d2] => { results := [.lit (.bool true)], args := [d1, d2] }
  | _ => none }
def tlvCutRow : OpenClaim := { program := "ytgidjfhlooggkab", sum := "89375b0cf8ab933e978a10d35c23b8e5363f665e525df3449d0d0c5cb83ebd5e", func := "turnstile/turnstilelaw9.TlvCut", spec := "tlvCut", inPlace := ["internal/abi.NoEscape", "internal/bytealg.MakeNoZero"], unfollowed := true, recurses := true, apart := false }
def TlvCutSaid : Prop := tlvCutRow.holds Try.pinned (OpenSpec.ofChange tlvCutSpec)

/-- ITS FALSE NEIGHBOUR: 'it returns false'. Refute it at one input. -/
def tlvCutWrong : ChangeSpec := { name := "tlvCut", fn := fun _ => fun
  | [d1, d2] => { results := [.lit (.bool false)], args := [d1, d2] }
  | _ => none }
def TlvCutWrongFalsely : Prop := tlvCutRow.holds Try.pinned (OpenSpec.ofChange tlvCutWrong)

/-- 'turnstilelaw9.TlvOne': WHATEVER THE INPUT: true; the input reads as it did. -/
def tlvOneSpec : ChangeSpec := { name := "tlvOne", fn := fun _ => fun
  | [d1, d2] => { results := [.lit (.bool true)], args := [d1, d2] }
  | _ => none }
def tlvOneRow : OpenClaim := { program := "ytgidjfhlooggkab", sum := "89375b0cf8ab933e978a10d35c23b8e5363f665e525df3449d0d0c5cb83ebd5e", func := "turnstile/turnstilelaw9.TlvOne", spec := "tlvOne", inPlace := ["internal/abi.NoEscape", "internal/bytealg.MakeNoZero"], unfollowed := true, recurses := true, apart := false }
def TlvOneSaid : Prop := tlvOneRow.holds Try.pinned (OpenSpec.ofChange tlvOneSpec)

/-- ITS FALSE NEIGHBOUR: 'it returns false'. Refute it at one input. -/
def tlvOneWrong : ChangeSpec := { name := "tlvOne", fn := fun _ => fun
  | [d1, d2] => { results := [.lit (.bool false)], args := [d1, d2] }
  | _ => none }
def TlvOneWrongFalsely : Prop := tlvOneRow.holds Try.pinned (OpenSpec.ofChange tlvOneWrong)

/-- 'turnstilelaw9.TlvSet': WHATEVER THE INPUT: true; the input reads as it did. -/
def tlvSetSpec : ChangeSpec := { name := "tlvSet", fn := fun _ => fun
  | [d1, d2, d3] => { results := [.lit (.bool true)], args := [d1, d2, d3] }
  | _ => none }
def tlvSetRow : OpenClaim := { program := "ytgidjfhlooggkab", sum := "89375b0cf8ab933e978a10d35c23b8e5363f665e525df3449d0d0c5cb83ebd5e", func := "turnstile/turnstilelaw9.TlvSet", spec := "tlvSet", inPlace := ["internal/abi.NoEscape", "internal/bytealg.MakeNoZero"], unfollowed := true, recurses := true, apart := false }
def TlvSetSaid : Prop := tlvSetRow.holds Try.pinned (OpenSpec.ofChange tlvSetSpec)

/-- ITS FALSE NEIGHBOUR: 'it returns false'. Refute it at one input. -/
def tlvSetWrong : ChangeSpec := { name := "tlvSet", fn := fun _ => fun
  | [d1, d2, d3] => { results := [.lit (.bool false)], args := [d1, d2, d3] }
  | _ => none }
def TlvSetWrongFalsely : Prop := tlvSetRow.holds Try.pinned (OpenSpec.ofChange tlvSetWrong)

/- THE SECOND FORM. 'bulk': how many values and letters a reading holds, each counted each time it is reached (what is shared counts as often as it is met; a slice's spare places count too). A statement '..UptoSaid' is the law's where the arguments, and the package variables that the reading takes, are together of bulk at most 1048576: NARROWER than '..Said'. Prove '..Said' where nothing that the law and all that it calls make is longer than what came in: it says more and counts as full. Else prove '..UptoSaid'. A law counts once. -/
mutual
def uptoBulk {H : Type} : DataW H → Nat
  | .lit (.string bytes) => bytes.length + 1
  | .lit _ => 1
  | .nil => 1
  | .ptr d => uptoBulk d + 1
  | .slice elems spare => uptoBulkAll elems + uptoBulkAll spare + 1
  | .agg parts => uptoBulkAll parts + 1
  | .iface _ d => uptoBulk d + 1
  | .map entries => uptoBulkEntries entries + 1
  | .held _ => 1
def uptoBulkAll {H : Type} : List (DataW H) → Nat
  | [] => 0
  | d :: r => uptoBulk d + uptoBulkAll r
def uptoBulkEntries {H : Type} : List (Lit × DataW H) → Nat
  | [] => 0
  | x :: r => uptoBulkEntry x + uptoBulkEntries r
def uptoBulkEntry {H : Type} : Lit × DataW H → Nat
  | (.string bytes, d) => bytes.length + uptoBulk d + 1
  | (_, d) => uptoBulk d + 1
 end
def uptoSmall : (H : Type) → List (DataW H) → Bool := fun _ ds => decide (uptoBulkAll ds ≤ 1048576)
def OpenSpec.upto (s : _root_.Go.ChangeSpec) : _root_.Go.OpenSpec := { _root_.Go.OpenSpec.ofChange s with cond := some uptoSmall }

/-- 'turnstilelaw9.TlvAgain', WHERE WHAT IT READS IS OF BULK AT MOST 1048576: true; the input reads as it did. -/
def tlvAgainUptoRow : OpenClaim := { program := "ytgidjfhlooggkab", sum := "89375b0cf8ab933e978a10d35c23b8e5363f665e525df3449d0d0c5cb83ebd5e", func := "turnstile/turnstilelaw9.TlvAgain", spec := "tlvAgain", inPlace := ["internal/abi.NoEscape", "internal/bytealg.MakeNoZero"], unfollowed := true, recurses := true, apart := false, narrowed := true }
def TlvAgainUptoSaid : Prop := tlvAgainUptoRow.holds Try.pinned (OpenSpec.upto tlvAgainSpec)

/-- 'turnstilelaw9.TlvCut', WHERE WHAT IT READS IS OF BULK AT MOST 1048576: true; the input reads as it did. -/
def tlvCutUptoRow : OpenClaim := { program := "ytgidjfhlooggkab", sum := "89375b0cf8ab933e978a10d35c23b8e5363f665e525df3449d0d0c5cb83ebd5e", func := "turnstile/turnstilelaw9.TlvCut", spec := "tlvCut", inPlace := ["internal/abi.NoEscape", "internal/bytealg.MakeNoZero"], unfollowed := true, recurses := true, apart := false, narrowed := true }
def TlvCutUptoSaid : Prop := tlvCutUptoRow.holds Try.pinned (OpenSpec.upto tlvCutSpec)

/-- 'turnstilelaw9.TlvOne', WHERE WHAT IT READS IS OF BULK AT MOST 1048576: true; the input reads as it did. -/
def tlvOneUptoRow : OpenClaim := { program := "ytgidjfhlooggkab", sum := "89375b0cf8ab933e978a10d35c23b8e5363f665e525df3449d0d0c5cb83ebd5e", func := "turnstile/turnstilelaw9.TlvOne", spec := "tlvOne", inPlace := ["internal/abi.NoEscape", "internal/bytealg.MakeNoZero"], unfollowed := true, recurses := true, apart := false, narrowed := true }
def TlvOneUptoSaid : Prop := tlvOneUptoRow.holds Try.pinned (OpenSpec.upto tlvOneSpec)

/-- 'turnstilelaw9.TlvSet', WHERE WHAT IT READS IS OF BULK AT MOST 1048576: true; the input reads as it did. -/
def tlvSetUptoRow : OpenClaim := { program := "ytgidjfhlooggkab", sum := "89375b0cf8ab933e978a10d35c23b8e5363f665e525df3449d0d0c5cb83ebd5e", func := "turnstile/turnstilelaw9.TlvSet", spec := "tlvSet", inPlace := ["internal/abi.NoEscape", "internal/bytealg.MakeNoZero"], unfollowed := true, recurses := true, apart := false, narrowed := true }
def TlvSetUptoSaid : Prop := tlvSetUptoRow.holds Try.pinned (OpenSpec.upto tlvSetSpec)

end Rows
end Go.Proofs.Ytgidjfhlooggkab
