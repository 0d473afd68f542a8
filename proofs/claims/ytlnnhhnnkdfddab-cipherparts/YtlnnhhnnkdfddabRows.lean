/-
  No cell of these rows narrows 'for every input' (looked for: loops, veiled, ifaces, maps, wideKeys, modest, calm, conditions, laid).
  DERIVED. THE GIVEN ROWS OF THIS SEAT. 4 by the template 'for every input the law returns true; each argument reads behind the call as it read before'; 0 by the template 'total and deterministic' (their statements: YtlnnhhnnkdfddabTotals.lean).
  GIVEN WITH THE SEED: the statements are not yours to turn. If you find one false, say at which input.
  Laid BY PROGRAM, IN A SANDBOX (cutbox-rows.mjs): the forced cells as the released guide's own fill.sh prints them over the translation 82428512d50852ea… (all of the seat's roots in one cut). By AI agents, Wed Nov 11 2026. No macro, syntax, notation, axiom, sorry.
-/
import Derived.Test.YtlnnhhnnkdfddabChecked
import GoSem.Claim
import GoSem.ClaimJoined
import GoSem.ClaimMapViews
import Derived.JoinedTies
import Derived.KernelRfl
namespace Go.Proofs.Ytlnnhhnnkdfddab
/- THE CELL 'sum', in the pinned program and in every row, IS THE sha256 OF THE DUMP (.gsa) THAT YtlnnhhnnkdfddabProg.lean LOADS. Nothing in Lean hashes anything: it is a label: what it is worth is what the hold of that sum in a sandbox is worth. -/
noncomputable def Try.pinned : Pinned := { name := "ytlnnhhnnkdfddab", sum := "82428512d50852ea27e4ba2d902714e100be81e7207e0f0d87555ad630e7b518", checked := Try.checked }
namespace Rows
def none {H : Type} : Left H := { results := [], args := [] }

/-- 'turnstilelaw3.CipherTurned': WHATEVER THE INPUT: true; the input reads as it did. -/
def cipherTurnedSpec : ChangeSpec := { name := "cipherTurned", fn := fun _ => fun
  | [d1, d2, d3] => { results := [.lit (.bool true)], args := [d1, d2, d3] }
  | _ => none }
def cipherTurnedRow : OpenClaim := { program := "ytlnnhhnnkdfddab", sum := "82428512d50852ea27e4ba2d902714e100be81e7207e0f0d87555ad630e7b518", func := "turnstile/turnstilelaw3.CipherTurned", spec := "cipherTurned", unfollowed := true, recurses := true, apart := false }
def CipherTurnedSaid : Prop := cipherTurnedRow.holds Try.pinned (OpenSpec.ofChange cipherTurnedSpec)

/-- ITS FALSE NEIGHBOUR: 'it returns false'. Refute it at one input. -/
def cipherTurnedWrong : ChangeSpec := { name := "cipherTurned", fn := fun _ => fun
  | [d1, d2, d3] => { results := [.lit (.bool false)], args := [d1, d2, d3] }
  | _ => none }
def CipherTurnedWrongFalsely : Prop := cipherTurnedRow.holds Try.pinned (OpenSpec.ofChange cipherTurnedWrong)

/-- 'turnstilelaw3.CipherParts': WHATEVER THE INPUT: true; the input reads as it did. -/
def cipherPartsSpec : ChangeSpec := { name := "cipherParts", fn := fun _ => fun
  | [d1, d2, d3, d4] => { results := [.lit (.bool true)], args := [d1, d2, d3, d4] }
  | _ => none }
def cipherPartsRow : OpenClaim := { program := "ytlnnhhnnkdfddab", sum := "82428512d50852ea27e4ba2d902714e100be81e7207e0f0d87555ad630e7b518", func := "turnstile/turnstilelaw3.CipherParts", spec := "cipherParts", unfollowed := true, recurses := true, apart := false }
def CipherPartsSaid : Prop := cipherPartsRow.holds Try.pinned (OpenSpec.ofChange cipherPartsSpec)

/-- ITS FALSE NEIGHBOUR: 'it returns false'. Refute it at one input. -/
def cipherPartsWrong : ChangeSpec := { name := "cipherParts", fn := fun _ => fun
  | [d1, d2, d3, d4] => { results := [.lit (.bool false)], args := [d1, d2, d3, d4] }
  | _ => none }
def CipherPartsWrongFalsely : Prop := cipherPartsRow.holds Try.pinned (OpenSpec.ofChange cipherPartsWrong)

/-- 'turnstilelaw3.CipherWeak': WHATEVER THE INPUT: true; the input reads as it did. -/
def cipherWeakSpec : ChangeSpec := { name := "cipherWeak", fn := fun _ => fun
  | [d1, d2, d3, d4, d5] => { results := [.lit (.bool true)], args := [d1, d2, d3, d4, d5] }
  | _ => none }
def cipherWeakRow : OpenClaim := { program := "ytlnnhhnnkdfddab", sum := "82428512d50852ea27e4ba2d902714e100be81e7207e0f0d87555ad630e7b518", func := "turnstile/turnstilelaw3.CipherWeak", spec := "cipherWeak", unfollowed := true, recurses := true, apart := false }
def CipherWeakSaid : Prop := cipherWeakRow.holds Try.pinned (OpenSpec.ofChange cipherWeakSpec)

/-- ITS FALSE NEIGHBOUR: 'it returns false'. Refute it at one input. -/
def cipherWeakWrong : ChangeSpec := { name := "cipherWeak", fn := fun _ => fun
  | [d1, d2, d3, d4, d5] => { results := [.lit (.bool false)], args := [d1, d2, d3, d4, d5] }
  | _ => none }
def CipherWeakWrongFalsely : Prop := cipherWeakRow.holds Try.pinned (OpenSpec.ofChange cipherWeakWrong)

/-- 'turnstilelaw3.CipherEach': WHATEVER THE INPUT: true; the input reads as it did. -/
def cipherEachSpec : ChangeSpec := { name := "cipherEach", fn := fun _ => fun
  | [d1, d2, d3, d4] => { results := [.lit (.bool true)], args := [d1, d2, d3, d4] }
  | _ => none }
def cipherEachRow : OpenClaim := { program := "ytlnnhhnnkdfddab", sum := "82428512d50852ea27e4ba2d902714e100be81e7207e0f0d87555ad630e7b518", func := "turnstile/turnstilelaw3.CipherEach", spec := "cipherEach", unfollowed := true, recurses := true, apart := false }
def CipherEachSaid : Prop := cipherEachRow.holds Try.pinned (OpenSpec.ofChange cipherEachSpec)

/-- ITS FALSE NEIGHBOUR: 'it returns false'. Refute it at one input. -/
def cipherEachWrong : ChangeSpec := { name := "cipherEach", fn := fun _ => fun
  | [d1, d2, d3, d4] => { results := [.lit (.bool false)], args := [d1, d2, d3, d4] }
  | _ => none }
def CipherEachWrongFalsely : Prop := cipherEachRow.holds Try.pinned (OpenSpec.ofChange cipherEachWrong)

/- THE SECOND FORM. 'bulk': how many values and letters a reading holds, each counted each time it is reached (what is shared counts as often as it is met; a slice's spare places count too). A statement '..UptoSaid' is the law's where the arguments, and the package variables that the reading takes, are together of bulk at most 1048576: NARROWER than '..Said'. Prove '..Said' where nothing that the law and all that it calls make is longer than what came in: it says more and counts as full. Else prove '..UptoSaid'. A law counts once. -/
mutual
def uptoBulk {H : Type} : DataW H → Nat
  | .lit (.string bytes) => bytes.length + 1
  | .lit _ => 1
  | .nil => 1
  | .ptr d => uptoBulk d + 1
  | .slice elems spare => uptoBulkAll elems + uptoBulkAll spare + 1
  | .agg parts => uptoBulkAll parts + 1
  | .iface _ d => uptoBulk d + 1
  | .map entries => uptoBulkEntries entries + 1
  | .held _ => 1
def uptoBulkAll {H : Type} : List (DataW H) → Nat
  | [] => 0
  | d :: r => uptoBulk d + uptoBulkAll r
def uptoBulkEntries {H : Type} : List (Lit × DataW H) → Nat
  | [] => 0
  | x :: r => uptoBulkEntry x + uptoBulkEntries r
def uptoBulkEntry {H : Type} : Lit × DataW H → Nat
  | (.string bytes, d) => bytes.length + uptoBulk d + 1
  | (_, d) => uptoBulk d + 1
 end
def uptoSmall : (H : Type) → List (DataW H) → Bool := fun _ ds => decide (uptoBulkAll ds ≤ 1048576)
def OpenSpec.upto (s : _root_.Go.ChangeSpec) : _root_.Go.OpenSpec := { _root_.Go.OpenSpec.ofChange s with cond := some uptoSmall }

/-- 'turnstilelaw3.CipherTurned', WHERE WHAT IT READS IS OF BULK AT MOST 1048576: true; the input reads as it did. -/
def cipherTurnedUptoRow : OpenClaim := { program := "ytlnnhhnnkdfddab", sum := "82428512d50852ea27e4ba2d902714e100be81e7207e0f0d87555ad630e7b518", func := "turnstile/turnstilelaw3.CipherTurned", spec := "cipherTurned", unfollowed := true, recurses := true, apart := false, narrowed := true }
def CipherTurnedUptoSaid : Prop := cipherTurnedUptoRow.holds Try.pinned (OpenSpec.upto cipherTurnedSpec)

/-- 'turnstilelaw3.CipherParts', WHERE WHAT IT READS IS OF BULK AT MOST 1048576: true; the input reads as it did. -/
def cipherPartsUptoRow : OpenClaim := { program := "ytlnnhhnnkdfddab", sum := "82428512d50852ea27e4ba2d902714e100be81e7207e0f0d87555ad630e7b518", func := "turnstile/turnstilelaw3.CipherParts", spec := "cipherParts", unfollowed := true, recurses := true, apart := false, narrowed := true }
def CipherPartsUptoSaid : Prop := cipherPartsUptoRow.holds Try.pinned (OpenSpec.upto cipherPartsSpec)

/-- 'turnstilelaw3.CipherWeak', WHERE WHAT IT READS IS OF BULK AT MOST 1048576: true; the input reads as it did. -/
def cipherWeakUptoRow : OpenClaim := { program := "ytlnnhhnnkdfddab", sum := "82428512d50852ea27e4ba2d902714e100be81e7207e0f0d87555ad630e7b518", func := "turnstile/turnstilelaw3.CipherWeak", spec := "cipherWeak", unfollowed := true, recurses := true, apart := false, narrowed := true }
def CipherWeakUptoSaid : Prop := cipherWeakUptoRow.holds Try.pinned (OpenSpec.upto cipherWeakSpec)

/-- 'turnstilelaw3.CipherEach', WHERE WHAT IT READS IS OF BULK AT MOST 1048576: true; the input reads as it did. -/
def cipherEachUptoRow : OpenClaim := { program := "ytlnnhhnnkdfddab", sum := "82428512d50852ea27e4ba2d902714e100be81e7207e0f0d87555ad630e7b518", func := "turnstile/turnstilelaw3.CipherEach", spec := "cipherEach", unfollowed := true, recurses := true, apart := false, narrowed := true }
def CipherEachUptoSaid : Prop := cipherEachUptoRow.holds Try.pinned (OpenSpec.upto cipherEachSpec)

end Rows
end Go.Proofs.Ytlnnhhnnkdfddab
