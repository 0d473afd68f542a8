/-
  No cell of these rows narrows 'for every input' (looked for: loops, veiled, ifaces, maps, wideKeys, modest, calm, conditions, laid).
  DERIVED. THE GIVEN ROWS OF THIS SEAT. 6 by the template 'for every input the law returns true; each argument reads behind the call as it read before'; 0 by the template 'total and deterministic' (their statements: YtlnnhhnnkdfddaaTotals.lean).
  GIVEN WITH THE SEED: the statements are not yours to turn. If you find one false, say at which input.
  Laid BY PROGRAM, IN A SANDBOX (cutbox-rows.mjs): the forced cells as the released guide's own fill.sh prints them over the translation 58494b5212112485… (all of the seat's roots in one cut). By AI agents, Wed Nov 11 2026. No macro, syntax, notation, axiom, sorry.
-/
import Derived.Test.YtlnnhhnnkdfddaaChecked
import GoSem.Claim
import GoSem.ClaimJoined
import GoSem.ClaimMapViews
import Derived.JoinedTies
import Derived.KernelRfl
namespace Go.Proofs.Ytlnnhhnnkdfddaa
/- THE CELL 'sum', in the pinned program and in every row, IS THE sha256 OF THE DUMP (.gsa) THAT YtlnnhhnnkdfddaaProg.lean LOADS. Nothing in Lean hashes anything: it is a label: what it is worth is what the hold of that sum in a sandbox is worth. -/
noncomputable def Try.pinned : Pinned := { name := "ytlnnhhnnkdfddaa", sum := "58494b5212112485d5ee61b4b639cb8ee626a11b1169a37920a025bb7ece568e", checked := Try.checked }
namespace Rows
def none {H : Type} : Left H := { results := [], args := [] }

/-- 'turnstilelaw3.CipherTurns': WHATEVER THE INPUT: true; the input reads as it did. -/
def cipherTurnsSpec : ChangeSpec := { name := "cipherTurns", fn := fun _ => fun
  | [d1, d2] => { results := [.lit (.bool true)], args := [d1, d2] }
  | _ => none }
def cipherTurnsRow : OpenClaim := { program := "ytlnnhhnnkdfddaa", sum := "58494b5212112485d5ee61b4b639cb8ee626a11b1169a37920a025bb7ece568e", func := "turnstile/turnstilelaw3.CipherTurns", spec := "cipherTurns", unfollowed := true, recurses := true, apart := false }
def CipherTurnsSaid : Prop := cipherTurnsRow.holds Try.pinned (OpenSpec.ofChange cipherTurnsSpec)

/-- ITS FALSE NEIGHBOUR: 'it returns false'. Refute it at one input. -/
def cipherTurnsWrong : ChangeSpec := { name := "cipherTurns", fn := fun _ => fun
  | [d1, d2] => { results := [.lit (.bool false)], args := [d1, d2] }
  | _ => none }
def CipherTurnsWrongFalsely : Prop := cipherTurnsRow.holds Try.pinned (OpenSpec.ofChange cipherTurnsWrong)

/-- 'turnstilelaw3.CipherChains': WHATEVER THE INPUT: true; the input reads as it did. -/
def cipherChainsSpec : ChangeSpec := { name := "cipherChains", fn := fun _ => fun
  | [d1, d2, d3] => { results := [.lit (.bool true)], args := [d1, d2, d3] }
  | _ => none }
def cipherChainsRow : OpenClaim := { program := "ytlnnhhnnkdfddaa", sum := "58494b5212112485d5ee61b4b639cb8ee626a11b1169a37920a025bb7ece568e", func := "turnstile/turnstilelaw3.CipherChains", spec := "cipherChains", unfollowed := true, recurses := true, apart := false }
def CipherChainsSaid : Prop := cipherChainsRow.holds Try.pinned (OpenSpec.ofChange cipherChainsSpec)

/-- ITS FALSE NEIGHBOUR: 'it returns false'. Refute it at one input. -/
def cipherChainsWrong : ChangeSpec := { name := "cipherChains", fn := fun _ => fun
  | [d1, d2, d3] => { results := [.lit (.bool false)], args := [d1, d2, d3] }
  | _ => none }
def CipherChainsWrongFalsely : Prop := cipherChainsRow.holds Try.pinned (OpenSpec.ofChange cipherChainsWrong)

/-- 'turnstilelaw3.CipherKeys': WHATEVER THE INPUT: true; the input reads as it did. -/
def cipherKeysSpec : ChangeSpec := { name := "cipherKeys", fn := fun _ => fun
  | [d] => { results := [.lit (.bool true)], args := [d] }
  | _ => none }
def cipherKeysRow : OpenClaim := { program := "ytlnnhhnnkdfddaa", sum := "58494b5212112485d5ee61b4b639cb8ee626a11b1169a37920a025bb7ece568e", func := "turnstile/turnstilelaw3.CipherKeys", spec := "cipherKeys", unfollowed := true, recurses := true, apart := false }
def CipherKeysSaid : Prop := cipherKeysRow.holds Try.pinned (OpenSpec.ofChange cipherKeysSpec)

/-- ITS FALSE NEIGHBOUR: 'it returns false'. Refute it at one input. -/
def cipherKeysWrong : ChangeSpec := { name := "cipherKeys", fn := fun _ => fun
  | [d] => { results := [.lit (.bool false)], args := [d] }
  | _ => none }
def CipherKeysWrongFalsely : Prop := cipherKeysRow.holds Try.pinned (OpenSpec.ofChange cipherKeysWrong)

/-- 'turnstilelaw3.CipherXors': WHATEVER THE INPUT: true; the input reads as it did. -/
def cipherXorsSpec : ChangeSpec := { name := "cipherXors", fn := fun _ => fun
  | [d1, d2] => { results := [.lit (.bool true)], args := [d1, d2] }
  | _ => none }
def cipherXorsRow : OpenClaim := { program := "ytlnnhhnnkdfddaa", sum := "58494b5212112485d5ee61b4b639cb8ee626a11b1169a37920a025bb7ece568e", func := "turnstile/turnstilelaw3.CipherXors", spec := "cipherXors", unfollowed := true, recurses := true, apart := false }
def CipherXorsSaid : Prop := cipherXorsRow.holds Try.pinned (OpenSpec.ofChange cipherXorsSpec)

/-- ITS FALSE NEIGHBOUR: 'it returns false'. Refute it at one input. -/
def cipherXorsWrong : ChangeSpec := { name := "cipherXors", fn := fun _ => fun
  | [d1, d2] => { results := [.lit (.bool false)], args := [d1, d2] }
  | _ => none }
def CipherXorsWrongFalsely : Prop := cipherXorsRow.holds Try.pinned (OpenSpec.ofChange cipherXorsWrong)

/-- 'turnstilelaw3.CipherApart': WHATEVER THE INPUT: true; the input reads as it did. -/
def cipherApartSpec : ChangeSpec := { name := "cipherApart", fn := fun _ => fun
  | [d1, d2, d3, d4] => { results := [.lit (.bool true)], args := [d1, d2, d3, d4] }
  | _ => none }
def cipherApartRow : OpenClaim := { program := "ytlnnhhnnkdfddaa", sum := "58494b5212112485d5ee61b4b639cb8ee626a11b1169a37920a025bb7ece568e", func := "turnstile/turnstilelaw3.CipherApart", spec := "cipherApart", unfollowed := true, recurses := true, apart := false }
def CipherApartSaid : Prop := cipherApartRow.holds Try.pinned (OpenSpec.ofChange cipherApartSpec)

/-- ITS FALSE NEIGHBOUR: 'it returns false'. Refute it at one input. -/
def cipherApartWrong : ChangeSpec := { name := "cipherApart", fn := fun _ => fun
  | [d1, d2, d3, d4] => { results := [.lit (.bool false)], args := [d1, d2, d3, d4] }
  | _ => none }
def CipherApartWrongFalsely : Prop := cipherApartRow.holds Try.pinned (OpenSpec.ofChange cipherApartWrong)

/-- 'turnstilelaw3.CipherBack': WHATEVER THE INPUT: true; the input reads as it did. -/
def cipherBackSpec : ChangeSpec := { name := "cipherBack", fn := fun _ => fun
  | [d1, d2, d3, d4] => { results := [.lit (.bool true)], args := [d1, d2, d3, d4] }
  | _ => none }
def cipherBackRow : OpenClaim := { program := "ytlnnhhnnkdfddaa", sum := "58494b5212112485d5ee61b4b639cb8ee626a11b1169a37920a025bb7ece568e", func := "turnstile/turnstilelaw3.CipherBack", spec := "cipherBack", unfollowed := true, recurses := true, apart := false }
def CipherBackSaid : Prop := cipherBackRow.holds Try.pinned (OpenSpec.ofChange cipherBackSpec)

/-- ITS FALSE NEIGHBOUR: 'it returns false'. Refute it at one input. -/
def cipherBackWrong : ChangeSpec := { name := "cipherBack", fn := fun _ => fun
  | [d1, d2, d3, d4] => { results := [.lit (.bool false)], args := [d1, d2, d3, d4] }
  | _ => none }
def CipherBackWrongFalsely : Prop := cipherBackRow.holds Try.pinned (OpenSpec.ofChange cipherBackWrong)

/- THE SECOND FORM. 'bulk': how many values and letters a reading holds, each counted each time it is reached (what is shared counts as often as it is met; a slice's spare places count too). A statement '..UptoSaid' is the law's where the arguments, and the package variables that the reading takes, are together of bulk at most 1048576: NARROWER than '..Said'. Prove '..Said' where nothing that the law and all that it calls make is longer than what came in: it says more and counts as full. Else prove '..UptoSaid'. A law counts once. -/
mutual
def uptoBulk {H : Type} : DataW H → Nat
  | .lit (.string bytes) => bytes.length + 1
  | .lit _ => 1
  | .nil => 1
  | .ptr d => uptoBulk d + 1
  | .slice elems spare => uptoBulkAll elems + uptoBulkAll spare + 1
  | .agg parts => uptoBulkAll parts + 1
  | .iface _ d => uptoBulk d + 1
  | .map entries => uptoBulkEntries entries + 1
  | .held _ => 1
def uptoBulkAll {H : Type} : List (DataW H) → Nat
  | [] => 0
  | d :: r => uptoBulk d + uptoBulkAll r
def uptoBulkEntries {H : Type} : List (Lit × DataW H) → Nat
  | [] => 0
  | x :: r => uptoBulkEntry x + uptoBulkEntries r
def uptoBulkEntry {H : Type} : Lit × DataW H → Nat
  | (.string bytes, d) => bytes.length + uptoBulk d + 1
  | (_, d) => uptoBulk d + 1
 end
def uptoSmall : (H : Type) → List (DataW H) → Bool := fun _ ds => decide (uptoBulkAll ds ≤ 1048576)
def OpenSpec.upto (s : _root_.Go.ChangeSpec) : _root_.Go.OpenSpec := { _root_.Go.OpenSpec.ofChange s with cond := some uptoSmall }

/-- 'turnstilelaw3.CipherTurns', WHERE WHAT IT READS IS OF BULK AT MOST 1048576: true; the input reads as it did. -/
def cipherTurnsUptoRow : OpenClaim := { program := "ytlnnhhnnkdfddaa", sum := "58494b5212112485d5ee61b4b639cb8ee626a11b1169a37920a025bb7ece568e", func := "turnstile/turnstilelaw3.CipherTurns", spec := "cipherTurns", unfollowed := true, recurses := true, apart := false, narrowed := true }
def CipherTurnsUptoSaid : Prop := cipherTurnsUptoRow.holds Try.pinned (OpenSpec.upto cipherTurnsSpec)

/-- 'turnstilelaw3.CipherChains', WHERE WHAT IT READS IS OF BULK AT MOST 1048576: true; the input reads as it did. -/
def cipherChainsUptoRow : OpenClaim := { program := "ytlnnhhnnkdfddaa", sum := "58494b5212112485d5ee61b4b639cb8ee626a11b1169a37920a025bb7ece568e", func := "turnstile/turnstilelaw3.CipherChains", spec := "cipherChains", unfollowed := true, recurses := true, apart := false, narrowed := true }
def CipherChainsUptoSaid : Prop := cipherChainsUptoRow.holds Try.pinned (OpenSpec.upto cipherChainsSpec)

/-- 'turnstilelaw3.CipherKeys', WHERE WHAT IT READS IS OF BULK AT MOST 1048576: true; the input reads as it did. -/
def cipherKeysUptoRow : OpenClaim := { program := "ytlnnhhnnkdfddaa", sum := "58494b5212112485d5ee61b4b639cb8ee626a11b1169a37920a025bb7ece568e", func := "turnstile/turnstilelaw3.CipherKeys", spec := "cipherKeys", unfollowed := true, recurses := true, apart := false, narrowed := true }
def CipherKeysUptoSaid : Prop := cipherKeysUptoRow.holds Try.pinned (OpenSpec.upto cipherKeysSpec)

/-- 'turnstilelaw3.CipherXors', WHERE WHAT IT READS IS OF BULK AT MOST 1048576: true; the input reads as it did. -/
def cipherXorsUptoRow : OpenClaim := { program := "ytlnnhhnnkdfddaa", sum := "58494b5212112485d5ee61b4b639cb8ee626a11b1169a37920a025bb7ece568e", func := "turnstile/turnstilelaw3.CipherXors", spec := "cipherXors", unfollowed := true, recurses := true, apart := false, narrowed := true }
def CipherXorsUptoSaid : Prop := cipherXorsUptoRow.holds Try.pinned (OpenSpec.upto cipherXorsSpec)

/-- 'turnstilelaw3.CipherApart', WHERE WHAT IT READS IS OF BULK AT MOST 1048576: true; the input reads as it did. -/
def cipherApartUptoRow : OpenClaim := { program := "ytlnnhhnnkdfddaa", sum := "58494b5212112485d5ee61b4b639cb8ee626a11b1169a37920a025bb7ece568e", func := "turnstile/turnstilelaw3.CipherApart", spec := "cipherApart", unfollowed := true, recurses := true, apart := false, narrowed := true }
def CipherApartUptoSaid : Prop := cipherApartUptoRow.holds Try.pinned (OpenSpec.upto cipherApartSpec)

/-- 'turnstilelaw3.CipherBack', WHERE WHAT IT READS IS OF BULK AT MOST 1048576: true; the input reads as it did. -/
def cipherBackUptoRow : OpenClaim := { program := "ytlnnhhnnkdfddaa", sum := "58494b5212112485d5ee61b4b639cb8ee626a11b1169a37920a025bb7ece568e", func := "turnstile/turnstilelaw3.CipherBack", spec := "cipherBack", unfollowed := true, recurses := true, apart := false, narrowed := true }
def CipherBackUptoSaid : Prop := cipherBackUptoRow.holds Try.pinned (OpenSpec.upto cipherBackSpec)

end Rows
end Go.Proofs.Ytlnnhhnnkdfddaa
