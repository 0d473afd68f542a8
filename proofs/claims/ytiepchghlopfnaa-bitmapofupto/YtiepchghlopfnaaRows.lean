/-
  No cell of these rows narrows 'for every input' (looked for: loops, veiled, ifaces, maps, wideKeys, modest, calm, conditions, laid).
  DERIVED. THE GIVEN ROWS OF THIS SEAT. 6 by the template 'for every input the law returns true; each argument reads behind the call as it read before'; 0 by the template 'total and deterministic' (their statements: YtiepchghlopfnaaTotals.lean).
  GIVEN WITH THE SEED: the statements are not yours to turn. If you find one false, say at which input.
  Laid BY PROGRAM, IN A SANDBOX (cutbox-rows.mjs): the forced cells as the released guide's own fill.sh prints them over the translation d61b61bf7b4e0ca9… (all of the seat's roots in one cut). By AI agents, Wed Nov 11 2026. No macro, syntax, notation, axiom, sorry.
-/
import Derived.Test.YtiepchghlopfnaaChecked
import GoSem.Claim
import GoSem.ClaimJoined
import GoSem.ClaimMapViews
import Derived.JoinedTies
import Derived.KernelRfl
namespace Go.Proofs.Ytiepchghlopfnaa
/- THE CELL 'sum', in the pinned program and in every row, IS THE sha256 OF THE DUMP (.gsa) THAT YtiepchghlopfnaaProg.lean LOADS. Nothing in Lean hashes anything: it is a label: what it is worth is what the hold of that sum in a sandbox is worth. -/
noncomputable def Try.pinned : Pinned := { name := "ytiepchghlopfnaa", sum := "d61b61bf7b4e0ca940d0d4dac22b55ec7e3586749b547f9043d9ae3a65221b90", checked := Try.checked }
namespace Rows
def none {H : Type} : Left H := { results := [], args := [] }

/-- 'turnstilelaw2.BitmapOf': WHATEVER THE INPUT: true; the input reads as it did. -/
def bitmapOfSpec : ChangeSpec := { name := "bitmapOf", fn := fun _ => fun
  | [d] => { results := [.lit (.bool true)], args := [d] }
  | _ => none }
def bitmapOfRow : OpenClaim := { program := "ytiepchghlopfnaa", sum := "d61b61bf7b4e0ca940d0d4dac22b55ec7e3586749b547f9043d9ae3a65221b90", func := "turnstile/turnstilelaw2.BitmapOf", spec := "bitmapOf", inPlace := ["internal/bytealg.IndexByte"], apart := false }
def BitmapOfSaid : Prop := bitmapOfRow.holds Try.pinned (OpenSpec.ofChange bitmapOfSpec)

/-- ITS FALSE NEIGHBOUR: 'it returns false'. Refute it at one input. -/
def bitmapOfWrong : ChangeSpec := { name := "bitmapOf", fn := fun _ => fun
  | [d] => { results := [.lit (.bool false)], args := [d] }
  | _ => none }
def BitmapOfWrongFalsely : Prop := bitmapOfRow.holds Try.pinned (OpenSpec.ofChange bitmapOfWrong)

/-- 'turnstilelaw2.BitmapAsks': WHATEVER THE INPUT: true; the input reads as it did. -/
def bitmapAsksSpec : ChangeSpec := { name := "bitmapAsks", fn := fun _ => fun
  | [d1, d2] => { results := [.lit (.bool true)], args := [d1, d2] }
  | _ => none }
def bitmapAsksRow : OpenClaim := { program := "ytiepchghlopfnaa", sum := "d61b61bf7b4e0ca940d0d4dac22b55ec7e3586749b547f9043d9ae3a65221b90", func := "turnstile/turnstilelaw2.BitmapAsks", spec := "bitmapAsks", inPlace := ["internal/bytealg.IndexByte"], apart := false }
def BitmapAsksSaid : Prop := bitmapAsksRow.holds Try.pinned (OpenSpec.ofChange bitmapAsksSpec)

/-- ITS FALSE NEIGHBOUR: 'it returns false'. Refute it at one input. -/
def bitmapAsksWrong : ChangeSpec := { name := "bitmapAsks", fn := fun _ => fun
  | [d1, d2] => { results := [.lit (.bool false)], args := [d1, d2] }
  | _ => none }
def BitmapAsksWrongFalsely : Prop := bitmapAsksRow.holds Try.pinned (OpenSpec.ofChange bitmapAsksWrong)

/-- 'turnstilelaw2.BitmapJoins': WHATEVER THE INPUT: true; the input reads as it did. -/
def bitmapJoinsSpec : ChangeSpec := { name := "bitmapJoins", fn := fun _ => fun
  | [d1, d2, d3] => { results := [.lit (.bool true)], args := [d1, d2, d3] }
  | _ => none }
def bitmapJoinsRow : OpenClaim := { program := "ytiepchghlopfnaa", sum := "d61b61bf7b4e0ca940d0d4dac22b55ec7e3586749b547f9043d9ae3a65221b90", func := "turnstile/turnstilelaw2.BitmapJoins", spec := "bitmapJoins", inPlace := ["internal/bytealg.IndexByte"], unfollowed := true, recurses := true, apart := false }
def BitmapJoinsSaid : Prop := bitmapJoinsRow.holds Try.pinned (OpenSpec.ofChange bitmapJoinsSpec)

/-- ITS FALSE NEIGHBOUR: 'it returns false'. Refute it at one input. -/
def bitmapJoinsWrong : ChangeSpec := { name := "bitmapJoins", fn := fun _ => fun
  | [d1, d2, d3] => { results := [.lit (.bool false)], args := [d1, d2, d3] }
  | _ => none }
def BitmapJoinsWrongFalsely : Prop := bitmapJoinsRow.holds Try.pinned (OpenSpec.ofChange bitmapJoinsWrong)

/-- 'turnstilelaw2.BitmapEncodes': WHATEVER THE INPUT: true; the input reads as it did. -/
def bitmapEncodesSpec : ChangeSpec := { name := "bitmapEncodes", fn := fun _ => fun
  | [d1, d2] => { results := [.lit (.bool true)], args := [d1, d2] }
  | _ => none }
def bitmapEncodesRow : OpenClaim := { program := "ytiepchghlopfnaa", sum := "d61b61bf7b4e0ca940d0d4dac22b55ec7e3586749b547f9043d9ae3a65221b90", func := "turnstile/turnstilelaw2.BitmapEncodes", spec := "bitmapEncodes", inPlace := ["internal/bytealg.IndexByte"], apart := false }
def BitmapEncodesSaid : Prop := bitmapEncodesRow.holds Try.pinned (OpenSpec.ofChange bitmapEncodesSpec)

/-- ITS FALSE NEIGHBOUR: 'it returns false'. Refute it at one input. -/
def bitmapEncodesWrong : ChangeSpec := { name := "bitmapEncodes", fn := fun _ => fun
  | [d1, d2] => { results := [.lit (.bool false)], args := [d1, d2] }
  | _ => none }
def BitmapEncodesWrongFalsely : Prop := bitmapEncodesRow.holds Try.pinned (OpenSpec.ofChange bitmapEncodesWrong)

/-- 'turnstilelaw2.BitmapDecodes': WHATEVER THE INPUT: true; the input reads as it did. -/
def bitmapDecodesSpec : ChangeSpec := { name := "bitmapDecodes", fn := fun _ => fun
  | [d1, d2] => { results := [.lit (.bool true)], args := [d1, d2] }
  | _ => none }
def bitmapDecodesRow : OpenClaim := { program := "ytiepchghlopfnaa", sum := "d61b61bf7b4e0ca940d0d4dac22b55ec7e3586749b547f9043d9ae3a65221b90", func := "turnstile/turnstilelaw2.BitmapDecodes", spec := "bitmapDecodes", inPlace := ["internal/bytealg.IndexByte"], apart := false }
def BitmapDecodesSaid : Prop := bitmapDecodesRow.holds Try.pinned (OpenSpec.ofChange bitmapDecodesSpec)

/-- ITS FALSE NEIGHBOUR: 'it returns false'. Refute it at one input. -/
def bitmapDecodesWrong : ChangeSpec := { name := "bitmapDecodes", fn := fun _ => fun
  | [d1, d2] => { results := [.lit (.bool false)], args := [d1, d2] }
  | _ => none }
def BitmapDecodesWrongFalsely : Prop := bitmapDecodesRow.holds Try.pinned (OpenSpec.ofChange bitmapDecodesWrong)

/-- 'turnstilelaw2.BitmapBack': WHATEVER THE INPUT: true; the input reads as it did. -/
def bitmapBackSpec : ChangeSpec := { name := "bitmapBack", fn := fun _ => fun
  | [d1, d2, d3] => { results := [.lit (.bool true)], args := [d1, d2, d3] }
  | _ => none }
def bitmapBackRow : OpenClaim := { program := "ytiepchghlopfnaa", sum := "d61b61bf7b4e0ca940d0d4dac22b55ec7e3586749b547f9043d9ae3a65221b90", func := "turnstile/turnstilelaw2.BitmapBack", spec := "bitmapBack", inPlace := ["internal/bytealg.IndexByte"], unfollowed := true, recurses := true, apart := false }
def BitmapBackSaid : Prop := bitmapBackRow.holds Try.pinned (OpenSpec.ofChange bitmapBackSpec)

/-- ITS FALSE NEIGHBOUR: 'it returns false'. Refute it at one input. -/
def bitmapBackWrong : ChangeSpec := { name := "bitmapBack", fn := fun _ => fun
  | [d1, d2, d3] => { results := [.lit (.bool false)], args := [d1, d2, d3] }
  | _ => none }
def BitmapBackWrongFalsely : Prop := bitmapBackRow.holds Try.pinned (OpenSpec.ofChange bitmapBackWrong)

/- THE SECOND FORM. 'bulk': how many values and letters a reading holds, each counted each time it is reached (what is shared counts as often as it is met; a slice's spare places count too). A statement '..UptoSaid' is the law's where the arguments, and the package variables that the reading takes, are together of bulk at most 1048576: NARROWER than '..Said'. Prove '..Said' where nothing that the law and all that it calls make is longer than what came in: it says more and counts as full. Else prove '..UptoSaid'. A law counts once. -/
mutual
def uptoBulk {H : Type} : DataW H → Nat
  | .lit (.string bytes) => bytes.length + 1
  | .lit _ => 1
  | .nil => 1
  | .ptr d => uptoBulk d + 1
  | .slice elems spare => uptoBulkAll elems + uptoBulkAll spare + 1
  | .agg parts => uptoBulkAll parts + 1
  | .iface _ d => uptoBulk d + 1
  | .map entries => uptoBulkEntries entries + 1
  | .held _ => 1
def uptoBulkAll {H : Type} : List (DataW H) → Nat
  | [] => 0
  | d :: r => uptoBulk d + uptoBulkAll r
def uptoBulkEntries {H : Type} : List (Lit × DataW H) → Nat
  | [] => 0
  | x :: r => uptoBulkEntry x + uptoBulkEntries r
def uptoBulkEntry {H : Type} : Lit × DataW H → Nat
  | (.string bytes, d) => bytes.length + uptoBulk d + 1
  | (_, d) => uptoBulk d + 1
 end
def uptoSmall : (H : Type) → List (DataW H) → Bool := fun _ ds => decide (uptoBulkAll ds ≤ 1048576)
def OpenSpec.upto (s : _root_.Go.ChangeSpec) : _root_.Go.OpenSpec := { _root_.Go.OpenSpec.ofChange s with cond := some uptoSmall }

/-- 'turnstilelaw2.BitmapOf', WHERE WHAT IT READS IS OF BULK AT MOST 1048576: true; the input reads as it did. -/
def bitmapOfUptoRow : OpenClaim := { program := "ytiepchghlopfnaa", sum := "d61b61bf7b4e0ca940d0d4dac22b55ec7e3586749b547f9043d9ae3a65221b90", func := "turnstile/turnstilelaw2.BitmapOf", spec := "bitmapOf", inPlace := ["internal/bytealg.IndexByte"], apart := false, narrowed := true }
def BitmapOfUptoSaid : Prop := bitmapOfUptoRow.holds Try.pinned (OpenSpec.upto bitmapOfSpec)

/-- 'turnstilelaw2.BitmapAsks', WHERE WHAT IT READS IS OF BULK AT MOST 1048576: true; the input reads as it did. -/
def bitmapAsksUptoRow : OpenClaim := { program := "ytiepchghlopfnaa", sum := "d61b61bf7b4e0ca940d0d4dac22b55ec7e3586749b547f9043d9ae3a65221b90", func := "turnstile/turnstilelaw2.BitmapAsks", spec := "bitmapAsks", inPlace := ["internal/bytealg.IndexByte"], apart := false, narrowed := true }
def BitmapAsksUptoSaid : Prop := bitmapAsksUptoRow.holds Try.pinned (OpenSpec.upto bitmapAsksSpec)

/-- 'turnstilelaw2.BitmapJoins', WHERE WHAT IT READS IS OF BULK AT MOST 1048576: true; the input reads as it did. -/
def bitmapJoinsUptoRow : OpenClaim := { program := "ytiepchghlopfnaa", sum := "d61b61bf7b4e0ca940d0d4dac22b55ec7e3586749b547f9043d9ae3a65221b90", func := "turnstile/turnstilelaw2.BitmapJoins", spec := "bitmapJoins", inPlace := ["internal/bytealg.IndexByte"], unfollowed := true, recurses := true, apart := false, narrowed := true }
def BitmapJoinsUptoSaid : Prop := bitmapJoinsUptoRow.holds Try.pinned (OpenSpec.upto bitmapJoinsSpec)

/-- 'turnstilelaw2.BitmapEncodes', WHERE WHAT IT READS IS OF BULK AT MOST 1048576: true; the input reads as it did. -/
def bitmapEncodesUptoRow : OpenClaim := { program := "ytiepchghlopfnaa", sum := "d61b61bf7b4e0ca940d0d4dac22b55ec7e3586749b547f9043d9ae3a65221b90", func := "turnstile/turnstilelaw2.BitmapEncodes", spec := "bitmapEncodes", inPlace := ["internal/bytealg.IndexByte"], apart := false, narrowed := true }
def BitmapEncodesUptoSaid : Prop := bitmapEncodesUptoRow.holds Try.pinned (OpenSpec.upto bitmapEncodesSpec)

/-- 'turnstilelaw2.BitmapDecodes', WHERE WHAT IT READS IS OF BULK AT MOST 1048576: true; the input reads as it did. -/
def bitmapDecodesUptoRow : OpenClaim := { program := "ytiepchghlopfnaa", sum := "d61b61bf7b4e0ca940d0d4dac22b55ec7e3586749b547f9043d9ae3a65221b90", func := "turnstile/turnstilelaw2.BitmapDecodes", spec := "bitmapDecodes", inPlace := ["internal/bytealg.IndexByte"], apart := false, narrowed := true }
def BitmapDecodesUptoSaid : Prop := bitmapDecodesUptoRow.holds Try.pinned (OpenSpec.upto bitmapDecodesSpec)

/-- 'turnstilelaw2.BitmapBack', WHERE WHAT IT READS IS OF BULK AT MOST 1048576: true; the input reads as it did. -/
def bitmapBackUptoRow : OpenClaim := { program := "ytiepchghlopfnaa", sum := "d61b61bf7b4e0ca940d0d4dac22b55ec7e3586749b547f9043d9ae3a65221b90", func := "turnstile/turnstilelaw2.BitmapBack", spec := "bitmapBack", inPlace := ["internal/bytealg.IndexByte"], unfollowed := true, recurses := true, apart := false, narrowed := true }
def BitmapBackUptoSaid : Prop := bitmapBackUptoRow.holds Try.pinned (OpenSpec.upto bitmapBackSpec)

end Rows
end Go.Proofs.Ytiepchghlopfnaa
