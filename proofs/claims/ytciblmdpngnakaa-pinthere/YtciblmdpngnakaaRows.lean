/-
  No cell of these rows narrows 'for every input' (looked for: loops, veiled, ifaces, maps, wideKeys, modest, calm, conditions, laid).
  DERIVED. THE GIVEN ROWS OF THIS SEAT. 4 by the template 'for every input the law returns true; each argument reads behind the call as it read before'; 0 by the template 'total and deterministic' (their statements: YtciblmdpngnakaaTotals.lean).
  GIVEN WITH THE SEED: the statements are not yours to turn. If you find one false, say at which input.
  Laid BY PROGRAM, IN A SANDBOX (cutbox-rows.mjs): the forced cells as the released guide's own fill.sh prints them over the translation b4ffb1350417219e… (all of the seat's roots in one cut). By AI agents, Wed Nov 11 2026. No macro, syntax, notation, axiom, sorry.
-/
import Derived.Test.YtciblmdpngnakaaChecked
import GoSem.Claim
import GoSem.ClaimJoined
import GoSem.ClaimMapViews
import Derived.JoinedTies
import Derived.KernelRfl
namespace Go.Proofs.Ytciblmdpngnakaa
/- THE CELL 'sum', in the pinned program and in every row, IS THE sha256 OF THE DUMP (.gsa) THAT YtciblmdpngnakaaProg.lean LOADS. Nothing in Lean hashes anything: it is a label: what it is worth is what the hold of that sum in a sandbox is worth. -/
noncomputable def Try.pinned : Pinned := { name := "ytciblmdpngnakaa", sum := "b4ffb1350417219ef230391c293b3f393a05c06014aec8757c923027019d575a", checked := Try.checked }
namespace Rows
def none {H : Type} : Left H := { results := [], args := [] }

/-- 'turnstilelaw6.PinBlocks': WHATEVER THE INPUT: true; the input reads as it did. -/
def pinBlocksSpec : ChangeSpec := { name := "pinBlocks", fn := fun _ => fun
  | [d1, d2, d3, d4, d5] => { results := [.lit (.bool true)], args := [d1, d2, d3, d4, d5] }
  | _ => none }
def pinBlocksRow : OpenClaim := { program := "ytciblmdpngnakaa", sum := "b4ffb1350417219ef230391c293b3f393a05c06014aec8757c923027019d575a", func := "turnstile/turnstilelaw6.PinBlocks", spec := "pinBlocks", inPlace := ["internal/bytealg.IndexByteString", "internal/abi.NoEscape", "internal/bytealg.MakeNoZero"], apart := false }
def PinBlocksSaid : Prop := pinBlocksRow.holds Try.pinned (OpenSpec.ofChange pinBlocksSpec)

/-- ITS FALSE NEIGHBOUR: 'it returns false'. Refute it at one input. -/
def pinBlocksWrong : ChangeSpec := { name := "pinBlocks", fn := fun _ => fun
  | [d1, d2, d3, d4, d5] => { results := [.lit (.bool false)], args := [d1, d2, d3, d4, d5] }
  | _ => none }
def PinBlocksWrongFalsely : Prop := pinBlocksRow.holds Try.pinned (OpenSpec.ofChange pinBlocksWrong)

/-- 'turnstilelaw6.PinValues': WHATEVER THE INPUT: true; the input reads as it did. -/
def pinValuesSpec : ChangeSpec := { name := "pinValues", fn := fun _ => fun
  | [d1, d2, d3, d4] => { results := [.lit (.bool true)], args := [d1, d2, d3, d4] }
  | _ => none }
def pinValuesRow : OpenClaim := { program := "ytciblmdpngnakaa", sum := "b4ffb1350417219ef230391c293b3f393a05c06014aec8757c923027019d575a", func := "turnstile/turnstilelaw6.PinValues", spec := "pinValues", inPlace := ["internal/bytealg.IndexByteString", "internal/abi.NoEscape", "internal/bytealg.MakeNoZero"], unfollowed := true, recurses := true, apart := false }
def PinValuesSaid : Prop := pinValuesRow.holds Try.pinned (OpenSpec.ofChange pinValuesSpec)

/-- ITS FALSE NEIGHBOUR: 'it returns false'. Refute it at one input. -/
def pinValuesWrong : ChangeSpec := { name := "pinValues", fn := fun _ => fun
  | [d1, d2, d3, d4] => { results := [.lit (.bool false)], args := [d1, d2, d3, d4] }
  | _ => none }
def PinValuesWrongFalsely : Prop := pinValuesRow.holds Try.pinned (OpenSpec.ofChange pinValuesWrong)

/-- 'turnstilelaw6.PinBack': WHATEVER THE INPUT: true; the input reads as it did. -/
def pinBackSpec : ChangeSpec := { name := "pinBack", fn := fun _ => fun
  | [d1, d2, d3, d4, d5, d6, d7] => { results := [.lit (.bool true)], args := [d1, d2, d3, d4, d5, d6, d7] }
  | _ => none }
def pinBackRow : OpenClaim := { program := "ytciblmdpngnakaa", sum := "b4ffb1350417219ef230391c293b3f393a05c06014aec8757c923027019d575a", func := "turnstile/turnstilelaw6.PinBack", spec := "pinBack", inPlace := ["internal/bytealg.IndexByteString", "internal/abi.NoEscape", "internal/bytealg.MakeNoZero"], unfollowed := true, recurses := true, apart := false }
def PinBackSaid : Prop := pinBackRow.holds Try.pinned (OpenSpec.ofChange pinBackSpec)

/-- ITS FALSE NEIGHBOUR: 'it returns false'. Refute it at one input. -/
def pinBackWrong : ChangeSpec := { name := "pinBack", fn := fun _ => fun
  | [d1, d2, d3, d4, d5, d6, d7] => { results := [.lit (.bool false)], args := [d1, d2, d3, d4, d5, d6, d7] }
  | _ => none }
def PinBackWrongFalsely : Prop := pinBackRow.holds Try.pinned (OpenSpec.ofChange pinBackWrong)

/-- 'turnstilelaw6.PinThere': WHATEVER THE INPUT: true; the input reads as it did. -/
def pinThereSpec : ChangeSpec := { name := "pinThere", fn := fun _ => fun
  | [d1, d2, d3, d4, d5, d6, d7, d8, d9, d10] => { results := [.lit (.bool true)], args := [d1, d2, d3, d4, d5, d6, d7, d8, d9, d10] }
  | _ => none }
def pinThereRow : OpenClaim := { program := "ytciblmdpngnakaa", sum := "b4ffb1350417219ef230391c293b3f393a05c06014aec8757c923027019d575a", func := "turnstile/turnstilelaw6.PinThere", spec := "pinThere", inPlace := ["internal/bytealg.IndexByteString", "internal/abi.NoEscape", "internal/bytealg.MakeNoZero"], unfollowed := true, recurses := true, apart := false }
def PinThereSaid : Prop := pinThereRow.holds Try.pinned (OpenSpec.ofChange pinThereSpec)

/-- ITS FALSE NEIGHBOUR: 'it returns false'. Refute it at one input. -/
def pinThereWrong : ChangeSpec := { name := "pinThere", fn := fun _ => fun
  | [d1, d2, d3, d4, d5, d6, d7, d8, d9, d10] => { results := [.lit (.bool false)], args := [d1, d2, d3, d4, d5, d6, d7, d8, d9, d10] }
  | _ => none }
def PinThereWrongFalsely : Prop := pinThereRow.holds Try.pinned (OpenSpec.ofChange pinThereWrong)

/- THE SECOND FORM. 'bulk': how many values and letters a reading holds, each counted each time it is reached (what is shared counts as often as it is met; a slice's spare places count too). A statement '..UptoSaid' is the law's where the arguments, and the package variables that the reading takes, are together of bulk at most 1048576: NARROWER than '..Said'. Prove '..Said' where nothing that the law and all that it calls make is longer than what came in: it says more and counts as full. Else prove '..UptoSaid'. A law counts once. -/
mutual
def uptoBulk {H : Type} : DataW H → Nat
  | .lit (.string bytes) => bytes.length + 1
  | .lit _ => 1
  | .nil => 1
  | .ptr d => uptoBulk d + 1
  | .slice elems spare => uptoBulkAll elems + uptoBulkAll spare + 1
  | .agg parts => uptoBulkAll parts + 1
  | .iface _ d => uptoBulk d + 1
  | .map entries => uptoBulkEntries entries + 1
  | .held _ => 1
def uptoBulkAll {H : Type} : List (DataW H) → Nat
  | [] => 0
  | d :: r => uptoBulk d + uptoBulkAll r
def uptoBulkEntries {H : Type} : List (Lit × DataW H) → Nat
  | [] => 0
  | x :: r => uptoBulkEntry x + uptoBulkEntries r
def uptoBulkEntry {H : Type} : Lit × DataW H → Nat
  | (.string bytes, d) => bytes.length + uptoBulk d + 1
  | (_, d) => uptoBulk d + 1
 end
def uptoSmall : (H : Type) → List (DataW H) → Bool := fun _ ds => decide (uptoBulkAll ds ≤ 1048576)
def OpenSpec.upto (s : _root_.Go.ChangeSpec) : _root_.Go.OpenSpec := { _root_.Go.OpenSpec.ofChange s with cond := some uptoSmall }

/-- 'turnstilelaw6.PinBlocks', WHERE WHAT IT READS IS OF BULK AT MOST 1048576: true; the input reads as it did. -/
def pinBlocksUptoRow : OpenClaim := { program := "ytciblmdpngnakaa", sum := "b4ffb1350417219ef230391c293b3f393a05c06014aec8757c923027019d575a", func := "turnstile/turnstilelaw6.PinBlocks", spec := "pinBlocks", inPlace := ["internal/bytealg.IndexByteString", "internal/abi.NoEscape", "internal/bytealg.MakeNoZero"], apart := false, narrowed := true }
def PinBlocksUptoSaid : Prop := pinBlocksUptoRow.holds Try.pinned (OpenSpec.upto pinBlocksSpec)

/-- 'turnstilelaw6.PinValues', WHERE WHAT IT READS IS OF BULK AT MOST 1048576: true; the input reads as it did. -/
def pinValuesUptoRow : OpenClaim := { program := "ytciblmdpngnakaa", sum := "b4ffb1350417219ef230391c293b3f393a05c06014aec8757c923027019d575a", func := "turnstile/turnstilelaw6.PinValues", spec := "pinValues", inPlace := ["internal/bytealg.IndexByteString", "internal/abi.NoEscape", "internal/bytealg.MakeNoZero"], unfollowed := true, recurses := true, apart := false, narrowed := true }
def PinValuesUptoSaid : Prop := pinValuesUptoRow.holds Try.pinned (OpenSpec.upto pinValuesSpec)

/-- 'turnstilelaw6.PinBack', WHERE WHAT IT READS IS OF BULK AT MOST 1048576: true; the input reads as it did. -/
def pinBackUptoRow : OpenClaim := { program := "ytciblmdpngnakaa", sum := "b4ffb1350417219ef230391c293b3f393a05c06014aec8757c923027019d575a", func := "turnstile/turnstilelaw6.PinBack", spec := "pinBack", inPlace := ["internal/bytealg.IndexByteString", "internal/abi.NoEscape", "internal/bytealg.MakeNoZero"], unfollowed := true, recurses := true, apart := false, narrowed := true }
def PinBackUptoSaid : Prop := pinBackUptoRow.holds Try.pinned (OpenSpec.upto pinBackSpec)

/-- 'turnstilelaw6.PinThere', WHERE WHAT IT READS IS OF BULK AT MOST 1048576: true; the input reads as it did. -/
def pinThereUptoRow : OpenClaim := { program := "ytciblmdpngnakaa", sum := "b4ffb1350417219ef230391c293b3f393a05c06014aec8757c923027019d575a", func := "turnstile/turnstilelaw6.PinThere", spec := "pinThere", inPlace := ["internal/bytealg.IndexByteString", "internal/abi.NoEscape", "internal/bytealg.MakeNoZero"], unfollowed := true, recurses := true, apart := false, narrowed := true }
def PinThereUptoSaid : Prop := pinThereUptoRow.holds Try.pinned (OpenSpec.upto pinThereSpec)

end Rows
end Go.Proofs.Ytciblmdpngnakaa
