/-
  No cell of these rows narrows 'for every input' (looked for: loops, veiled, ifaces, maps, wideKeys, modest, calm, conditions, laid).
  DERIVED. THE GIVEN ROWS OF THIS SEAT. 5 by the template 'for every input the law returns true; each argument reads behind the call as it read before'; 0 by the template 'total and deterministic' (their statements: YtpifebapodfeaaaTotals.lean).
  GIVEN WITH THE SEED: the statements are not yours to turn. If you find one false, say at which input.
  Laid BY PROGRAM, IN A SANDBOX (cutbox-rows.mjs): the forced cells as the released guide's own fill.sh prints them over the translation 4543acfa93a9b592… (all of the seat's roots in one cut). By AI agents, Wed Nov 11 2026. No macro, syntax, notation, axiom, sorry.
-/
import Derived.Test.YtpifebapodfeaaaChecked
import GoSem.Claim
import GoSem.ClaimJoined
import GoSem.ClaimMapViews
import Derived.JoinedTies
import Derived.KernelRfl
namespace Go.Proofs.Ytpifebapodfeaaa
/- THE CELL 'sum', in the pinned program and in every row, IS THE sha256 OF THE DUMP (.gsa) THAT YtpifebapodfeaaaProg.lean LOADS. Nothing in Lean hashes anything: it is a label: what it is worth is what the hold of that sum in a sandbox is worth. -/
noncomputable def Try.pinned : Pinned := { name := "ytpifebapodfeaaa", sum := "4543acfa93a9b592ed49e45744e007692caf81190486d89d2681dd6d38ae1062", checked := Try.checked }
namespace Rows
def none {H : Type} : Left H := { results := [], args := [] }

/-- 'turnstilelaw4.SealPads': WHATEVER THE INPUT: true; the input reads as it did. -/
def sealPadsSpec : ChangeSpec := { name := "sealPads", fn := fun _ => fun
  | [d1, d2, d3] => { results := [.lit (.bool true)], args := [d1, d2, d3] }
  | _ => none }
def sealPadsRow : OpenClaim := { program := "ytpifebapodfeaaa", sum := "4543acfa93a9b592ed49e45744e007692caf81190486d89d2681dd6d38ae1062", func := "turnstile/turnstilelaw4.SealPads", spec := "sealPads", apart := false }
def SealPadsSaid : Prop := sealPadsRow.holds Try.pinned (OpenSpec.ofChange sealPadsSpec)

/-- ITS FALSE NEIGHBOUR: 'it returns false'. Refute it at one input. -/
def sealPadsWrong : ChangeSpec := { name := "sealPads", fn := fun _ => fun
  | [d1, d2, d3] => { results := [.lit (.bool false)], args := [d1, d2, d3] }
  | _ => none }
def SealPadsWrongFalsely : Prop := sealPadsRow.holds Try.pinned (OpenSpec.ofChange sealPadsWrong)

/-- 'turnstilelaw4.SealTags': WHATEVER THE INPUT: true; the input reads as it did. -/
def sealTagsSpec : ChangeSpec := { name := "sealTags", fn := fun _ => fun
  | [d1, d2, d3, d4] => { results := [.lit (.bool true)], args := [d1, d2, d3, d4] }
  | _ => none }
def sealTagsRow : OpenClaim := { program := "ytpifebapodfeaaa", sum := "4543acfa93a9b592ed49e45744e007692caf81190486d89d2681dd6d38ae1062", func := "turnstile/turnstilelaw4.SealTags", spec := "sealTags", unfollowed := true, recurses := true, apart := false }
def SealTagsSaid : Prop := sealTagsRow.holds Try.pinned (OpenSpec.ofChange sealTagsSpec)

/-- ITS FALSE NEIGHBOUR: 'it returns false'. Refute it at one input. -/
def sealTagsWrong : ChangeSpec := { name := "sealTags", fn := fun _ => fun
  | [d1, d2, d3, d4] => { results := [.lit (.bool false)], args := [d1, d2, d3, d4] }
  | _ => none }
def SealTagsWrongFalsely : Prop := sealTagsRow.holds Try.pinned (OpenSpec.ofChange sealTagsWrong)

/-- 'turnstilelaw4.SealSteps': WHATEVER THE INPUT: true; the input reads as it did. -/
def sealStepsSpec : ChangeSpec := { name := "sealSteps", fn := fun _ => fun
  | [d1, d2, d3, d4] => { results := [.lit (.bool true)], args := [d1, d2, d3, d4] }
  | _ => none }
def sealStepsRow : OpenClaim := { program := "ytpifebapodfeaaa", sum := "4543acfa93a9b592ed49e45744e007692caf81190486d89d2681dd6d38ae1062", func := "turnstile/turnstilelaw4.SealSteps", spec := "sealSteps", unfollowed := true, recurses := true, apart := false }
def SealStepsSaid : Prop := sealStepsRow.holds Try.pinned (OpenSpec.ofChange sealStepsSpec)

/-- ITS FALSE NEIGHBOUR: 'it returns false'. Refute it at one input. -/
def sealStepsWrong : ChangeSpec := { name := "sealSteps", fn := fun _ => fun
  | [d1, d2, d3, d4] => { results := [.lit (.bool false)], args := [d1, d2, d3, d4] }
  | _ => none }
def SealStepsWrongFalsely : Prop := sealStepsRow.holds Try.pinned (OpenSpec.ofChange sealStepsWrong)

/-- 'turnstilelaw4.SealFilled': WHATEVER THE INPUT: true; the input reads as it did. -/
def sealFilledSpec : ChangeSpec := { name := "sealFilled", fn := fun _ => fun
  | [d1, d2, d3, d4] => { results := [.lit (.bool true)], args := [d1, d2, d3, d4] }
  | _ => none }
def sealFilledRow : OpenClaim := { program := "ytpifebapodfeaaa", sum := "4543acfa93a9b592ed49e45744e007692caf81190486d89d2681dd6d38ae1062", func := "turnstile/turnstilelaw4.SealFilled", spec := "sealFilled", unfollowed := true, recurses := true, apart := false }
def SealFilledSaid : Prop := sealFilledRow.holds Try.pinned (OpenSpec.ofChange sealFilledSpec)

/-- ITS FALSE NEIGHBOUR: 'it returns false'. Refute it at one input. -/
def sealFilledWrong : ChangeSpec := { name := "sealFilled", fn := fun _ => fun
  | [d1, d2, d3, d4] => { results := [.lit (.bool false)], args := [d1, d2, d3, d4] }
  | _ => none }
def SealFilledWrongFalsely : Prop := sealFilledRow.holds Try.pinned (OpenSpec.ofChange sealFilledWrong)

/-- 'turnstilelaw4.SealKeys': WHATEVER THE INPUT: true; the input reads as it did. -/
def sealKeysSpec : ChangeSpec := { name := "sealKeys", fn := fun _ => fun
  | [d1, d2, d3, d4] => { results := [.lit (.bool true)], args := [d1, d2, d3, d4] }
  | _ => none }
def sealKeysRow : OpenClaim := { program := "ytpifebapodfeaaa", sum := "4543acfa93a9b592ed49e45744e007692caf81190486d89d2681dd6d38ae1062", func := "turnstile/turnstilelaw4.SealKeys", spec := "sealKeys", unfollowed := true, recurses := true, apart := false }
def SealKeysSaid : Prop := sealKeysRow.holds Try.pinned (OpenSpec.ofChange sealKeysSpec)

/-- ITS FALSE NEIGHBOUR: 'it returns false'. Refute it at one input. -/
def sealKeysWrong : ChangeSpec := { name := "sealKeys", fn := fun _ => fun
  | [d1, d2, d3, d4] => { results := [.lit (.bool false)], args := [d1, d2, d3, d4] }
  | _ => none }
def SealKeysWrongFalsely : Prop := sealKeysRow.holds Try.pinned (OpenSpec.ofChange sealKeysWrong)

/- THE SECOND FORM. 'bulk': how many values and letters a reading holds, each counted each time it is reached (what is shared counts as often as it is met; a slice's spare places count too). A statement '..UptoSaid' is the law's where the arguments, and the package variables that the reading takes, are together of bulk at most 1048576: NARROWER than '..Said'. Prove '..Said' where nothing that the law and all that it calls make is longer than what came in: it says more and counts as full. Else prove '..UptoSaid'. A law counts once. -/
mutual
def uptoBulk {H : Type} : DataW H → Nat
  | .lit (.string bytes) => bytes.length + 1
  | .lit _ => 1
  | .nil => 1
  | .ptr d => uptoBulk d + 1
  | .slice elems spare => uptoBulkAll elems + uptoBulkAll spare + 1
  | .agg parts => uptoBulkAll parts + 1
  | .iface _ d => uptoBulk d + 1
  | .map entries => uptoBulkEntries entries + 1
  | .held _ => 1
def uptoBulkAll {H : Type} : List (DataW H) → Nat
  | [] => 0
  | d :: r => uptoBulk d + uptoBulkAll r
def uptoBulkEntries {H : Type} : List (Lit × DataW H) → Nat
  | [] => 0
  | x :: r => uptoBulkEntry x + uptoBulkEntries r
def uptoBulkEntry {H : Type} : Lit × DataW H → Nat
  | (.string bytes, d) => bytes.length + uptoBulk d + 1
  | (_, d) => uptoBulk d + 1
 end
def uptoSmall : (H : Type) → List (DataW H) → Bool := fun _ ds => decide (uptoBulkAll ds ≤ 1048576)
def OpenSpec.upto (s : _root_.Go.ChangeSpec) : _root_.Go.OpenSpec := { _root_.Go.OpenSpec.ofChange s with cond := some uptoSmall }

/-- 'turnstilelaw4.SealPads', WHERE WHAT IT READS IS OF BULK AT MOST 1048576: true; the input reads as it did. -/
def sealPadsUptoRow : OpenClaim := { program := "ytpifebapodfeaaa", sum := "4543acfa93a9b592ed49e45744e007692caf81190486d89d2681dd6d38ae1062", func := "turnstile/turnstilelaw4.SealPads", spec := "sealPads", apart := false, narrowed := true }
def SealPadsUptoSaid : Prop := sealPadsUptoRow.holds Try.pinned (OpenSpec.upto sealPadsSpec)

/-- 'turnstilelaw4.SealTags', WHERE WHAT IT READS IS OF BULK AT MOST 1048576: true; the input reads as it did. -/
def sealTagsUptoRow : OpenClaim := { program := "ytpifebapodfeaaa", sum := "4543acfa93a9b592ed49e45744e007692caf81190486d89d2681dd6d38ae1062", func := "turnstile/turnstilelaw4.SealTags", spec := "sealTags", unfollowed := true, recurses := true, apart := false, narrowed := true }
def SealTagsUptoSaid : Prop := sealTagsUptoRow.holds Try.pinned (OpenSpec.upto sealTagsSpec)

/-- 'turnstilelaw4.SealSteps', WHERE WHAT IT READS IS OF BULK AT MOST 1048576: true; the input reads as it did. -/
def sealStepsUptoRow : OpenClaim := { program := "ytpifebapodfeaaa", sum := "4543acfa93a9b592ed49e45744e007692caf81190486d89d2681dd6d38ae1062", func := "turnstile/turnstilelaw4.SealSteps", spec := "sealSteps", unfollowed := true, recurses := true, apart := false, narrowed := true }
def SealStepsUptoSaid : Prop := sealStepsUptoRow.holds Try.pinned (OpenSpec.upto sealStepsSpec)

/-- 'turnstilelaw4.SealFilled', WHERE WHAT IT READS IS OF BULK AT MOST 1048576: true; the input reads as it did. -/
def sealFilledUptoRow : OpenClaim := { program := "ytpifebapodfeaaa", sum := "4543acfa93a9b592ed49e45744e007692caf81190486d89d2681dd6d38ae1062", func := "turnstile/turnstilelaw4.SealFilled", spec := "sealFilled", unfollowed := true, recurses := true, apart := false, narrowed := true }
def SealFilledUptoSaid : Prop := sealFilledUptoRow.holds Try.pinned (OpenSpec.upto sealFilledSpec)

/-- 'turnstilelaw4.SealKeys', WHERE WHAT IT READS IS OF BULK AT MOST 1048576: true; the input reads as it did. -/
def sealKeysUptoRow : OpenClaim := { program := "ytpifebapodfeaaa", sum := "4543acfa93a9b592ed49e45744e007692caf81190486d89d2681dd6d38ae1062", func := "turnstile/turnstilelaw4.SealKeys", spec := "sealKeys", unfollowed := true, recurses := true, apart := false, narrowed := true }
def SealKeysUptoSaid : Prop := sealKeysUptoRow.holds Try.pinned (OpenSpec.upto sealKeysSpec)

end Rows
end Go.Proofs.Ytpifebapodfeaaa
