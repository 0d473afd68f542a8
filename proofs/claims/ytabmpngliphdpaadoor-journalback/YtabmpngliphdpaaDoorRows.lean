/-
  NARROWER THAN 'FOR EVERY INPUT', by the rows' own cells (each row's printed sentence says how): JournalSums: laid · JournalAppends: laid · JournalOpens: laid · JournalBack: laid · JournalTakes: laid.
  DERIVED. THE GIVEN ROWS OF THIS SEAT. 5 by the template 'for every input the law returns true; each argument reads behind the call as it read before'; 0 by the template 'total and deterministic' (their statements: YtabmpngliphdpaaDoorTotals.lean).
  GIVEN WITH THE SEED: the statements are not yours to turn. If you find one false, say at which input.
  Laid BY PROGRAM, IN A SANDBOX (cutbox-rows.mjs): the forced cells as the released guide's own fill.sh prints them over the translation 82e9b7ebedfb6ecc… (all of the seat's roots in one cut). By AI agents, Wed Nov 11 2026. No macro, syntax, notation, axiom, sorry.
-/
import Derived.Test.YtabmpngliphdpaaDoorChecked
import GoSem.Claim
import GoSem.ClaimJoined
import GoSem.ClaimMapViews
import Derived.JoinedTies
import Derived.KernelRfl
namespace Go.Proofs.YtabmpngliphdpaaDoor
/- THE CELL 'sum', in the pinned program and in every row, IS THE sha256 OF THE DUMP (.gsa) THAT YtabmpngliphdpaaDoorProg.lean LOADS. Nothing in Lean hashes anything: it is a label: what it is worth is what the hold of that sum in a sandbox is worth. -/
noncomputable def Tryd.pinned : Pinned := { name := "ytabmpngliphdpaadoor", sum := "82e9b7ebedfb6ecc6cd40b3cb3259cac28f19e5906a360ffcbdfbbbb2332ecff", checked := Tryd.checked }
namespace Rows
def none {H : Type} : Left H := { results := [], args := [] }

/- WHAT THE LISTED PACKAGE-LEVEL VARIABLES READ AS WHEN THE CALL BEGINS. Each datum BY PROGRAM (the guide's laid-datum.mjs) off the statement by which the dump's own 'gosem.cut.vars' lays the variable. In a bare row this is a premise. The card (YtabmpngliphdpaaDoorCards.lean) ties it to the program's text. -/
def laid_errors_errorType {H : Type} : DataW H := .iface "internal/reflectlite.rtype" (.agg [.ptr (.lit (.string [101, 114, 114, 111, 114]))])
def laid_turnstile_journal_errEnd {H : Type} : DataW H := .iface "*errors.errorString" (.ptr (.agg [.lit (.string [106, 111, 117, 114, 110, 97, 108, 58, 32, 110, 111, 32, 98, 121, 116, 101, 115, 32, 97, 114, 101, 32, 108, 101, 102, 116])]))
def laid_turnstile_journal_halves {H : Type} : DataW H := .agg [.lit (.int .u32 0), .lit (.int .u32 498536548), .lit (.int .u32 997073096), .lit (.int .u32 651767980), .lit (.int .u32 1994146192), .lit (.int .u32 1802195444), .lit (.int .u32 1303535960), .lit (.int .u32 1342533948), .lit (.int .u32 3988292384), .lit (.int .u32 4027552580), .lit (.int .u32 3604390888), .lit (.int .u32 3412177804), .lit (.int .u32 2607071920), .lit (.int .u32 2262029012), .lit (.int .u32 2685067896), .lit (.int .u32 3183342108)]

/-- 'turnstilelaw23.JournalSums': WHATEVER THE INPUT: true; the input reads as it did. -/
def journalSumsSpec : ChangeSpec := { name := "journalSums", fn := fun _ => fun
  | [d] => { results := [.lit (.bool true)], args := [d] }
  | _ => none }
def journalSumsRow : OpenClaim := { program := "ytabmpngliphdpaadoor", sum := "82e9b7ebedfb6ecc6cd40b3cb3259cac28f19e5906a360ffcbdfbbbb2332ecff", func := "turnstile/turnstilelaw23.JournalSums", spec := "journalSums", inPlace := ["internal/abi.NoEscape", "internal/reflectlite.TypeOf", "internal/reflectlite.ValueOf", "(internal/reflectlite.Value).Type", "(internal/reflectlite.Value).IsNil", "(internal/reflectlite.Value).Elem", "(internal/reflectlite.Value).Set"], unfollowed := true, recurses := true, named := ["turnstile/journal.halves", "turnstile/journal.errEnd", "errors.errorType"], apart := false, laid := [("errors.errorType", laid_errors_errorType), ("turnstile/journal.errEnd", laid_turnstile_journal_errEnd), ("turnstile/journal.halves", laid_turnstile_journal_halves)] }
def JournalSumsSaid : Prop := journalSumsRow.holds Tryd.pinned (OpenSpec.ofChange journalSumsSpec)

/-- ITS FALSE NEIGHBOUR: 'it returns false'. Refute it at one input. -/
def journalSumsWrong : ChangeSpec := { name := "journalSums", fn := fun _ => fun
  | [d] => { results := [.lit (.bool false)], args := [d] }
  | _ => none }
def JournalSumsWrongFalsely : Prop := journalSumsRow.holds Tryd.pinned (OpenSpec.ofChange journalSumsWrong)

/-- 'turnstilelaw23.JournalAppends': WHATEVER THE INPUT: true; the input reads as it did. -/
def journalAppendsSpec : ChangeSpec := { name := "journalAppends", fn := fun _ => fun
  | [d1, d2, d3] => { results := [.lit (.bool true)], args := [d1, d2, d3] }
  | _ => none }
def journalAppendsRow : OpenClaim := { program := "ytabmpngliphdpaadoor", sum := "82e9b7ebedfb6ecc6cd40b3cb3259cac28f19e5906a360ffcbdfbbbb2332ecff", func := "turnstile/turnstilelaw23.JournalAppends", spec := "journalAppends", inPlace := ["internal/abi.NoEscape", "internal/reflectlite.TypeOf", "internal/reflectlite.ValueOf", "(internal/reflectlite.Value).Type", "(internal/reflectlite.Value).IsNil", "(internal/reflectlite.Value).Elem", "(internal/reflectlite.Value).Set"], unfollowed := true, recurses := true, named := ["turnstile/journal.halves", "turnstile/journal.errEnd", "errors.errorType"], apart := false, laid := [("errors.errorType", laid_errors_errorType), ("turnstile/journal.errEnd", laid_turnstile_journal_errEnd), ("turnstile/journal.halves", laid_turnstile_journal_halves)] }
def JournalAppendsSaid : Prop := journalAppendsRow.holds Tryd.pinned (OpenSpec.ofChange journalAppendsSpec)

/-- ITS FALSE NEIGHBOUR: 'it returns false'. Refute it at one input. -/
def journalAppendsWrong : ChangeSpec := { name := "journalAppends", fn := fun _ => fun
  | [d1, d2, d3] => { results := [.lit (.bool false)], args := [d1, d2, d3] }
  | _ => none }
def JournalAppendsWrongFalsely : Prop := journalAppendsRow.holds Tryd.pinned (OpenSpec.ofChange journalAppendsWrong)

/-- 'turnstilelaw23.JournalOpens': WHATEVER THE INPUT: true; the input reads as it did. -/
def journalOpensSpec : ChangeSpec := { name := "journalOpens", fn := fun _ => fun
  | [d1, d2] => { results := [.lit (.bool true)], args := [d1, d2] }
  | _ => none }
def journalOpensRow : OpenClaim := { program := "ytabmpngliphdpaadoor", sum := "82e9b7ebedfb6ecc6cd40b3cb3259cac28f19e5906a360ffcbdfbbbb2332ecff", func := "turnstile/turnstilelaw23.JournalOpens", spec := "journalOpens", inPlace := ["internal/abi.NoEscape", "internal/reflectlite.TypeOf", "internal/reflectlite.ValueOf", "(internal/reflectlite.Value).Type", "(internal/reflectlite.Value).IsNil", "(internal/reflectlite.Value).Elem", "(internal/reflectlite.Value).Set"], unfollowed := true, recurses := true, named := ["turnstile/journal.halves", "turnstile/journal.errEnd", "errors.errorType"], apart := false, laid := [("errors.errorType", laid_errors_errorType), ("turnstile/journal.errEnd", laid_turnstile_journal_errEnd), ("turnstile/journal.halves", laid_turnstile_journal_halves)] }
def JournalOpensSaid : Prop := journalOpensRow.holds Tryd.pinned (OpenSpec.ofChange journalOpensSpec)

/-- ITS FALSE NEIGHBOUR: 'it returns false'. Refute it at one input. -/
def journalOpensWrong : ChangeSpec := { name := "journalOpens", fn := fun _ => fun
  | [d1, d2] => { results := [.lit (.bool false)], args := [d1, d2] }
  | _ => none }
def JournalOpensWrongFalsely : Prop := journalOpensRow.holds Tryd.pinned (OpenSpec.ofChange journalOpensWrong)

/-- 'turnstilelaw23.JournalBack': WHATEVER THE INPUT: true; the input reads as it did. -/
def journalBackSpec : ChangeSpec := { name := "journalBack", fn := fun _ => fun
  | [d1, d2, d3, d4] => { results := [.lit (.bool true)], args := [d1, d2, d3, d4] }
  | _ => none }
def journalBackRow : OpenClaim := { program := "ytabmpngliphdpaadoor", sum := "82e9b7ebedfb6ecc6cd40b3cb3259cac28f19e5906a360ffcbdfbbbb2332ecff", func := "turnstile/turnstilelaw23.JournalBack", spec := "journalBack", inPlace := ["internal/abi.NoEscape", "internal/reflectlite.TypeOf", "internal/reflectlite.ValueOf", "(internal/reflectlite.Value).Type", "(internal/reflectlite.Value).IsNil", "(internal/reflectlite.Value).Elem", "(internal/reflectlite.Value).Set"], unfollowed := true, recurses := true, named := ["turnstile/journal.halves", "turnstile/journal.errEnd", "errors.errorType"], apart := false, laid := [("errors.errorType", laid_errors_errorType), ("turnstile/journal.errEnd", laid_turnstile_journal_errEnd), ("turnstile/journal.halves", laid_turnstile_journal_halves)] }
def JournalBackSaid : Prop := journalBackRow.holds Tryd.pinned (OpenSpec.ofChange journalBackSpec)

/-- ITS FALSE NEIGHBOUR: 'it returns false'. Refute it at one input. -/
def journalBackWrong : ChangeSpec := { name := "journalBack", fn := fun _ => fun
  | [d1, d2, d3, d4] => { results := [.lit (.bool false)], args := [d1, d2, d3, d4] }
  | _ => none }
def JournalBackWrongFalsely : Prop := journalBackRow.holds Tryd.pinned (OpenSpec.ofChange journalBackWrong)

/-- 'turnstilelaw23.JournalTakes': WHATEVER THE INPUT: true; the input reads as it did. -/
def journalTakesSpec : ChangeSpec := { name := "journalTakes", fn := fun _ => fun
  | [d] => { results := [.lit (.bool true)], args := [d] }
  | _ => none }
def journalTakesRow : OpenClaim := { program := "ytabmpngliphdpaadoor", sum := "82e9b7ebedfb6ecc6cd40b3cb3259cac28f19e5906a360ffcbdfbbbb2332ecff", func := "turnstile/turnstilelaw23.JournalTakes", spec := "journalTakes", inPlace := ["internal/abi.NoEscape", "internal/reflectlite.TypeOf", "internal/reflectlite.ValueOf", "(internal/reflectlite.Value).Type", "(internal/reflectlite.Value).IsNil", "(internal/reflectlite.Value).Elem", "(internal/reflectlite.Value).Set"], unfollowed := true, recurses := true, named := ["turnstile/journal.halves", "turnstile/journal.errEnd", "errors.errorType"], apart := false, laid := [("errors.errorType", laid_errors_errorType), ("turnstile/journal.errEnd", laid_turnstile_journal_errEnd), ("turnstile/journal.halves", laid_turnstile_journal_halves)] }
def JournalTakesSaid : Prop := journalTakesRow.holds Tryd.pinned (OpenSpec.ofChange journalTakesSpec)

/-- ITS FALSE NEIGHBOUR: 'it returns false'. Refute it at one input. -/
def journalTakesWrong : ChangeSpec := { name := "journalTakes", fn := fun _ => fun
  | [d] => { results := [.lit (.bool false)], args := [d] }
  | _ => none }
def JournalTakesWrongFalsely : Prop := journalTakesRow.holds Tryd.pinned (OpenSpec.ofChange journalTakesWrong)

/- THE SECOND FORM. 'bulk': how many values and letters a reading holds, each counted each time it is reached (what is shared counts as often as it is met; a slice's spare places count too). A statement '..UptoSaid' is the law's where the arguments, and the package variables that the reading takes, are together of bulk at most 1048576: NARROWER than '..Said'. Prove '..Said' where nothing that the law and all that it calls make is longer than what came in: it says more and counts as full. Else prove '..UptoSaid'. A law counts once. -/
mutual
def uptoBulk {H : Type} : DataW H → Nat
  | .lit (.string bytes) => bytes.length + 1
  | .lit _ => 1
  | .nil => 1
  | .ptr d => uptoBulk d + 1
  | .slice elems spare => uptoBulkAll elems + uptoBulkAll spare + 1
  | .agg parts => uptoBulkAll parts + 1
  | .iface _ d => uptoBulk d + 1
  | .map entries => uptoBulkEntries entries + 1
  | .held _ => 1
def uptoBulkAll {H : Type} : List (DataW H) → Nat
  | [] => 0
  | d :: r => uptoBulk d + uptoBulkAll r
def uptoBulkEntries {H : Type} : List (Lit × DataW H) → Nat
  | [] => 0
  | x :: r => uptoBulkEntry x + uptoBulkEntries r
def uptoBulkEntry {H : Type} : Lit × DataW H → Nat
  | (.string bytes, d) => bytes.length + uptoBulk d + 1
  | (_, d) => uptoBulk d + 1
 end
def uptoSmall : (H : Type) → List (DataW H) → Bool := fun _ ds => decide (uptoBulkAll ds ≤ 1048576)
def OpenSpec.upto (s : _root_.Go.ChangeSpec) : _root_.Go.OpenSpec := { _root_.Go.OpenSpec.ofChange s with cond := some uptoSmall }

/-- 'turnstilelaw23.JournalSums', WHERE WHAT IT READS IS OF BULK AT MOST 1048576: true; the input reads as it did. -/
def journalSumsUptoRow : OpenClaim := { program := "ytabmpngliphdpaadoor", sum := "82e9b7ebedfb6ecc6cd40b3cb3259cac28f19e5906a360ffcbdfbbbb2332ecff", func := "turnstile/turnstilelaw23.JournalSums", spec := "journalSums", inPlace := ["internal/abi.NoEscape", "internal/reflectlite.TypeOf", "internal/reflectlite.ValueOf", "(internal/reflectlite.Value).Type", "(internal/reflectlite.Value).IsNil", "(internal/reflectlite.Value).Elem", "(internal/reflectlite.Value).Set"], unfollowed := true, recurses := true, named := ["turnstile/journal.halves", "turnstile/journal.errEnd", "errors.errorType"], apart := false, laid := [("errors.errorType", laid_errors_errorType), ("turnstile/journal.errEnd", laid_turnstile_journal_errEnd), ("turnstile/journal.halves", laid_turnstile_journal_halves)], narrowed := true }
def JournalSumsUptoSaid : Prop := journalSumsUptoRow.holds Tryd.pinned (OpenSpec.upto journalSumsSpec)

/-- 'turnstilelaw23.JournalAppends', WHERE WHAT IT READS IS OF BULK AT MOST 1048576: true; the input reads as it did. -/
def journalAppendsUptoRow : OpenClaim := { program := "ytabmpngliphdpaadoor", sum := "82e9b7ebedfb6ecc6cd40b3cb3259cac28f19e5906a360ffcbdfbbbb2332ecff", func := "turnstile/turnstilelaw23.JournalAppends", spec := "journalAppends", inPlace := ["internal/abi.NoEscape", "internal/reflectlite.TypeOf", "internal/reflectlite.ValueOf", "(internal/reflectlite.Value).Type", "(internal/reflectlite.Value).IsNil", "(internal/reflectlite.Value).Elem", "(internal/reflectlite.Value).Set"], unfollowed := true, recurses := true, named := ["turnstile/journal.halves", "turnstile/journal.errEnd", "errors.errorType"], apart := false, laid := [("errors.errorType", laid_errors_errorType), ("turnstile/journal.errEnd", laid_turnstile_journal_errEnd), ("turnstile/journal.halves", laid_turnstile_journal_halves)], narrowed := true }
def JournalAppendsUptoSaid : Prop := journalAppendsUptoRow.holds Tryd.pinned (OpenSpec.upto journalAppendsSpec)

/-- 'turnstilelaw23.JournalOpens', WHERE WHAT IT READS IS OF BULK AT MOST 1048576: true; the input reads as it did. -/
def journalOpensUptoRow : OpenClaim := { program := "ytabmpngliphdpaadoor", sum := "82e9b7ebedfb6ecc6cd40b3cb3259cac28f19e5906a360ffcbdfbbbb2332ecff", func := "turnstile/turnstilelaw23.JournalOpens", spec := "journalOpens", inPlace := ["internal/abi.NoEscape", "internal/reflectlite.TypeOf", "internal/reflectlite.ValueOf", "(internal/reflectlite.Value).Type", "(internal/reflectlite.Value).IsNil", "(internal/reflectlite.Value).Elem", "(internal/reflectlite.Value).Set"], unfollowed := true, recurses := true, named := ["turnstile/journal.halves", "turnstile/journal.errEnd", "errors.errorType"], apart := false, laid := [("errors.errorType", laid_errors_errorType), ("turnstile/journal.errEnd", laid_turnstile_journal_errEnd), ("turnstile/journal.halves", laid_turnstile_journal_halves)], narrowed := true }
def JournalOpensUptoSaid : Prop := journalOpensUptoRow.holds Tryd.pinned (OpenSpec.upto journalOpensSpec)

/-- 'turnstilelaw23.JournalBack', WHERE WHAT IT READS IS OF BULK AT MOST 1048576: true; the input reads as it did. -/
def journalBackUptoRow : OpenClaim := { program := "ytabmpngliphdpaadoor", sum := "82e9b7ebedfb6ecc6cd40b3cb3259cac28f19e5906a360ffcbdfbbbb2332ecff", func := "turnstile/turnstilelaw23.JournalBack", spec := "journalBack", inPlace := ["internal/abi.NoEscape", "internal/reflectlite.TypeOf", "internal/reflectlite.ValueOf", "(internal/reflectlite.Value).Type", "(internal/reflectlite.Value).IsNil", "(internal/reflectlite.Value).Elem", "(internal/reflectlite.Value).Set"], unfollowed := true, recurses := true, named := ["turnstile/journal.halves", "turnstile/journal.errEnd", "errors.errorType"], apart := false, laid := [("errors.errorType", laid_errors_errorType), ("turnstile/journal.errEnd", laid_turnstile_journal_errEnd), ("turnstile/journal.halves", laid_turnstile_journal_halves)], narrowed := true }
def JournalBackUptoSaid : Prop := journalBackUptoRow.holds Tryd.pinned (OpenSpec.upto journalBackSpec)

/-- 'turnstilelaw23.JournalTakes', WHERE WHAT IT READS IS OF BULK AT MOST 1048576: true; the input reads as it did. -/
def journalTakesUptoRow : OpenClaim := { program := "ytabmpngliphdpaadoor", sum := "82e9b7ebedfb6ecc6cd40b3cb3259cac28f19e5906a360ffcbdfbbbb2332ecff", func := "turnstile/turnstilelaw23.JournalTakes", spec := "journalTakes", inPlace := ["internal/abi.NoEscape", "internal/reflectlite.TypeOf", "internal/reflectlite.ValueOf", "(internal/reflectlite.Value).Type", "(internal/reflectlite.Value).IsNil", "(internal/reflectlite.Value).Elem", "(internal/reflectlite.Value).Set"], unfollowed := true, recurses := true, named := ["turnstile/journal.halves", "turnstile/journal.errEnd", "errors.errorType"], apart := false, laid := [("errors.errorType", laid_errors_errorType), ("turnstile/journal.errEnd", laid_turnstile_journal_errEnd), ("turnstile/journal.halves", laid_turnstile_journal_halves)], narrowed := true }
def JournalTakesUptoSaid : Prop := journalTakesUptoRow.holds Tryd.pinned (OpenSpec.upto journalTakesSpec)

end Rows
end Go.Proofs.YtabmpngliphdpaaDoor
