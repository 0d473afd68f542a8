/-
  NARROWER THAN 'FOR EVERY INPUT', by the rows' own cells (each row's printed sentence says how): StanPlays: loops, laid · StanFields: laid · StanEchoes: loops, laid · StanDealt: laid · StanTells: laid · StanBack: laid.
  DERIVED. THE GIVEN ROWS OF THIS SEAT. 6 by the template 'for every input the law returns true; each argument reads behind the call as it read before'; 0 by the template 'total and deterministic' (their statements: YtmnoplaepjaokaaGreatDoorTotals.lean).
  GIVEN WITH THE SEED: the statements are not yours to turn. If you find one false, say at which input.
  Laid BY PROGRAM, IN A SANDBOX (cutbox-rows.mjs): the forced cells as the released guide's own fill.sh prints them over the translation de2936f2bc38fb00… (all of the seat's roots in one cut). By AI agents, Wed Nov 11 2026. No macro, syntax, notation, axiom, sorry.
-/
import Derived.Test.YtmnoplaepjaokaaGreatDoorChecked
import GoSem.Claim
import GoSem.ClaimJoined
import GoSem.ClaimMapViews
import Derived.JoinedTies
import Derived.KernelRfl
namespace Go.Proofs.YtmnoplaepjaokaaGreatDoor
/- THE CELL 'sum', in the pinned program and in every row, IS THE sha256 OF THE DUMP (.gsa) THAT YtmnoplaepjaokaaGreatDoorProg.lean LOADS. Nothing in Lean hashes anything: it is a label: what it is worth is what the hold of that sum in a sandbox is worth. -/
noncomputable def Tryz.pinned : Pinned := { name := "ytmnoplaepjaokaagreatdoor", sum := "de2936f2bc38fb00ae97b21b2d82e2d813145cf4be5eb15d722bd92b99bf099d", checked := Tryz.checked }
namespace Rows
def none {H : Type} : Left H := { results := [], args := [] }

/- WHAT THE LISTED PACKAGE-LEVEL VARIABLES READ AS WHEN THE CALL BEGINS. Each datum BY PROGRAM (the guide's laid-datum.mjs) off the statement by which the dump's own 'gosem.cut.vars' lays the variable. In a bare row this is a premise. The card (YtmnoplaepjaokaaGreatDoorCards.lean) ties it to the program's text. -/
def laid_math_bits_deBruijn32tab {H : Type} : DataW H := .agg [.lit (.int .u8 0), .lit (.int .u8 1), .lit (.int .u8 28), .lit (.int .u8 2), .lit (.int .u8 29), .lit (.int .u8 14), .lit (.int .u8 24), .lit (.int .u8 3), .lit (.int .u8 30), .lit (.int .u8 22), .lit (.int .u8 20), .lit (.int .u8 15), .lit (.int .u8 25), .lit (.int .u8 17), .lit (.int .u8 4), .lit (.int .u8 8), .lit (.int .u8 31), .lit (.int .u8 27), .lit (.int .u8 13), .lit (.int .u8 23), .lit (.int .u8 21), .lit (.int .u8 19), .lit (.int .u8 16), .lit (.int .u8 7), .lit (.int .u8 26), .lit (.int .u8 12), .lit (.int .u8 18), .lit (.int .u8 6), .lit (.int .u8 11), .lit (.int .u8 5), .lit (.int .u8 10), .lit (.int .u8 9)]
def laid_math_bits_deBruijn64tab {H : Type} : DataW H := .agg [.lit (.int .u8 0), .lit (.int .u8 1), .lit (.int .u8 56), .lit (.int .u8 2), .lit (.int .u8 57), .lit (.int .u8 49), .lit (.int .u8 28), .lit (.int .u8 3), .lit (.int .u8 61), .lit (.int .u8 58), .lit (.int .u8 42), .lit (.int .u8 50), .lit (.int .u8 38), .lit (.int .u8 29), .lit (.int .u8 17), .lit (.int .u8 4), .lit (.int .u8 62), .lit (.int .u8 47), .lit (.int .u8 59), .lit (.int .u8 36), .lit (.int .u8 45), .lit (.int .u8 43), .lit (.int .u8 51), .lit (.int .u8 22), .lit (.int .u8 53), .lit (.int .u8 39), .lit (.int .u8 33), .lit (.int .u8 30), .lit (.int .u8 24), .lit (.int .u8 18), .lit (.int .u8 12), .lit (.int .u8 5), .lit (.int .u8 63), .lit (.int .u8 55), .lit (.int .u8 48), .lit (.int .u8 27), .lit (.int .u8 60), .lit (.int .u8 41), .lit (.int .u8 37), .lit (.int .u8 16), .lit (.int .u8 46), .lit (.int .u8 35), .lit (.int .u8 44), .lit (.int .u8 21), .lit (.int .u8 52), .lit (.int .u8 32), .lit (.int .u8 23), .lit (.int .u8 11), .lit (.int .u8 54), .lit (.int .u8 26), .lit (.int .u8 40), .lit (.int .u8 15), .lit (.int .u8 34), .lit (.int .u8 20), .lit (.int .u8 31), .lit (.int .u8 10), .lit (.int .u8 25), .lit (.int .u8 14), .lit (.int .u8 19), .lit (.int .u8 9), .lit (.int .u8 13), .lit (.int .u8 8), .lit (.int .u8 7), .lit (.int .u8 6)]
def laid_internal_strconv_uint64pow10 {H : Type} : DataW H := .agg [.lit (.int .u64 1), .lit (.int .u64 10), .lit (.int .u64 100), .lit (.int .u64 1000), .lit (.int .u64 10000), .lit (.int .u64 100000), .lit (.int .u64 1000000), .lit (.int .u64 10000000), .lit (.int .u64 100000000), .lit (.int .u64 1000000000), .lit (.int .u64 10000000000), .lit (.int .u64 100000000000), .lit (.int .u64 1000000000000), .lit (.int .u64 10000000000000), .lit (.int .u64 100000000000000), .lit (.int .u64 1000000000000000), .lit (.int .u64 10000000000000000), .lit (.int .u64 100000000000000000), .lit (.int .u64 1000000000000000000), .lit (.int .u64 10000000000000000000)]
def laid_turnstile_clock_ahead {H : Type} : DataW H := .agg [.lit (.int .i64 0), .lit (.int .i64 31), .lit (.int .i64 59), .lit (.int .i64 90), .lit (.int .i64 120), .lit (.int .i64 151), .lit (.int .i64 181), .lit (.int .i64 212), .lit (.int .i64 243), .lit (.int .i64 273), .lit (.int .i64 304), .lit (.int .i64 334), .lit (.int .i64 365)]

/-- 'turnstilelaw18.StanPlays': WHATEVER THE INPUT: true; the input reads as it did. -/
def stanPlaysSpec : ChangeSpec := { name := "stanPlays", fn := fun _ => fun
  | [d1, d2, d3] => { results := [.lit (.bool true)], args := [d1, d2, d3] }
  | _ => none }
def stanPlaysRow : OpenClaim := { program := "ytmnoplaepjaokaagreatdoor", sum := "de2936f2bc38fb00ae97b21b2d82e2d813145cf4be5eb15d722bd92b99bf099d", func := "turnstile/turnstilelaw18.StanPlays", spec := "stanPlays", inPlace := ["internal/abi.NoEscape", "internal/bytealg.MakeNoZero"], unfollowed := true, recurses := true, named := ["math/bits.deBruijn64tab", "internal/strconv.uint64pow10", "math/bits.deBruijn32tab"], loops := true, apart := false, laid := [("math/bits.deBruijn32tab", laid_math_bits_deBruijn32tab), ("math/bits.deBruijn64tab", laid_math_bits_deBruijn64tab), ("internal/strconv.uint64pow10", laid_internal_strconv_uint64pow10)] }
def StanPlaysSaid : Prop := stanPlaysRow.holds Tryz.pinned (OpenSpec.ofChange stanPlaysSpec)

/-- ITS FALSE NEIGHBOUR: 'it returns false'. Refute it at one input. -/
def stanPlaysWrong : ChangeSpec := { name := "stanPlays", fn := fun _ => fun
  | [d1, d2, d3] => { results := [.lit (.bool false)], args := [d1, d2, d3] }
  | _ => none }
def StanPlaysWrongFalsely : Prop := stanPlaysRow.holds Tryz.pinned (OpenSpec.ofChange stanPlaysWrong)

/-- 'turnstilelaw18.StanFields': WHATEVER THE INPUT: true; the input reads as it did. -/
def stanFieldsSpec : ChangeSpec := { name := "stanFields", fn := fun _ => fun
  | [d1, d2] => { results := [.lit (.bool true)], args := [d1, d2] }
  | _ => none }
def stanFieldsRow : OpenClaim := { program := "ytmnoplaepjaokaagreatdoor", sum := "de2936f2bc38fb00ae97b21b2d82e2d813145cf4be5eb15d722bd92b99bf099d", func := "turnstile/turnstilelaw18.StanFields", spec := "stanFields", inPlace := ["internal/abi.NoEscape", "internal/bytealg.MakeNoZero"], unfollowed := true, recurses := true, named := ["math/bits.deBruijn64tab", "internal/strconv.uint64pow10", "math/bits.deBruijn32tab", "turnstile/clock.ahead"], apart := false, laid := [("math/bits.deBruijn32tab", laid_math_bits_deBruijn32tab), ("math/bits.deBruijn64tab", laid_math_bits_deBruijn64tab), ("internal/strconv.uint64pow10", laid_internal_strconv_uint64pow10), ("turnstile/clock.ahead", laid_turnstile_clock_ahead)] }
def StanFieldsSaid : Prop := stanFieldsRow.holds Tryz.pinned (OpenSpec.ofChange stanFieldsSpec)

/-- ITS FALSE NEIGHBOUR: 'it returns false'. Refute it at one input. -/
def stanFieldsWrong : ChangeSpec := { name := "stanFields", fn := fun _ => fun
  | [d1, d2] => { results := [.lit (.bool false)], args := [d1, d2] }
  | _ => none }
def StanFieldsWrongFalsely : Prop := stanFieldsRow.holds Tryz.pinned (OpenSpec.ofChange stanFieldsWrong)

/-- 'turnstilelaw18.StanEchoes': WHATEVER THE INPUT: true; the input reads as it did. -/
def stanEchoesSpec : ChangeSpec := { name := "stanEchoes", fn := fun _ => fun
  | [d1, d2, d3] => { results := [.lit (.bool true)], args := [d1, d2, d3] }
  | _ => none }
def stanEchoesRow : OpenClaim := { program := "ytmnoplaepjaokaagreatdoor", sum := "de2936f2bc38fb00ae97b21b2d82e2d813145cf4be5eb15d722bd92b99bf099d", func := "turnstile/turnstilelaw18.StanEchoes", spec := "stanEchoes", inPlace := ["internal/abi.NoEscape", "internal/bytealg.MakeNoZero"], unfollowed := true, recurses := true, named := ["math/bits.deBruijn64tab", "internal/strconv.uint64pow10", "math/bits.deBruijn32tab"], loops := true, apart := false, laid := [("math/bits.deBruijn32tab", laid_math_bits_deBruijn32tab), ("math/bits.deBruijn64tab", laid_math_bits_deBruijn64tab), ("internal/strconv.uint64pow10", laid_internal_strconv_uint64pow10)] }
def StanEchoesSaid : Prop := stanEchoesRow.holds Tryz.pinned (OpenSpec.ofChange stanEchoesSpec)

/-- ITS FALSE NEIGHBOUR: 'it returns false'. Refute it at one input. -/
def stanEchoesWrong : ChangeSpec := { name := "stanEchoes", fn := fun _ => fun
  | [d1, d2, d3] => { results := [.lit (.bool false)], args := [d1, d2, d3] }
  | _ => none }
def StanEchoesWrongFalsely : Prop := stanEchoesRow.holds Tryz.pinned (OpenSpec.ofChange stanEchoesWrong)

/-- 'turnstilelaw18.StanDealt': WHATEVER THE INPUT: true; the input reads as it did. -/
def stanDealtSpec : ChangeSpec := { name := "stanDealt", fn := fun _ => fun
  | [d1, d2] => { results := [.lit (.bool true)], args := [d1, d2] }
  | _ => none }
def stanDealtRow : OpenClaim := { program := "ytmnoplaepjaokaagreatdoor", sum := "de2936f2bc38fb00ae97b21b2d82e2d813145cf4be5eb15d722bd92b99bf099d", func := "turnstile/turnstilelaw18.StanDealt", spec := "stanDealt", inPlace := ["internal/abi.NoEscape", "internal/bytealg.MakeNoZero"], unfollowed := true, recurses := true, named := ["math/bits.deBruijn64tab", "internal/strconv.uint64pow10", "math/bits.deBruijn32tab"], apart := false, laid := [("math/bits.deBruijn32tab", laid_math_bits_deBruijn32tab), ("math/bits.deBruijn64tab", laid_math_bits_deBruijn64tab), ("internal/strconv.uint64pow10", laid_internal_strconv_uint64pow10)] }
def StanDealtSaid : Prop := stanDealtRow.holds Tryz.pinned (OpenSpec.ofChange stanDealtSpec)

/-- ITS FALSE NEIGHBOUR: 'it returns false'. Refute it at one input. -/
def stanDealtWrong : ChangeSpec := { name := "stanDealt", fn := fun _ => fun
  | [d1, d2] => { results := [.lit (.bool false)], args := [d1, d2] }
  | _ => none }
def StanDealtWrongFalsely : Prop := stanDealtRow.holds Tryz.pinned (OpenSpec.ofChange stanDealtWrong)

/-- 'turnstilelaw18.StanTells': WHATEVER THE INPUT: true; the input reads as it did. -/
def stanTellsSpec : ChangeSpec := { name := "stanTells", fn := fun _ => fun
  | [d1, d2] => { results := [.lit (.bool true)], args := [d1, d2] }
  | _ => none }
def stanTellsRow : OpenClaim := { program := "ytmnoplaepjaokaagreatdoor", sum := "de2936f2bc38fb00ae97b21b2d82e2d813145cf4be5eb15d722bd92b99bf099d", func := "turnstile/turnstilelaw18.StanTells", spec := "stanTells", inPlace := ["internal/abi.NoEscape", "internal/bytealg.MakeNoZero"], unfollowed := true, recurses := true, named := ["math/bits.deBruijn64tab", "internal/strconv.uint64pow10", "math/bits.deBruijn32tab", "turnstile/clock.ahead"], apart := false, laid := [("math/bits.deBruijn32tab", laid_math_bits_deBruijn32tab), ("math/bits.deBruijn64tab", laid_math_bits_deBruijn64tab), ("internal/strconv.uint64pow10", laid_internal_strconv_uint64pow10), ("turnstile/clock.ahead", laid_turnstile_clock_ahead)] }
def StanTellsSaid : Prop := stanTellsRow.holds Tryz.pinned (OpenSpec.ofChange stanTellsSpec)

/-- ITS FALSE NEIGHBOUR: 'it returns false'. Refute it at one input. -/
def stanTellsWrong : ChangeSpec := { name := "stanTells", fn := fun _ => fun
  | [d1, d2] => { results := [.lit (.bool false)], args := [d1, d2] }
  | _ => none }
def StanTellsWrongFalsely : Prop := stanTellsRow.holds Tryz.pinned (OpenSpec.ofChange stanTellsWrong)

/-- 'turnstilelaw18.StanBack': WHATEVER THE INPUT: true; the input reads as it did. -/
def stanBackSpec : ChangeSpec := { name := "stanBack", fn := fun _ => fun
  | [d1, d2, d3, d4, d5, d6] => { results := [.lit (.bool true)], args := [d1, d2, d3, d4, d5, d6] }
  | _ => none }
def stanBackRow : OpenClaim := { program := "ytmnoplaepjaokaagreatdoor", sum := "de2936f2bc38fb00ae97b21b2d82e2d813145cf4be5eb15d722bd92b99bf099d", func := "turnstile/turnstilelaw18.StanBack", spec := "stanBack", inPlace := ["internal/abi.NoEscape", "internal/bytealg.MakeNoZero"], unfollowed := true, recurses := true, named := ["math/bits.deBruijn64tab", "internal/strconv.uint64pow10", "math/bits.deBruijn32tab"], apart := false, laid := [("math/bits.deBruijn32tab", laid_math_bits_deBruijn32tab), ("math/bits.deBruijn64tab", laid_math_bits_deBruijn64tab), ("internal/strconv.uint64pow10", laid_internal_strconv_uint64pow10)] }
def StanBackSaid : Prop := stanBackRow.holds Tryz.pinned (OpenSpec.ofChange stanBackSpec)

/-- ITS FALSE NEIGHBOUR: 'it returns false'. Refute it at one input. -/
def stanBackWrong : ChangeSpec := { name := "stanBack", fn := fun _ => fun
  | [d1, d2, d3, d4, d5, d6] => { results := [.lit (.bool false)], args := [d1, d2, d3, d4, d5, d6] }
  | _ => none }
def StanBackWrongFalsely : Prop := stanBackRow.holds Tryz.pinned (OpenSpec.ofChange stanBackWrong)

/- THE SECOND FORM. 'bulk': how many values and letters a reading holds, each counted each time it is reached (what is shared counts as often as it is met; a slice's spare places count too). A statement '..UptoSaid' is the law's where the arguments, and the package variables that the reading takes, are together of bulk at most 1048576: NARROWER than '..Said'. Prove '..Said' where nothing that the law and all that it calls make is longer than what came in: it says more and counts as full. Else prove '..UptoSaid'. A law counts once. -/
mutual
def uptoBulk {H : Type} : DataW H → Nat
  | .lit (.string bytes) => bytes.length + 1
  | .lit _ => 1
  | .nil => 1
  | .ptr d => uptoBulk d + 1
  | .slice elems spare => uptoBulkAll elems + uptoBulkAll spare + 1
  | .agg parts => uptoBulkAll parts + 1
  | .iface _ d => uptoBulk d + 1
  | .map entries => uptoBulkEntries entries + 1
  | .held _ => 1
def uptoBulkAll {H : Type} : List (DataW H) → Nat
  | [] => 0
  | d :: r => uptoBulk d + uptoBulkAll r
def uptoBulkEntries {H : Type} : List (Lit × DataW H) → Nat
  | [] => 0
  | x :: r => uptoBulkEntry x + uptoBulkEntries r
def uptoBulkEntry {H : Type} : Lit × DataW H → Nat
  | (.string bytes, d) => bytes.length + uptoBulk d + 1
  | (_, d) => uptoBulk d + 1
 end
def uptoSmall : (H : Type) → List (DataW H) → Bool := fun _ ds => decide (uptoBulkAll ds ≤ 1048576)
def OpenSpec.upto (s : _root_.Go.ChangeSpec) : _root_.Go.OpenSpec := { _root_.Go.OpenSpec.ofChange s with cond := some uptoSmall }

/-- 'turnstilelaw18.StanPlays', WHERE WHAT IT READS IS OF BULK AT MOST 1048576: true; the input reads as it did. -/
def stanPlaysUptoRow : OpenClaim := { program := "ytmnoplaepjaokaagreatdoor", sum := "de2936f2bc38fb00ae97b21b2d82e2d813145cf4be5eb15d722bd92b99bf099d", func := "turnstile/turnstilelaw18.StanPlays", spec := "stanPlays", inPlace := ["internal/abi.NoEscape", "internal/bytealg.MakeNoZero"], unfollowed := true, recurses := true, named := ["math/bits.deBruijn64tab", "internal/strconv.uint64pow10", "math/bits.deBruijn32tab"], loops := true, apart := false, laid := [("math/bits.deBruijn32tab", laid_math_bits_deBruijn32tab), ("math/bits.deBruijn64tab", laid_math_bits_deBruijn64tab), ("internal/strconv.uint64pow10", laid_internal_strconv_uint64pow10)], narrowed := true }
def StanPlaysUptoSaid : Prop := stanPlaysUptoRow.holds Tryz.pinned (OpenSpec.upto stanPlaysSpec)

/-- 'turnstilelaw18.StanFields', WHERE WHAT IT READS IS OF BULK AT MOST 1048576: true; the input reads as it did. -/
def stanFieldsUptoRow : OpenClaim := { program := "ytmnoplaepjaokaagreatdoor", sum := "de2936f2bc38fb00ae97b21b2d82e2d813145cf4be5eb15d722bd92b99bf099d", func := "turnstile/turnstilelaw18.StanFields", spec := "stanFields", inPlace := ["internal/abi.NoEscape", "internal/bytealg.MakeNoZero"], unfollowed := true, recurses := true, named := ["math/bits.deBruijn64tab", "internal/strconv.uint64pow10", "math/bits.deBruijn32tab", "turnstile/clock.ahead"], apart := false, laid := [("math/bits.deBruijn32tab", laid_math_bits_deBruijn32tab), ("math/bits.deBruijn64tab", laid_math_bits_deBruijn64tab), ("internal/strconv.uint64pow10", laid_internal_strconv_uint64pow10), ("turnstile/clock.ahead", laid_turnstile_clock_ahead)], narrowed := true }
def StanFieldsUptoSaid : Prop := stanFieldsUptoRow.holds Tryz.pinned (OpenSpec.upto stanFieldsSpec)

/-- 'turnstilelaw18.StanEchoes', WHERE WHAT IT READS IS OF BULK AT MOST 1048576: true; the input reads as it did. -/
def stanEchoesUptoRow : OpenClaim := { program := "ytmnoplaepjaokaagreatdoor", sum := "de2936f2bc38fb00ae97b21b2d82e2d813145cf4be5eb15d722bd92b99bf099d", func := "turnstile/turnstilelaw18.StanEchoes", spec := "stanEchoes", inPlace := ["internal/abi.NoEscape", "internal/bytealg.MakeNoZero"], unfollowed := true, recurses := true, named := ["math/bits.deBruijn64tab", "internal/strconv.uint64pow10", "math/bits.deBruijn32tab"], loops := true, apart := false, laid := [("math/bits.deBruijn32tab", laid_math_bits_deBruijn32tab), ("math/bits.deBruijn64tab", laid_math_bits_deBruijn64tab), ("internal/strconv.uint64pow10", laid_internal_strconv_uint64pow10)], narrowed := true }
def StanEchoesUptoSaid : Prop := stanEchoesUptoRow.holds Tryz.pinned (OpenSpec.upto stanEchoesSpec)

/-- 'turnstilelaw18.StanDealt', WHERE WHAT IT READS IS OF BULK AT MOST 1048576: true; the input reads as it did. -/
def stanDealtUptoRow : OpenClaim := { program := "ytmnoplaepjaokaagreatdoor", sum := "de2936f2bc38fb00ae97b21b2d82e2d813145cf4be5eb15d722bd92b99bf099d", func := "turnstile/turnstilelaw18.StanDealt", spec := "stanDealt", inPlace := ["internal/abi.NoEscape", "internal/bytealg.MakeNoZero"], unfollowed := true, recurses := true, named := ["math/bits.deBruijn64tab", "internal/strconv.uint64pow10", "math/bits.deBruijn32tab"], apart := false, laid := [("math/bits.deBruijn32tab", laid_math_bits_deBruijn32tab), ("math/bits.deBruijn64tab", laid_math_bits_deBruijn64tab), ("internal/strconv.uint64pow10", laid_internal_strconv_uint64pow10)], narrowed := true }
def StanDealtUptoSaid : Prop := stanDealtUptoRow.holds Tryz.pinned (OpenSpec.upto stanDealtSpec)

/-- 'turnstilelaw18.StanTells', WHERE WHAT IT READS IS OF BULK AT MOST 1048576: true; the input reads as it did. -/
def stanTellsUptoRow : OpenClaim := { program := "ytmnoplaepjaokaagreatdoor", sum := "de2936f2bc38fb00ae97b21b2d82e2d813145cf4be5eb15d722bd92b99bf099d", func := "turnstile/turnstilelaw18.StanTells", spec := "stanTells", inPlace := ["internal/abi.NoEscape", "internal/bytealg.MakeNoZero"], unfollowed := true, recurses := true, named := ["math/bits.deBruijn64tab", "internal/strconv.uint64pow10", "math/bits.deBruijn32tab", "turnstile/clock.ahead"], apart := false, laid := [("math/bits.deBruijn32tab", laid_math_bits_deBruijn32tab), ("math/bits.deBruijn64tab", laid_math_bits_deBruijn64tab), ("internal/strconv.uint64pow10", laid_internal_strconv_uint64pow10), ("turnstile/clock.ahead", laid_turnstile_clock_ahead)], narrowed := true }
def StanTellsUptoSaid : Prop := stanTellsUptoRow.holds Tryz.pinned (OpenSpec.upto stanTellsSpec)

/-- 'turnstilelaw18.StanBack', WHERE WHAT IT READS IS OF BULK AT MOST 1048576: true; the input reads as it did. -/
def stanBackUptoRow : OpenClaim := { program := "ytmnoplaepjaokaagreatdoor", sum := "de2936f2bc38fb00ae97b21b2d82e2d813145cf4be5eb15d722bd92b99bf099d", func := "turnstile/turnstilelaw18.StanBack", spec := "stanBack", inPlace := ["internal/abi.NoEscape", "internal/bytealg.MakeNoZero"], unfollowed := true, recurses := true, named := ["math/bits.deBruijn64tab", "internal/strconv.uint64pow10", "math/bits.deBruijn32tab"], apart := false, laid := [("math/bits.deBruijn32tab", laid_math_bits_deBruijn32tab), ("math/bits.deBruijn64tab", laid_math_bits_deBruijn64tab), ("internal/strconv.uint64pow10", laid_internal_strconv_uint64pow10)], narrowed := true }
def StanBackUptoSaid : Prop := stanBackUptoRow.holds Tryz.pinned (OpenSpec.upto stanBackSpec)

end Rows
end Go.Proofs.YtmnoplaepjaokaaGreatDoor
