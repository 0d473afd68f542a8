/-
  NARROWER THAN 'FOR EVERY INPUT', by the rows' own cells (each row's printed sentence says how): RouteTries: laid.
  DERIVED. THE GIVEN ROWS OF THIS SEAT. 1 by the template 'for every input the law returns true; each argument reads behind the call as it read before'; 0 by the template 'total and deterministic' (their statements: YtecboaocoobjgaaGreatDoorTotals.lean).
  GIVEN WITH THE SEED: the statements are not yours to turn. If you find one false, say at which input.
  Laid BY PROGRAM, IN A SANDBOX (cutbox-rows.mjs): the forced cells as the released guide's own fill.sh prints them over the translation 18dc5ba859b4318c… (all of the seat's roots in one cut). By AI agents, Wed Nov 11 2026. No macro, syntax, notation, axiom, sorry.
-/
import Derived.Test.YtecboaocoobjgaaGreatDoorChecked
import GoSem.Claim
import GoSem.ClaimJoined
import GoSem.ClaimMapViews
import Derived.JoinedTies
import Derived.KernelRfl
namespace Go.Proofs.YtecboaocoobjgaaGreatDoor
/- THE CELL 'sum', in the pinned program and in every row, IS THE sha256 OF THE DUMP (.gsa) THAT YtecboaocoobjgaaGreatDoorProg.lean LOADS. Nothing in Lean hashes anything: it is a label: what it is worth is what the hold of that sum in a sandbox is worth. -/
noncomputable def Tryz.pinned : Pinned := { name := "ytecboaocoobjgaagreatdoor", sum := "18dc5ba859b4318c0b3ea3c53af306794e95e5b5043c1530112c0bb6ad5f5e81", checked := Tryz.checked }
namespace Rows
def none {H : Type} : Left H := { results := [], args := [] }

/- WHAT THE LISTED PACKAGE-LEVEL VARIABLES READ AS WHEN THE CALL BEGINS. Each datum BY PROGRAM (the guide's laid-datum.mjs) off the statement by which the dump's own 'gosem.cut.vars' lays the variable. In a bare row this is a premise. The card (YtecboaocoobjgaaGreatDoorCards.lean) ties it to the program's text. -/
def laid_math_bits_deBruijn32tab {H : Type} : DataW H := .agg [.lit (.int .u8 0), .lit (.int .u8 1), .lit (.int .u8 28), .lit (.int .u8 2), .lit (.int .u8 29), .lit (.int .u8 14), .lit (.int .u8 24), .lit (.int .u8 3), .lit (.int .u8 30), .lit (.int .u8 22), .lit (.int .u8 20), .lit (.int .u8 15), .lit (.int .u8 25), .lit (.int .u8 17), .lit (.int .u8 4), .lit (.int .u8 8), .lit (.int .u8 31), .lit (.int .u8 27), .lit (.int .u8 13), .lit (.int .u8 23), .lit (.int .u8 21), .lit (.int .u8 19), .lit (.int .u8 16), .lit (.int .u8 7), .lit (.int .u8 26), .lit (.int .u8 12), .lit (.int .u8 18), .lit (.int .u8 6), .lit (.int .u8 11), .lit (.int .u8 5), .lit (.int .u8 10), .lit (.int .u8 9)]
def laid_math_bits_deBruijn64tab {H : Type} : DataW H := .agg [.lit (.int .u8 0), .lit (.int .u8 1), .lit (.int .u8 56), .lit (.int .u8 2), .lit (.int .u8 57), .lit (.int .u8 49), .lit (.int .u8 28), .lit (.int .u8 3), .lit (.int .u8 61), .lit (.int .u8 58), .lit (.int .u8 42), .lit (.int .u8 50), .lit (.int .u8 38), .lit (.int .u8 29), .lit (.int .u8 17), .lit (.int .u8 4), .lit (.int .u8 62), .lit (.int .u8 47), .lit (.int .u8 59), .lit (.int .u8 36), .lit (.int .u8 45), .lit (.int .u8 43), .lit (.int .u8 51), .lit (.int .u8 22), .lit (.int .u8 53), .lit (.int .u8 39), .lit (.int .u8 33), .lit (.int .u8 30), .lit (.int .u8 24), .lit (.int .u8 18), .lit (.int .u8 12), .lit (.int .u8 5), .lit (.int .u8 63), .lit (.int .u8 55), .lit (.int .u8 48), .lit (.int .u8 27), .lit (.int .u8 60), .lit (.int .u8 41), .lit (.int .u8 37), .lit (.int .u8 16), .lit (.int .u8 46), .lit (.int .u8 35), .lit (.int .u8 44), .lit (.int .u8 21), .lit (.int .u8 52), .lit (.int .u8 32), .lit (.int .u8 23), .lit (.int .u8 11), .lit (.int .u8 54), .lit (.int .u8 26), .lit (.int .u8 40), .lit (.int .u8 15), .lit (.int .u8 34), .lit (.int .u8 20), .lit (.int .u8 31), .lit (.int .u8 10), .lit (.int .u8 25), .lit (.int .u8 14), .lit (.int .u8 19), .lit (.int .u8 9), .lit (.int .u8 13), .lit (.int .u8 8), .lit (.int .u8 7), .lit (.int .u8 6)]
def laid_internal_strconv_uint64pow10 {H : Type} : DataW H := .agg [.lit (.int .u64 1), .lit (.int .u64 10), .lit (.int .u64 100), .lit (.int .u64 1000), .lit (.int .u64 10000), .lit (.int .u64 100000), .lit (.int .u64 1000000), .lit (.int .u64 10000000), .lit (.int .u64 100000000), .lit (.int .u64 1000000000), .lit (.int .u64 10000000000), .lit (.int .u64 100000000000), .lit (.int .u64 1000000000000), .lit (.int .u64 10000000000000), .lit (.int .u64 100000000000000), .lit (.int .u64 1000000000000000), .lit (.int .u64 10000000000000000), .lit (.int .u64 100000000000000000), .lit (.int .u64 1000000000000000000), .lit (.int .u64 10000000000000000000)]
def laid_turnstile_digits_ebcdic {H : Type} : DataW H := .agg [.lit (.int .u8 64), .lit (.int .u8 90), .lit (.int .u8 127), .lit (.int .u8 123), .lit (.int .u8 91), .lit (.int .u8 108), .lit (.int .u8 80), .lit (.int .u8 125), .lit (.int .u8 77), .lit (.int .u8 93), .lit (.int .u8 92), .lit (.int .u8 78), .lit (.int .u8 107), .lit (.int .u8 96), .lit (.int .u8 75), .lit (.int .u8 97), .lit (.int .u8 240), .lit (.int .u8 241), .lit (.int .u8 242), .lit (.int .u8 243), .lit (.int .u8 244), .lit (.int .u8 245), .lit (.int .u8 246), .lit (.int .u8 247), .lit (.int .u8 248), .lit (.int .u8 249), .lit (.int .u8 122), .lit (.int .u8 94), .lit (.int .u8 76), .lit (.int .u8 126), .lit (.int .u8 110), .lit (.int .u8 111), .lit (.int .u8 124), .lit (.int .u8 193), .lit (.int .u8 194), .lit (.int .u8 195), .lit (.int .u8 196), .lit (.int .u8 197), .lit (.int .u8 198), .lit (.int .u8 199), .lit (.int .u8 200), .lit (.int .u8 201), .lit (.int .u8 209), .lit (.int .u8 210), .lit (.int .u8 211), .lit (.int .u8 212), .lit (.int .u8 213), .lit (.int .u8 214), .lit (.int .u8 215), .lit (.int .u8 216), .lit (.int .u8 217), .lit (.int .u8 226), .lit (.int .u8 227), .lit (.int .u8 228), .lit (.int .u8 229), .lit (.int .u8 230), .lit (.int .u8 231), .lit (.int .u8 232), .lit (.int .u8 233), .lit (.int .u8 186), .lit (.int .u8 224), .lit (.int .u8 187), .lit (.int .u8 176), .lit (.int .u8 109), .lit (.int .u8 121), .lit (.int .u8 129), .lit (.int .u8 130), .lit (.int .u8 131), .lit (.int .u8 132), .lit (.int .u8 133), .lit (.int .u8 134), .lit (.int .u8 135), .lit (.int .u8 136), .lit (.int .u8 137), .lit (.int .u8 145), .lit (.int .u8 146), .lit (.int .u8 147), .lit (.int .u8 148), .lit (.int .u8 149), .lit (.int .u8 150), .lit (.int .u8 151), .lit (.int .u8 152), .lit (.int .u8 153), .lit (.int .u8 162), .lit (.int .u8 163), .lit (.int .u8 164), .lit (.int .u8 165), .lit (.int .u8 166), .lit (.int .u8 167), .lit (.int .u8 168), .lit (.int .u8 169), .lit (.int .u8 192), .lit (.int .u8 79), .lit (.int .u8 208), .lit (.int .u8 161)]
def laid_turnstile_route_known {H : Type} : DataW H := .agg [.agg [.lit (.int .i64 2), .lit (.int .i64 1), .lit (.int .i64 19), .lit (.bool true)], .agg [.lit (.int .i64 3), .lit (.int .i64 1), .lit (.int .i64 6), .lit (.bool false)], .agg [.lit (.int .i64 4), .lit (.int .i64 1), .lit (.int .i64 12), .lit (.bool false)], .agg [.lit (.int .i64 7), .lit (.int .i64 1), .lit (.int .i64 10), .lit (.bool false)], .agg [.lit (.int .i64 11), .lit (.int .i64 1), .lit (.int .i64 6), .lit (.bool false)], .agg [.lit (.int .i64 12), .lit (.int .i64 1), .lit (.int .i64 6), .lit (.bool false)], .agg [.lit (.int .i64 13), .lit (.int .i64 1), .lit (.int .i64 4), .lit (.bool false)], .agg [.lit (.int .i64 14), .lit (.int .i64 1), .lit (.int .i64 4), .lit (.bool false)], .agg [.lit (.int .i64 32), .lit (.int .i64 1), .lit (.int .i64 11), .lit (.bool true)], .agg [.lit (.int .i64 35), .lit (.int .i64 6), .lit (.int .i64 37), .lit (.bool true)], .agg [.lit (.int .i64 37), .lit (.int .i64 3), .lit (.int .i64 12), .lit (.bool false)], .agg [.lit (.int .i64 38), .lit (.int .i64 3), .lit (.int .i64 6), .lit (.bool false)], .agg [.lit (.int .i64 39), .lit (.int .i64 3), .lit (.int .i64 2), .lit (.bool false)], .agg [.lit (.int .i64 41), .lit (.int .i64 4), .lit (.int .i64 8), .lit (.bool false)], .agg [.lit (.int .i64 42), .lit (.int .i64 4), .lit (.int .i64 15), .lit (.bool false)], .agg [.lit (.int .i64 48), .lit (.int .i64 9), .lit (.int .i64 0), .lit (.bool true)], .agg [.lit (.int .i64 49), .lit (.int .i64 1), .lit (.int .i64 3), .lit (.bool false)], .agg [.lit (.int .i64 52), .lit (.int .i64 5), .lit (.int .i64 8), .lit (.bool false)], .agg [.lit (.int .i64 66), .lit (.int .i64 1), .lit (.int .i64 1), .lit (.bool false)], .agg [.lit (.int .i64 70), .lit (.int .i64 1), .lit (.int .i64 3), .lit (.bool false)], .agg [.lit (.int .i64 74), .lit (.int .i64 1), .lit (.int .i64 10), .lit (.bool false)], .agg [.lit (.int .i64 75), .lit (.int .i64 1), .lit (.int .i64 10), .lit (.bool false)], .agg [.lit (.int .i64 76), .lit (.int .i64 1), .lit (.int .i64 10), .lit (.bool false)], .agg [.lit (.int .i64 77), .lit (.int .i64 1), .lit (.int .i64 10), .lit (.bool false)], .agg [.lit (.int .i64 86), .lit (.int .i64 1), .lit (.int .i64 16), .lit (.bool false)], .agg [.lit (.int .i64 87), .lit (.int .i64 1), .lit (.int .i64 16), .lit (.bool false)], .agg [.lit (.int .i64 88), .lit (.int .i64 1), .lit (.int .i64 16), .lit (.bool false)], .agg [.lit (.int .i64 89), .lit (.int .i64 1), .lit (.int .i64 16), .lit (.bool false)], .agg [.lit (.int .i64 90), .lit (.int .i64 1), .lit (.int .i64 42), .lit (.bool false)]]

/-- 'turnstilelaw15.RouteTries': WHATEVER THE INPUT: true; the input reads as it did. -/
def routeTriesSpec : ChangeSpec := { name := "routeTries", fn := fun _ => fun
  | [d] => { results := [.lit (.bool true)], args := [d] }
  | _ => none }
def routeTriesRow : OpenClaim := { program := "ytecboaocoobjgaagreatdoor", sum := "18dc5ba859b4318c0b3ea3c53af306794e95e5b5043c1530112c0bb6ad5f5e81", func := "turnstile/turnstilelaw15.RouteTries", spec := "routeTries", inPlace := ["internal/abi.NoEscape", "internal/bytealg.MakeNoZero"], unfollowed := true, recurses := true, named := ["internal/strconv.uint64pow10", "math/bits.deBruijn32tab", "math/bits.deBruijn64tab", "turnstile/digits.ebcdic", "turnstile/route.known"], apart := false, laid := [("math/bits.deBruijn32tab", laid_math_bits_deBruijn32tab), ("math/bits.deBruijn64tab", laid_math_bits_deBruijn64tab), ("internal/strconv.uint64pow10", laid_internal_strconv_uint64pow10), ("turnstile/digits.ebcdic", laid_turnstile_digits_ebcdic), ("turnstile/route.known", laid_turnstile_route_known)] }
def RouteTriesSaid : Prop := routeTriesRow.holds Tryz.pinned (OpenSpec.ofChange routeTriesSpec)

/-- ITS FALSE NEIGHBOUR: 'it returns false'. Refute it at one input. -/
def routeTriesWrong : ChangeSpec := { name := "routeTries", fn := fun _ => fun
  | [d] => { results := [.lit (.bool false)], args := [d] }
  | _ => none }
def RouteTriesWrongFalsely : Prop := routeTriesRow.holds Tryz.pinned (OpenSpec.ofChange routeTriesWrong)

/- THE SECOND FORM. 'bulk': how many values and letters a reading holds, each counted each time it is reached (what is shared counts as often as it is met; a slice's spare places count too). A statement '..UptoSaid' is the law's where the arguments, and the package variables that the reading takes, are together of bulk at most 1048576: NARROWER than '..Said'. Prove '..Said' where nothing that the law and all that it calls make is longer than what came in: it says more and counts as full. Else prove '..UptoSaid'. A law counts once. -/
mutual
def uptoBulk {H : Type} : DataW H → Nat
  | .lit (.string bytes) => bytes.length + 1
  | .lit _ => 1
  | .nil => 1
  | .ptr d => uptoBulk d + 1
  | .slice elems spare => uptoBulkAll elems + uptoBulkAll spare + 1
  | .agg parts => uptoBulkAll parts + 1
  | .iface _ d => uptoBulk d + 1
  | .map entries => uptoBulkEntries entries + 1
  | .held _ => 1
def uptoBulkAll {H : Type} : List (DataW H) → Nat
  | [] => 0
  | d :: r => uptoBulk d + uptoBulkAll r
def uptoBulkEntries {H : Type} : List (Lit × DataW H) → Nat
  | [] => 0
  | x :: r => uptoBulkEntry x + uptoBulkEntries r
def uptoBulkEntry {H : Type} : Lit × DataW H → Nat
  | (.string bytes, d) => bytes.length + uptoBulk d + 1
  | (_, d) => uptoBulk d + 1
 end
def uptoSmall : (H : Type) → List (DataW H) → Bool := fun _ ds => decide (uptoBulkAll ds ≤ 1048576)
def OpenSpec.upto (s : _root_.Go.ChangeSpec) : _root_.Go.OpenSpec := { _root_.Go.OpenSpec.ofChange s with cond := some uptoSmall }

/-- 'turnstilelaw15.RouteTries', WHERE WHAT IT READS IS OF BULK AT MOST 1048576: true; the input reads as it did. -/
def routeTriesUptoRow : OpenClaim := { program := "ytecboaocoobjgaagreatdoor", sum := "18dc5ba859b4318c0b3ea3c53af306794e95e5b5043c1530112c0bb6ad5f5e81", func := "turnstile/turnstilelaw15.RouteTries", spec := "routeTries", inPlace := ["internal/abi.NoEscape", "internal/bytealg.MakeNoZero"], unfollowed := true, recurses := true, named := ["internal/strconv.uint64pow10", "math/bits.deBruijn32tab", "math/bits.deBruijn64tab", "turnstile/digits.ebcdic", "turnstile/route.known"], apart := false, laid := [("math/bits.deBruijn32tab", laid_math_bits_deBruijn32tab), ("math/bits.deBruijn64tab", laid_math_bits_deBruijn64tab), ("internal/strconv.uint64pow10", laid_internal_strconv_uint64pow10), ("turnstile/digits.ebcdic", laid_turnstile_digits_ebcdic), ("turnstile/route.known", laid_turnstile_route_known)], narrowed := true }
def RouteTriesUptoSaid : Prop := routeTriesUptoRow.holds Tryz.pinned (OpenSpec.upto routeTriesSpec)

end Rows
end Go.Proofs.YtecboaocoobjgaaGreatDoor
