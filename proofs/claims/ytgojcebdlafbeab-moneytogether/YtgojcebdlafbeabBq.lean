/- The tactics for quiet regions. -/
import Derived.Test.YtgojcebdlafbeabSf
import Derived.Deep.QuietTactic
import Derived.BigQuiet
namespace Go.Proofs.Ytgojcebdlafbeab.Bq
theorem one_lt : 0 < 1 := Nat.zero_lt_one
end Go.Proofs.Ytgojcebdlafbeab.Bq
