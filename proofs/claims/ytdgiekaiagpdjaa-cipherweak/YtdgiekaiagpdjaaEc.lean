/- eachBlock, over a function value. -/
import Derived.Test.YtdgiekaiagpdjaaEb
namespace Go.Proofs.Ytdgiekaiagpdjaa.Ec
set_option linter.unusedVariables false
open Go.RowKit Pla Cb Tk Wd Nw Bk Aw Eb
open Lib0 (bs bs_length bs_append owns_len run_str own_ge)
end Go.Proofs.Ytdgiekaiagpdjaa.Ec
