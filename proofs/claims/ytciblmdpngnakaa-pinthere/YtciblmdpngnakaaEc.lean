/- eachBlock, over a function value. -/
import Derived.Test.YtciblmdpngnakaaEb
namespace Go.Proofs.Ytciblmdpngnakaa.Ec
set_option linter.unusedVariables false
open Go.RowKit Pla Cb Tk Wd Nw Bk Aw Eb
open Lib0 (bs bs_length bs_append owns_len run_str own_ge)
end Go.Proofs.Ytciblmdpngnakaa.Ec
