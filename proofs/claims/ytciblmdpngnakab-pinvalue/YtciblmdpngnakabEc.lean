/- eachBlock, over a function value. -/
import Derived.Test.YtciblmdpngnakabEb
namespace Go.Proofs.Ytciblmdpngnakab.Ec
set_option linter.unusedVariables false
open Go.RowKit Pla Cb Tk Wd Nw Bk Aw Eb
open Lib0 (bs bs_length bs_append owns_len run_str own_ge)
end Go.Proofs.Ytciblmdpngnakab.Ec
