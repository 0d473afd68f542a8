/- Chain, Unchain. -/
import Derived.Test.YtciblmdpngnakabCc
namespace Go.Proofs.Ytciblmdpngnakab.Ch
set_option linter.unusedVariables false
open Go.RowKit Pla Cb Tk Sm Wd Nw Bk Aw Eb Ec Et Cc
theorem prv_lenS (F : List Bool) (hF : F.length = 64) (s : ByteArray) (N : Nat) (h : s.size = 8 * N) : ∀ i, i < N → (prv F s.data.toList i).length = 64
  | 0, _ => hF
  | i + 1, hi => blk_len' s i (by omega)
end Go.Proofs.Ytciblmdpngnakab.Ch
