/- What CipherTurned asks, out of the contracts. -/
import Derived.Test.YtdgiekaiagpdjaaUn
namespace Go.Proofs.Ytdgiekaiagpdjaa.Ul
set_option linter.unusedVariables false
open Go.RowKit Pla Cb Wd Nw Bk Eb Et Pm Pc Bl Un
def RetS (s : ByteArray) (w : World) : Ending → World → Prop := fun e w' => e = .returned (.string s) ∧ Below w.heap.size w w'
end Go.Proofs.Ytdgiekaiagpdjaa.Ul
