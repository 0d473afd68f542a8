/- Halves added up, all of them tried. -/
import Derived.Test.YtciblmdpngnakabRows
namespace Go.Proofs.Ytciblmdpngnakab.Px
theorem xor16 : ∀ a b c d : Fin 16, (UInt8.ofNat (16 * a.val + b.val)) ^^^ (UInt8.ofNat (16 * c.val + d.val)) = UInt8.ofNat (16 * (a.val ^^^ c.val) + (b.val ^^^ d.val)) := by decide +kernel
end Go.Proofs.Ytciblmdpngnakab.Px
