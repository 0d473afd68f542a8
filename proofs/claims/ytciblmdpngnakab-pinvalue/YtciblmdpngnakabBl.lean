/- What CipherBack asks, out of the contracts. -/
import Derived.Test.YtciblmdpngnakabCh
import Derived.Test.YtciblmdpngnakabXo
import Derived.Test.YtciblmdpngnakabPm
namespace Go.Proofs.Ytciblmdpngnakab.Bl
set_option linter.unusedVariables false
open Go.RowKit Pla Cb Wd Nw Bk Eb Et Cc Ch Pm
def Ret (s : ByteArray) (w : World) : Ending → World → Prop := fun e w' => e = .returned (.tuple #[.string s, .int .i64 0]) ∧ Below w.heap.size w w'
theorem mk_eq (s : ByteArray) : (⟨s.data.toList.toArray⟩ : ByteArray) = s := by cases s; simp
theorem len_size (s : ByteArray) : s.data.toList.length = s.size := by simp
theorem kind_p (r : ByteArray) (p : Nat) (h : r.size = 8 + 8 * p) (hp : p < 3) : kindN r.size = p + 1 := by
  have : p = 0 ∨ p = 1 ∨ p = 2 := by omega
  rcases this with rfl | rfl | rfl <;> rw [h] <;> rfl
theorem keyOf {s : ByteArray} {w : World} {g K : Nat} (h : w.heap[g]? = some (.cells (bkC K (Tk.up (bf s.data.toList) (128 * K))) 79)) : Key w g K s.data.toList := h
end Go.Proofs.Ytciblmdpngnakab.Bl
