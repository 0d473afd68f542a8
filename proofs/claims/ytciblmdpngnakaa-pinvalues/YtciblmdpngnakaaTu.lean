/- turned: what the program answers is what the document answers. -/
import Derived.Test.YtciblmdpngnakaaRu
import Derived.Test.YtciblmdpngnakaaCk
namespace Go.Proofs.Ytciblmdpngnakaa.Tu
set_option linter.unusedVariables false
open Go.RowKit Pla Cb Wd Nw Bk Eb Et Cc Ch Pm Ro Rl Ru
open Bl (len_size mk_eq)
def RetE (R : ByteArray) (E : Int) (w : World) : Ending → World → Prop := fun e w' => e = .returned (.tuple #[.string R, .int .i64 E]) ∧ Below w.heap.size w w'
theorem good_len {n K : Nat} (h : kindN n = K) (h1 : 1 ≤ K) : n = 8 ∨ n = 16 ∨ n = 24 := by
  unfold kindN at h
  split at h
  · omega
  · split at h
    · omega
    · split at h <;> omega
theorem map_turn (k s : ByteArray) (N : Nat) (hN : s.size = 8 * N) (back : Bool) : (⟨(mapB (if back then dec k.data.toList else enc k.data.toList) s.data.toList).toArray⟩ : ByteArray) = turnB k.data.toList back s N := by
  rw [turnB, ← mapB_N _ s N hN]
  cases back <;> rfl
end Go.Proofs.Ytciblmdpngnakaa.Tu
