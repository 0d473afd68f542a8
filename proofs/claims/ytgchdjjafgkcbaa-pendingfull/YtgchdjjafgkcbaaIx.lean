/- valued, copyNodes of nothing. -/
import Derived.Test.YtgchdjjafgkcbaaIc
namespace Go.Proofs.Ytgchdjjafgkcbaa.Ix
set_option linter.unusedVariables false
set_option linter.unusedSimpArgs false
open Go.RowKit Kb Ic
theorem heap_kept {B : Nat} {w x : World} (h : Below B w x) {g : Nat} (hg : g < B) : x.heap[g]? = w.heap[g]? := by
  exact h.block g hg
theorem infoF : (Try.prog.info? 82).map (·.size) = some 3 := by kernel_rfl
theorem below_new (w : World) (o : Obj) : Below w.heap.size w (w.alloc o) := (Below.refl _ _).alloc (Nat.le_refl _) o
theorem copyNodes_nil (w : World) : Calls Try.prog 77 #[.slice none 0 0] w fun e w' => e = .returned (.slice none 0 0) ∧ w' = w := by
  go_enter Try.func77, Try.ntmps77
  go_wp2_with fail
  go_loopw [3, 8] (fun c i wr => c = .slice none 0 0 ∧ i = .int .i64 0 ∧ wr = w) (fun _ _ _ => 0)
  · exact ⟨rfl, rfl, rfl⟩
  · obtain ⟨rfl, rfl, rfl⟩ := hrel
    go_wp2_with fail
    go_ret
    exact ⟨rfl, rfl⟩
end Go.Proofs.Ytgchdjjafgkcbaa.Ix
