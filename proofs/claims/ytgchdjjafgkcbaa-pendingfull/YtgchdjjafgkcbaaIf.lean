/- isField; soundField of a field with a value alone. -/
import Derived.Test.YtgchdjjafgkcbaaIx
namespace Go.Proofs.Ytgchdjjafgkcbaa.If
set_option linter.unusedVariables false
set_option linter.unusedSimpArgs false
open Go.RowKit Kb Ix
theorem box_kept {w x : World} {a b c : Value} (h : Below (w.alloc (.cells #[a, b, c] 82)).heap.size (w.alloc (.cells #[a, b, c] 82)) x) : x.cell? ⟨w.heap.size, 0, none⟩ = some a ∧ x.cell? ⟨w.heap.size, 1, none⟩ = some b ∧ x.cell? ⟨w.heap.size, 2, none⟩ = some c := by
  have hc : x.heap[w.heap.size]? = some (.cells #[a, b, c] 82) := by
    rw [heap_kept h (by simp)]; exact heap_alloc_new w _
  exact ⟨by simp [World.cell?, hc], by simp [World.cell?, hc], by simp [World.cell?, hc]⟩
end Go.Proofs.Ytgchdjjafgkcbaa.If
