import Derived.Test.YtgchdjjafgkcbaaQf01
/- valued, copyNodes of nothing. -/
namespace Go.Proofs.Ytgchdjjafgkcbaa.Ix
set_option linter.unusedVariables false
set_option linter.unusedSimpArgs false
open Go.RowKit Kb Ic
theorem heap_kept {B : Nat} {w x : World} (h : Below B w x) {g : Nat} (hg : g < B) : x.heap[g]? = w.heap[g]? := by
  exact h.block g hg
theorem infoF : (Try.prog.info? 82).map (·.size) = some 3 := by kernel_rfl
theorem below_new (w : World) (o : Obj) : Below w.heap.size w (w.alloc o) := (Below.refl _ _).alloc (Nat.le_refl _) o
theorem copyNodes_nil (w : World) : Calls Try.prog 77 #[.slice none 0 0] w fun e w' => e = .returned (.slice none 0 0) ∧ w' = w := by
  go_enter Try.func77, Try.ntmps77
  go_wp2_with fail
  go_loopw [3, 8] (fun c i wr => c = .slice none 0 0 ∧ i = .int .i64 0 ∧ wr = w) (fun _ _ _ => 0)
  · exact ⟨rfl, rfl, rfl⟩
  · obtain ⟨rfl, rfl, rfl⟩ := hrel
    go_wp2_with fail
    go_ret
    exact ⟨rfl, rfl⟩
end Go.Proofs.Ytgchdjjafgkcbaa.Ix
/- isField; soundField of a field with a value alone. -/
namespace Go.Proofs.Ytgchdjjafgkcbaa.If
set_option linter.unusedVariables false
set_option linter.unusedSimpArgs false
open Go.RowKit Kb Ix
theorem box_kept {w x : World} {a b c : Value} (h : Below (w.alloc (.cells #[a, b, c] 82)).heap.size (w.alloc (.cells #[a, b, c] 82)) x) : x.cell? ⟨w.heap.size, 0, none⟩ = some a ∧ x.cell? ⟨w.heap.size, 1, none⟩ = some b ∧ x.cell? ⟨w.heap.size, 2, none⟩ = some c := by
  have hc : x.heap[w.heap.size]? = some (.cells #[a, b, c] 82) := by
    rw [heap_kept h (by simp)]; exact heap_alloc_new w _
  exact ⟨by simp [World.cell?, hc], by simp [World.cell?, hc], by simp [World.cell?, hc]⟩
end Go.Proofs.Ytgchdjjafgkcbaa.If
