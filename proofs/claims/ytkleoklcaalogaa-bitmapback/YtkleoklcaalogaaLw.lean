/- Small words for the laws' walks. -/

import Derived.Test.YtkleoklcaalogaaDe
namespace Go.Proofs.Ytkleoklcaalogaa.Lw
set_option linter.unusedVariables false
open Go.RowKit Pla Bm Br
theorem keepR {a x : World} {b : Nat} {cs : List Value} (h : Below a.heap.size a x) (k : a.rangeAt b 0 cs) (hb : b < a.heap.size) : x.rangeAt b 0 cs := fun j v hv => keepC h (k j v hv) hb
theorem range_of {x : World} {g : Nat} {C : Array Value} {t : TypeId} {fr : Nat × Nat} (h : x.heap[g]? = some (.cells C t fr)) : x.rangeAt g 0 C.toList := fun j v hv => by
  rw [Nat.zero_add, cell_of_row x g j C t fr h]; simpa using hv
theorem lt_of {x : World} {g : Nat} {o : Obj} (h : x.heap[g]? = some o) : g < x.heap.size := (Array.getElem?_eq_some_iff.1 h).1
theorem szl {C : Array Value} {P : Program} {t : TypeId} (h : (P.info? t).map (·.size) = some C.size) : (P.info? t).map (·.size) = some C.toList.length := by rw [Array.length_toList]; exact h
theorem onl {C : Array Value} (h : C.all (·.oneCell') = true) : ∀ v ∈ C.toList, v.oneCell' = true := fun v hv => by
  rw [Array.all_eq_true_iff_forall_mem] at h
  exact h v (by simpa using hv)
end Go.Proofs.Ytkleoklcaalogaa.Lw
