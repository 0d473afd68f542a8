/- Table.All: what a range over the wheel keeps. -/
import Derived.Test.YtgchdjjafgkcbaaVe
import Derived.Test.YtgchdjjafgkcbaaPq
namespace Go.Proofs.Ytgchdjjafgkcbaa.Vf
set_option linter.unusedVariables false
set_option linter.unusedSimpArgs false
open Go.RowKit Go.Maps Go.Shelf Lib0 Kb Xp Ih Dh Eh Fh Gh Hh Kh Jh Mh Th Ch Va Vb Vc Vd Ve Sr
/-- what a body keeps: every block of what is laid down -/
def KL (A B : World) : Prop := ∀ (k : Nat) (c : Array Value) (fr : Nat × Nat), A.heap[k]? = some (Obj.cells c tL fr) → B.heap[k]? = A.heap[k]?
theorem kl_r (A : World) : KL A A := fun _ _ _ _ => rfl
theorem kl_t {A B C : World} (h : KL A B) (k : KL B C) : KL A C := fun i c fr hi => (k i c fr ((h i c fr hi).trans hi)).trans (h i c fr hi)
theorem kl_below {A B : World} (h : Below A.heap.size A B) : KL A B := fun k c fr hk => h.block k (Array.getElem?_eq_some_iff.1 hk).1
theorem kl_b (W : World) (l : Nat) (o o' : Obj) (h : W.heap[l]? = some o) (hc : o.isCells = false) : KL W (W.putObj l o') :=
  fun k c fr hk => World.putObj_heap_other (fun e => by subst e; rw [h] at hk; cases hk; simp [Obj.isCells] at hc)
theorem kl_set {A : World} {g : Nat} {c : Array Value} {t : TypeId} {fr : Nat × Nat} (h : A.heap[g]? = some (.cells c t fr)) (ht : t ≠ tL) (o : Nat) (v : Value) : KL A (A.setCell ⟨g, o, none⟩ v) :=
  fun k c' fr' hk => setCell_ne (p := ⟨g, o, none⟩) (fun e : g = k => by subst e; rw [h] at hk; cases hk; exact ht rfl) v
theorem kl_grown {A B : World} {row : Option Nat} (h : A.grownBy B row) (hr : ∀ r, row = some r → ∃ c t fr, A.heap[r]? = some (.cells c t fr) ∧ t ≠ tL) : KL A B :=
  fun k c fr hk => h.block k (Array.getElem?_eq_some_iff.1 hk).1 (fun e => by obtain ⟨c2, t, fr2, h1, h2⟩ := hr k e.symm; rw [hk] at h1; cases h1; exact h2 rfl)
theorem kl_kept : Kept3 KL (fun _ _ => True) := ⟨fun hk _ hg => ⟨(hk _ _ _ hg).trans hg, trivial⟩, fun _ _ => trivial⟩
theorem gk {A B : World} {row : Option Nat} {b : Nat} {o : Obj} (h : A.grownBy B row) (e : A.heap[b]? = some o) (hne : row ≠ some b) : B.heap[b]? = some o := (h.block b (Array.getElem?_eq_some_iff.1 e).1 (fun e2 => hne e2.symm)).trans e
theorem kf_set {n : Nat} {A : World} {g : Nat} {c : Array Value} {t : TypeId} {fr : Nat × Nat} (h : A.heap[g]? = some (.cells c t fr)) (o : Nat) (v : Value) : KeepsFrom n A (A.setCell ⟨g, o, none⟩ v) :=
  ⟨by rw [setCell_size]; exact Nat.le_refl _, fun k ob _ e ho => (setCell_ne (p := ⟨g, o, none⟩) (fun e2 : g = k => by subst e2; rw [h] at e; cases e; cases ho) v).trans e⟩
theorem kf_below {n : Nat} {A B : World} (h : Below A.heap.size A B) : KeepsFrom n A B := ⟨h.size, fun k ob _ e _ => kept h e⟩
theorem kf_grown {n : Nat} {A B : World} {row : Option Nat} (h : A.grownBy B row) (hr : ∀ r, row = some r → ∃ c t fr, A.heap[r]? = some (.cells c t fr)) : KeepsFrom n A B :=
  ⟨h.size, fun k ob _ e ho => gk h e (fun e2 => by obtain ⟨c, t, fr, h1⟩ := hr k e2; rw [e] at h1; cases h1; cases ho)⟩
theorem cells_grown {A B : World} {row : Option Nat} {b : Nat} {c : Array Value} {t : TypeId} {fr : Nat × Nat} (h : A.grownBy B row) (hr : ∀ r, row = some r → ∃ o : Obj, A.heap[r]? = some o ∧ o.isCells = false) (e : A.heap[b]? = some (.cells c t fr)) : B.heap[b]? = some (.cells c t fr) :=
  gk h e fun e2 => by obtain ⟨o, h1, h2⟩ := hr b e2; rw [e] at h1; cases h1; cases h2
/-- All answers an iterator -/
theorem all_any (b : Nat) (w : World) : Calls Try.prog 30 #[.pointer (some ⟨b, 0, none⟩)] w fun e w' => e = .returned (.func (.func 40) #[] #[.pointer (some ⟨w.heap.size, 0, none⟩)]) ∧ w' = w.alloc (.cells #[.pointer (some ⟨b, 0, none⟩)] tPW) := by
  have hmf : ∀ (fn : Fn) (first cap : Array Value) (w : World), (Instr.makeFunc fn first cap).run Try.prog w = .ok (.func fn first cap) w := fun _ _ _ _ => rfl
  go_enter Try.func30, Try.ntmps30
  go_wp2
  go_ret
  exact ⟨rfl, rfl⟩
end Go.Proofs.Ytgchdjjafgkcbaa.Vf
