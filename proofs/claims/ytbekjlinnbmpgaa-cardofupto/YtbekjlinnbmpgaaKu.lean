/- Tracks: Clone, unlessMissing, orMissing. -/
import Derived.Test.YtbekjlinnbmpgaaKw
import Derived.Test.YtbekjlinnbmpgaaQt
import Derived.Test.YtbekjlinnbmpgaaKi
namespace Go.Proofs.Ytbekjlinnbmpgaa.Ku
set_option linter.unusedVariables false
open Go.RowKit Lib0 Kp Kb Kd Kt Ks Kw
theorem clone_any (s : ByteArray) (w : World) (hs : s.size ≤ 4194304) :
    Calls Try.prog 22 #[.string s] w fun e w' => e = .returned (.string s) ∧ Below w.heap.size w w' := by
  have p := fun y => Try.stringslite_Clone s y (by omega)
  go_enter Try.func22, Try.ntmps22
  go_wp2_with fail
  refine (p _).mono ?_
  rintro e y ⟨rfl, hy⟩
  go_wp2
  go_ret
  exact ⟨rfl, hy⟩
def um (t : ByteArray) : ByteArray := if t = ⟨#[61]⟩ then ⟨#[]⟩ else t
def om (t : ByteArray) : ByteArray := if t = ⟨#[]⟩ then ⟨#[61]⟩ else t
theorem tl (s : ByteArray) : s.toList = s.data.toList := ByteArray.toList_eq s
theorem ba_eq {s : ByteArray} {l : List UInt8} : s.data.toList = l ↔ s = ⟨l.toArray⟩ := by
  constructor
  · intro h; subst h; rfl
  · intro h; subst h; rfl
theorem unless_any (t : ByteArray) (w : World) (hs : t.size ≤ 4194304) :
    Calls Try.prog 27 #[.string t] w fun e w' => e = .returned (.string (um t)) ∧ Below w.heap.size w w' := by
  have p := fun y => clone_any t y hs
  by_cases h : t = ⟨#[61]⟩
  · rw [um, if_pos h]
    subst h
    go_enter Try.func27, Try.ntmps27
    go_wp2
    go_ret
    exact ⟨rfl, Below.refl _ _⟩
  · rw [um, if_neg h]
    have h' : (t.toList == [61]) = false := by rw [tl, beq_eq_false_iff_ne]; intro hh; exact h (ba_eq.1 hh)
    go_enter Try.func27, Try.ntmps27
    go_wp2_with fail
    refine (p _).mono ?_
    rintro e y ⟨rfl, hy⟩
    go_wp2
    go_ret
    exact ⟨rfl, hy⟩
theorem or_any (t : ByteArray) (w : World) :
    Calls Try.prog 28 #[.string t] w fun e w' => e = .returned (.string (om t)) ∧ w' = w := by
  by_cases h : t = ⟨#[]⟩
  · rw [om, if_pos h]
    subst h
    go_enter Try.func28, Try.ntmps28
    go_wp2
    go_ret
    exact ⟨rfl, rfl⟩
  · rw [om, if_neg h]
    have h' : t.toList.isEmpty = false := by rw [tl, List.isEmpty_eq_false_iff]; intro hh; exact h (ba_eq.1 hh)
    go_enter Try.func28, Try.ntmps28
    go_wp2
    go_ret
    exact ⟨rfl, rfl⟩
end Go.Proofs.Ytbekjlinnbmpgaa.Ku
