/- The type of a message: Right. -/
import Derived.Test.YteaanenhefbkjaaDoorHp
import Derived.Deep.QuietTactic
import Derived.BigQuiet
namespace Go.Proofs.YteaanenhefbkjaaDoor.Hr
set_option linter.unusedVariables false
set_option linter.unusedSimpArgs false
open Go.RowKit Hp
def rt4 (a b c d : Nat) : Bool := (a == 48 || a == 49) && fnN b c && orN c d
def rt (s : ByteArray) : Bool := match s.data.toList with
  | [a, b, c, d] => rt4 a.toNat b.toNat c.toNat d.toNat
  | _ => false
theorem four (s : ByteArray) (h : s.size = 4) : ∃ a b c d : UInt8, s = ⟨#[a, b, c, d]⟩ := by
  obtain ⟨⟨l⟩⟩ := s
  match l, h with
  | [a, b, c, d], _ => exact ⟨a, b, c, d, rfl⟩
theorem rt_no (s : ByteArray) (h : ¬ s.size = 4) : rt s = false := by
  obtain ⟨⟨l⟩⟩ := s
  match l, h with
  | [], _ => rfl
  | [a], _ => rfl
  | [a, b], _ => rfl
  | [a, b, c], _ => rfl
  | [a, b, c, d], h => exact absurd rfl h
  | a :: b :: c :: d :: e :: r, _ => rfl
set_option maxRecDepth 100000 in
set_option maxHeartbeats 800000 in
theorem right_four (s : ByteArray) (hs : s.size = 4) (A B C D : Nat) (e0 : (s[0]'(by omega)).toNat = A) (e1 : (s[1]'(by omega)).toNat = B) (e2 : (s[2]'(by omega)).toNat = C) (e3 : (s[3]'(by omega)).toNat = D) (w : World) : Calls Tryd.prog 39 #[.string s] w fun e w' => e = .returned (.bool (rt4 A B C D)) ∧ ∃ m, w' = w.drewN m := by
  have pf := fun w => rightFunction_any B C w
  have po := fun w => rightOrigin_any C D w
  by_cases h0 : A = 48 ∨ A = 49
  · have e : rt4 A B C D = (fnN B C && orN C D) := by
      rw [rt4]; rcases h0 with h | h <;> simp [h]
    rw [e]
    cases hF : fnN B C with
    | false =>
      rw [hF] at pf
      rcases h0 with h | h
      · subst h
        go_enter Tryd.func39, Tryd.ntmps39
        go_wp2_with fail
        go_quiet ((first | (go_at_call 50; exact Calls.quiet_of_same (pf _)) | (go_at_call 51; exact Calls.quiet_of_same (po _))))
        go_wp2_with fail
        go_ret
        exact ⟨rfl, _, rfl⟩
      · subst h
        go_enter Tryd.func39, Tryd.ntmps39
        go_wp2_with fail
        go_quiet ((first | (go_at_call 50; exact Calls.quiet_of_same (pf _)) | (go_at_call 51; exact Calls.quiet_of_same (po _))))
        go_wp2_with fail
        go_ret
        exact ⟨rfl, _, rfl⟩
    | true =>
      rw [hF] at pf
      rw [Bool.true_and]
      obtain ⟨Z, hB⟩ : ∃ Z, orN C D = Z := ⟨_, rfl⟩
      rw [hB] at po ⊢
      rcases h0 with h | h
      · subst h
        go_enter Tryd.func39, Tryd.ntmps39
        go_wp2_with fail
        go_quiet ((first | (go_at_call 50; exact Calls.quiet_of_same (pf _)) | (go_at_call 51; exact Calls.quiet_of_same (po _))))
        go_wp2_with fail
        go_ret
        exact ⟨rfl, _, rfl⟩
      · subst h
        go_enter Tryd.func39, Tryd.ntmps39
        go_wp2_with fail
        go_quiet ((first | (go_at_call 50; exact Calls.quiet_of_same (pf _)) | (go_at_call 51; exact Calls.quiet_of_same (po _))))
        go_wp2_with fail
        go_ret
        exact ⟨rfl, _, rfl⟩
  · have e : rt4 A B C D = false := by
      rw [rt4]; simp only [not_or] at h0; simp [h0]
    rw [e]
    have g0 : ((A : Int) != 48) = true := by simp only [bne_iff_ne, ne_eq]; omega
    have g1 : ((A : Int) != 49) = true := by simp only [bne_iff_ne, ne_eq]; omega
    have g2 : ¬ (A : Int) = 48 := by omega
    have g3 : ¬ (A : Int) = 49 := by omega
    go_enter Tryd.func39, Tryd.ntmps39
    go_wp2
    go_ret
    exact ⟨rfl, 0, rfl⟩
set_option maxRecDepth 100000 in
set_option maxHeartbeats 800000 in
theorem right_not (s : ByteArray) (hs : ¬ s.size = 4) (hl : s.size ≤ maxLen) (w : World) : Calls Tryd.prog 39 #[.string s] w fun e w' => e = .returned (.bool false) ∧ ∃ m, w' = w.drewN m := by
  obtain ⟨N, hN⟩ : ∃ N, s.size = N := ⟨_, rfl⟩
  have g : ((N : Int) != 4) = true := by simp only [bne_iff_ne, ne_eq]; omega
  have g2 : ¬ (N : Int) = 4 := by omega
  clear hl
  go_enter Tryd.func39, Tryd.ntmps39
  go_wp2
  go_ret
  exact ⟨rfl, 0, rfl⟩
theorem rt_four (s : ByteArray) (hs : s.size = 4) : rt s = rt4 (s[0]'(by omega)).toNat (s[1]'(by omega)).toNat (s[2]'(by omega)).toNat (s[3]'(by omega)).toNat := by
  obtain ⟨a, b, c, d, rfl⟩ := four s hs
  rfl
theorem right_any (s : ByteArray) (hl : s.size ≤ maxLen) (w : World) : Calls Tryd.prog 39 #[.string s] w fun e w' => e = .returned (.bool (rt s)) ∧ ∃ m, w' = w.drewN m := by
  by_cases hs : s.size = 4
  · rw [rt_four s hs]
    exact right_four s hs _ _ _ _ rfl rfl rfl rfl w
  · rw [rt_no s hs]
    exact right_not s hs hl w
end Go.Proofs.YteaanenhefbkjaaDoor.Hr
