/- Cards: Luhn, Right: the program's and the document's. -/
import Derived.Test.YtbekjlinnbmpgaaKd
import Derived.Test.YtbekjlinnbmpgaaQl
import Derived.Test.YtbekjlinnbmpgaaShelf
namespace Go.Proofs.Ytbekjlinnbmpgaa.Ki
open Go.RowKit Lib0 Kp Kb Kd
theorem balanced_any (s : ByteArray) (w : World) (hs : s.size ≤ 4194304) (ha : ad s = true) :
    Calls Try.prog 31 #[.string s] w fun e w' => e = .returned (.bool (decide (sm s.data.toList % 10 = 0))) ∧ w' = w := by
  have p := fun y => sum_any s y hs ha
  clear ha
  obtain ⟨v, Hv, hv⟩ : ∃ v : Nat, Hid (sm s.data.toList % 10 = v) ∧ v < 10 := ⟨_, rfl, Nat.mod_lt _ (by omega)⟩
  rw [Hv.out] at p ⊢
  go_enter Try.func31, Try.ntmps31
  go_wp2_with fail
  refine (p _).mono ?_
  rintro e w' ⟨rfl, rfl⟩
  by_cases h0 : v = 0
  · subst h0
    go_wp2
    go_ret
    exact ⟨rfl, rfl⟩
  · have h1 : ((v : Int) == 0) = false := by simp; omega
    go_wp2
    go_ret
    exact ⟨ret_bool (by simp [h0]), rfl⟩
theorem right_any (s : ByteArray) (w : World) (hs : s.size ≤ 4194304) :
    Calls Try.prog 16 #[.string s] w fun e w' => e = .returned (.int .i64 (rightR s.data.toList)) ∧ w' = w := by
  have p1 := fun y => allDigits_any s y hs
  have p2 := fun y => balanced_any s y hs
  have el : rightR s.data.toList = if decide (12 ≤ s.size) && decide (s.size ≤ 19) && ad s then (if decide (sm s.data.toList % 10 = 0) then 0 else 51) else 50 := by
    unfold rightR ad
    simp only [decide_eq_true_eq]; rfl
  rw [el]
  clear el
  generalize decide (sm s.data.toList % 10 = 0) = B at *
  generalize ad s = D at *
  by_cases h1 : (s.size : Int) < 12
  · have e2 : decide (12 ≤ s.size) = false := by simp; omega
    rw [e2]
    go_enter Try.func16, Try.ntmps16
    go_wp2
    go_ret
    exact ⟨rfl, rfl⟩
  · have e2 : decide (12 ≤ s.size) = true := by simp; omega
    rw [e2]
    by_cases h2 : (19 : Int) < s.size
    · have e3 : decide (s.size ≤ 19) = false := by simp; omega
      rw [e3]
      go_enter Try.func16, Try.ntmps16
      go_wp2
      go_ret
      exact ⟨rfl, rfl⟩
    · have e3 : decide (s.size ≤ 19) = true := by simp; omega
      rw [e3]
      go_enter Try.func16, Try.ntmps16
      go_wp2_with fail
      refine (p1 _).mono ?_
      rintro e w' ⟨rfl, rfl⟩
      cases D
      · go_wp2
        go_ret
        exact ⟨rfl, rfl⟩
      · go_wp2_with fail
        refine (p2 _ (by trivial)).mono ?_
        rintro e w' ⟨rfl, rfl⟩
        cases B
        · go_wp2
          go_ret
          exact ⟨rfl, rfl⟩
        · go_wp2
          go_ret
          exact ⟨rfl, rfl⟩
end Go.Proofs.Ytbekjlinnbmpgaa.Ki
