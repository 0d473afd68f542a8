/- Sub-elements are read: digits, pairs, what can be seen. -/
import Derived.Test.YtgidjfhlooggkaaGj
import Derived.BigQuiet
namespace Go.Proofs.Ytgidjfhlooggkaa.Gl
set_option linter.unusedVariables false
set_option linter.unusedSimpArgs false
open Go.RowKit Kb Ga Gb Gc Gd Ge Gf Gg Gh Gj Nt Np
def digR (s : ByteArray) (k : Nat) (e why : Int) : Rs :=
  if (k : Int) < e then if 48 ≤ byt s k ∧ byt s k ≤ 57 then .ok (byt s k - 48) (k + 1) else .bad why k else .bad 10 e
set_option maxRecDepth 100000 in
theorem digit_any {w : World} {g k : Nat} {s : ByteArray} {e d b : Int} (h : Rd w g s (k : Int) e d b) (hk : (k : Int) ≤ e) (h3 : e ≤ 1048576) (hs : e ≤ (s.size : Int)) (why : Int) :
    Calls Try.prog 105 #[.pointer (some ⟨g, 0, none⟩), .int .i64 why] w (Post w g s e d b (digR s k e why)) := by
  by_cases k0 : (k : Int) < e
  case neg =>
    rw [show digR s k e why = .bad 10 e by unfold digR; rw [if_neg k0]]
    go_enter Try.func105, Try.ntmps105
    go_wp2_with fail
    refine (next_end h (by omega) (by omega) (by omega) h3).mono ?_
    rintro _ x ⟨rfl, hg⟩
    exact ⟨rfl, rfl, hg⟩
  have cn := next_byt h k0 h3 hs
  have A0 := (byt_bd s k).1
  have A1 := (byt_bd s k).2
  obtain ⟨A, hA⟩ : ∃ A, byt s k = A := ⟨_, rfl⟩
  have tR : digR s k e why = if 48 ≤ A ∧ A ≤ 57 then .ok (A - 48) (k + 1) else .bad why k := by unfold digR; rw [if_pos k0, hA]
  rw [hA] at cn A0 A1
  rw [tR]
  clear tR hA
  by_cases a0 : 48 ≤ A
  · by_cases a1 : A ≤ 57
    · rw [if_pos ⟨a0, a1⟩]
      go_enter Try.func105, Try.ntmps105
      go_wp2_with fail
      refine cn.mono ?_
      rintro _ x ⟨rfl, hl⟩
      obtain ⟨⟨c0, c1, c2, c3, c4⟩, fz⟩ := hl.1.at
      clear fz c0 c2 c3 c4 cn
      go_wp2_with fail
      refine (must_ok _ _ _).mono ?_
      rintro _ y ⟨rfl, hy⟩
      rw [hy]; clear hy y c1
      go_wp2_with fail
      go_ret
      exact ⟨rfl, hl⟩
    · rw [if_neg (fun h => a1 h.2)]
      have d0 : decide (48 ≤ A) = true := decide_eq_true a0
      have d1 : decide (A ≤ 57) = false := decide_eq_false a1
      go_enter Try.func105, Try.ntmps105
      go_wp2_with fail
      refine cn.mono ?_
      rintro _ x ⟨rfl, hl⟩
      obtain ⟨⟨c0, c1, c2, c3, c4⟩, fz⟩ := hl.1.at
      have hgl : g < x.heap.size := (Array.getElem?_eq_some_iff.1 hl.1).1
      clear fz c0 c2 c3 c4 cn
      go_wp2_with fail
      refine (must_bad _ _ _).mono ?_
      rintro _ z ⟨rfl, rfl⟩
      exact ⟨rfl, rfl, hl.2⟩
  · rw [if_neg (fun h => a0 h.1)]
    have d0 : decide (48 ≤ A) = false := decide_eq_false a0
    go_enter Try.func105, Try.ntmps105
    go_wp2_with fail
    refine cn.mono ?_
    rintro _ x ⟨rfl, hl⟩
    obtain ⟨⟨c0, c1, c2, c3, c4⟩, fz⟩ := hl.1.at
    have hgl : g < x.heap.size := (Array.getElem?_eq_some_iff.1 hl.1).1
    clear fz c0 c2 c3 c4 cn
    go_wp2_with fail
    refine (must_bad _ _ _).mono ?_
    rintro _ z ⟨rfl, rfl⟩
    exact ⟨rfl, rfl, hl.2⟩
def pairR (s : ByteArray) (k : Nat) (e why : Int) : Rs := match digR s k e why with
  | .bad y a => .bad y a
  | .ok t k1 => match digR s k1 e why with
    | .bad y a => .bad y a
    | .ok u k2 => .ok (10 * t + u) k2
theorem digR_ok {s : ByteArray} {k : Nat} {e why t : Int} {k1 : Nat} (h : digR s k e why = .ok t k1) : k1 = k + 1 ∧ (k1 : Int) ≤ e ∧ 0 ≤ t ∧ t ≤ 9 ∧ t = byt s k - 48 := by
  unfold digR at h
  repeat' split at h
  all_goals (cases h <;> omega)
theorem pairR_ok {s : ByteArray} {k : Nat} {e why t : Int} {k1 : Nat} (h : pairR s k e why = .ok t k1) : k1 = k + 2 ∧ (k1 : Int) ≤ e ∧ 0 ≤ t ∧ t ≤ 99 ∧ t = 10 * (byt s k - 48) + (byt s (k + 1) - 48) ∧ 48 ≤ byt s k ∧ byt s k ≤ 57 ∧ 48 ≤ byt s (k + 1) ∧ byt s (k + 1) ≤ 57 := by
  unfold pairR at h
  cases h1 : digR s k e why with
  | bad y a => rw [h1] at h; exact absurd h (by simp)
  | ok t1 k1 =>
    rw [h1] at h
    simp only at h
    cases h2 : digR s k1 e why with
    | bad y a => rw [h2] at h; exact absurd h (by simp)
    | ok u k2 =>
      rw [h2] at h
      have a1 := digR_ok h1
      have a2 := digR_ok h2
      obtain ⟨rfl, _⟩ := a1
      injection h with h3 h4
      omega
set_option maxRecDepth 100000 in
theorem pair_any {w : World} {g k : Nat} {s : ByteArray} {e d b : Int} (h : Rd w g s (k : Int) e d b) (hk : (k : Int) ≤ e) (h3 : e ≤ 1048576) (hs : e ≤ (s.size : Int)) (why : Int) :
    Calls Try.prog 97 #[.pointer (some ⟨g, 0, none⟩), .int .i64 why] w (Post w g s e d b (pairR s k e why)) := by
  obtain ⟨R0, HR⟩ : ∃ R0, Hid (pairR s k e why = R0) := ⟨_, rfl⟩
  rw [HR.out]
  go_enter Try.func97, Try.ntmps97
  go_wp2_with fail
  refine (digit_any h hk h3 hs why).mono ?_
  intro en x hx
  cases h1 : digR s k e why with
  | bad y a =>
    rw [h1] at hx
    obtain ⟨rfl, hg⟩ := hx
    refine ⟨rfl, ?_⟩
    rw [show R0 = .bad y a by rw [← HR.out]; unfold pairR; rw [h1]]
    exact ⟨rfl, hg⟩
  | ok t k1 =>
    rw [h1] at hx
    obtain ⟨rfl, hl⟩ := hx
    have H1 : Hid (digR s k e why = .ok t k1) := h1
    have t0 := (digR_ok h1).2.2.1
    have t9 := (digR_ok h1).2.2.2.1
    have HE : Hid ((k1 : Int) ≤ e) := (digR_ok h1).2.1
    clear h1
    go_wp2_with fail
    refine (digit_any hl.1 HE.out h3 hs why).mono ?_
    intro en y hy
    cases h2 : digR s k1 e why with
    | bad yy a =>
      rw [h2] at hy
      obtain ⟨rfl, hg⟩ := hy
      refine ⟨rfl, ?_⟩
      rw [show R0 = .bad yy a by rw [← HR.out]; unfold pairR; rw [H1.out]; simp only; rw [h2]]
      exact ⟨rfl, gr_trans hl.2 hg⟩
    | ok u k2 =>
      rw [h2] at hy
      obtain ⟨rfl, hl2⟩ := hy
      have HQ : Hid (R0 = .ok (10 * t + u) k2) := by show _ = _; rw [← HR.out]; unfold pairR; rw [H1.out]; simp only; rw [h2]
      have u0 := (digR_ok h2).2.2.1
      have u9 := (digR_ok h2).2.2.2.1
      replace hl2 := hl.then hl2
      clear h2 H1 HR HE
      go_wp2_with fail
      go_ret
      rw [HQ.out]
      exact ⟨rfl, hl2⟩
/-- how many bytes stand ahead of the first one that can't be seen -/
def seenL (l : List UInt8) : Nat := Lib0.fuL (fun c => decide (32 ≤ c.toNat ∧ c.toNat ≤ 126)) l
end Go.Proofs.Ytgidjfhlooggkaa.Gl
