/- PendingTwice, plain. -/
import Derived.Test.YtgchdjjafgkcbaaPp
namespace Go.Proofs.Ytgchdjjafgkcbaa.Pr
set_option linter.unusedVariables false
set_option linter.unusedSimpArgs false
open Go.RowKit Go.Maps Lib0 Kb Xp Za Ze Ih Fh Hh Pa Pb Pc Pe Pf Pg Px Pl Pm Pn Po Pq Pp
def rk (lk cl : Int) (nu st tr : ByteArray) (to_ no : Int) : Rq := ⟨lk, cl, nu, st, tr, 0, to_, no, ⟨#[]⟩, [], ⟨#[]⟩, []⟩
def C2 (M N : Int) : Cf := ⟨3, M, N⟩
theorem co2 {M N : Int} (hM : 1 ≤ M) (hM2 : M ≤ 40) (hN : 1 ≤ N) (hN2 : N ≤ 40) : Co (C2 M N) := ⟨by show (1 : Int) ≤ 3; decide, by show (3 : Int) ≤ 10000; decide, hM, by show M ≤ 100000; omega, hN, by show N ≤ 100000; omega⟩
def T1 (M N : Int) (g : Nat) (p : Rq) (i : Int) : St := if i < M then ⟨[(1, M, g, p)], [], i, 1, 0, 0⟩ else ⟨[], [(1, M + N, g, p)], i, 1, 1, 0⟩
def T2 (M N : Int) (g : Nat) (p : Rq) (g2 : Nat) (c : Rq) (i : Int) : St :=
  if i < M then ⟨[(2, M + M, g2, c)], (if i < N then [(1, M + N, g, p)] else []), M + i, 2, 1, 0⟩
  else ⟨[], (if i < N then [(1, M + N, g, p)] else []) ++ [(2, M + M + N, g2, c)], M + i, 2, 2, 0⟩
theorem t1_start (M N : Int) (g : Nat) (p : Rq) (hM : 1 ≤ M) : addS S0 (C2 M N) g p = T1 M N g p 0 := by
  unfold T1
  rw [if_pos (by omega)]
  simp [addS, S0, C2]
theorem t2_start (M N : Int) (g g2 : Nat) (p c : Rq) (hM : 1 ≤ M) (hN : 1 ≤ N) : addS (T1 M N g p M) (C2 M N) g2 c = T2 M N g p g2 c 0 := by
  unfold T1 T2
  rw [if_neg (by omega), if_pos (by omega), if_pos (by omega)]
  simp [addS, C2]
theorem tick_t1 (M N : Int) (g : Nat) (p : Rq) (i : Int) (h0 : 0 ≤ i) (h1 : i < M) : tickS (C2 M N) (T1 M N g p i) = T1 M N g p (i + 1) ∧ (lateL (T1 M N g p i)).length = (if i + 1 = M then 1 else 0) ∧ (tickP (C2 M N) (T1 M N g p i)).gone = [] := by
  have e : T1 M N g p i = ⟨[(1, M, g, p)], [], i, 1, 0, 0⟩ := by unfold T1; rw [if_pos h1]
  rw [e]
  by_cases h2 : i + 1 = M
  · have hd : (M == i + 1) = true := by simp [h2]
    have h3 : ¬ i + 1 < M := by omega
    simp only [tickS, tickP, lateL, dueX, List.filter, hd, T1, if_neg h3, if_pos h2, List.foldl, push, C2, List.map]
    refine ⟨?_, rfl, rfl⟩
    simp
    omega
  · have hd : (M == i + 1) = false := by simpa using fun e : M = i + 1 => h2 e.symm
    have h3 : i + 1 < M := by omega
    simp only [tickS, tickP, lateL, dueX, List.filter, hd, T1, if_pos h3, if_neg h2, List.foldl, List.map]
    refine ⟨rfl, ?_⟩
    simp
theorem tick_t2 (M N : Int) (g g2 : Nat) (p c : Rq) (i : Int) (hM : 1 ≤ M) (h0 : 0 ≤ i) (h1 : i < N) : tickS (C2 M N) (T2 M N g p g2 c i) = T2 M N g p g2 c (i + 1) ∧ (tickP (C2 M N) (T2 M N g p g2 c i)).gone = (if i + 1 = N then [p] else []) := by
  have b1 : (M + N == M + i + 1) = decide (i + 1 = N) := by
    by_cases e : i + 1 = N
    · have : M + N = M + i + 1 := by omega
      simp [e, this]
    · have : ¬ M + N = M + i + 1 := by omega
      simp [e, this]
  have b2 : (M + M + N == M + i + 1) = false := by
    have : ¬ M + M + N = M + i + 1 := by omega
    simpa using this
  have b3 : (M + M == M + i + 1) = decide (i + 1 = M) := by
    by_cases e : i + 1 = M
    · have : M + M = M + i + 1 := by omega
      simp [e, this]
    · have : ¬ M + M = M + i + 1 := by omega
      simp [e, this]
  have e5 : M + i + 1 = M + (i + 1) := by omega
  by_cases hm : i < M
  · have e : T2 M N g p g2 c i = ⟨[(2, M + M, g2, c)], [(1, M + N, g, p)], M + i, 2, 1, 0⟩ := by unfold T2; rw [if_pos hm, if_pos h1]
    rw [e]
    by_cases h2 : i + 1 = M <;> by_cases h3 : i + 1 = N
    · have h4 : ¬ i + 1 < M := by omega
      have h5 : ¬ i + 1 < N := by omega
      simp only [tickS, tickP, dueX, List.filter, b1, b3, decide_eq_true h2, decide_eq_true h3, T2, if_neg h4, if_neg h5, if_pos h3, List.foldl, push, C2, List.map]
      simp
      omega
    · have h4 : ¬ i + 1 < M := by omega
      have h5 : i + 1 < N := by omega
      simp only [tickS, tickP, dueX, List.filter, b1, b3, decide_eq_true h2, decide_eq_false h3, T2, if_neg h4, if_pos h5, if_neg h3, List.foldl, push, C2, List.map]
      simp
      omega
    · have h4 : i + 1 < M := by omega
      have h5 : ¬ i + 1 < N := by omega
      simp only [tickS, tickP, dueX, List.filter, b1, b3, decide_eq_false h2, decide_eq_true h3, T2, if_pos h4, if_neg h5, if_pos h3, List.foldl, push, C2, List.map]
      simp
      omega
    · have h4 : i + 1 < M := by omega
      have h5 : i + 1 < N := by omega
      simp only [tickS, tickP, dueX, List.filter, b1, b3, decide_eq_false h2, decide_eq_false h3, T2, if_pos h4, if_pos h5, if_neg h3, List.foldl, push, C2, List.map]
      simp
      omega
  · have e : T2 M N g p g2 c i = ⟨[], [(1, M + N, g, p), (2, M + M + N, g2, c)], M + i, 2, 2, 0⟩ := by unfold T2; rw [if_neg hm, if_pos h1]; rfl
    rw [e]
    have h4 : ¬ i + 1 < M := by omega
    by_cases h3 : i + 1 = N
    · have h5 : ¬ i + 1 < N := by omega
      simp only [tickS, tickP, dueX, List.filter, b1, b2, decide_eq_true h3, T2, if_neg h4, if_neg h5, if_pos h3, List.foldl, push, C2, List.map]
      simp
      omega
    · have h5 : i + 1 < N := by omega
      simp only [tickS, tickP, dueX, List.filter, b1, b2, decide_eq_false h3, T2, if_neg h4, if_pos h5, if_neg h3, List.foldl, push, C2, List.map]
      simp
      omega
end Go.Proofs.Ytgchdjjafgkcbaa.Pr
