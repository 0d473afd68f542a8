/- SafOnce, plain. -/
import Derived.Test.YtmpcgmpobmnmmaaSm
namespace Go.Proofs.Ytmpcgmpobmnmmaa.On
set_option linter.unusedVariables false
set_option linter.unusedSimpArgs false
open Go.RowKit Go.Maps Lib0 Kb Xp Za Zc Zd Ze Sa Sb Sc Sd Se Sf Sg Sh Si Sj Sk Sm
def rr : ByteArray := ⟨#[114]⟩
def adv (n : Nat) : Av := ⟨0, (n : Int), ks n, [], ks n ++ rr, []⟩
def lof : Nat → Nat → List Av
  | _, 0 => []
  | f, k + 1 => adv f :: lof (f + 1) k
theorem lof_len : ∀ f k, (lof f k).length = k
  | _, 0 => rfl
  | f, k + 1 => by rw [lof, List.length_cons, lof_len]
theorem lof_at : ∀ (f k i : Nat) (h : i < k), (lof f k)[i]? = some (adv (f + i))
  | f, 0, i, h => by omega
  | f, k + 1, 0, h => rfl
  | f, k + 1, i + 1, h => by
    rw [lof, List.getElem?_cons_succ, lof_at (f + 1) k i (by omega)]
    congr 2
    omega
theorem lof_add : ∀ (f k : Nat), lof f k ++ [adv (f + k)] = lof f (k + 1)
  | f, 0 => rfl
  | f, k + 1 => by
    rw [lof, List.cons_append, show f + (k + 1) = f + 1 + k by omega, lof_add (f + 1) k]
    rfl
theorem lof_mem {f k : Nat} {a : Av} (h : a ∈ lof f k) : ∃ i, i < k ∧ a = adv (f + i) := by
  obtain ⟨i, hi, rfl⟩ := List.getElem_of_mem h
  rw [lof_len] at hi
  refine ⟨i, hi, ?_⟩
  have := lof_at f k i hi
  rw [List.getElem?_eq_getElem (by rw [lof_len]; exact hi)] at this
  injection this
theorem lof_has {f k n : Nat} (h : f + k ≤ n) : hasB (lof f k) (n : Int) = false := by
  refine List.any_eq_false.2 fun a ha => ?_
  obtain ⟨i, hi, rfl⟩ := lof_mem ha
  show ¬ (((f + i : Nat) : Int) == (n : Int)) = true
  simp
  omega
def Oz (m r t : Int) (F k : Nat) (s : Int) (way : Bool) (ticks : Int) (gone : List Int) (d : Int) : St := ⟨m, r, t, lof F k, s, way, ticks, gone, d⟩
/-- what holds between the acts: put P, the first F, k wait, sent s -/
structure Oi (m r t : Int) (i P F k : Nat) (s : Int) (way : Bool) (ticks : Int) (D d : Int) : Prop where
  m0 : 1 ≤ m
  m1 : m ≤ 40
  r0 : 1 ≤ r
  r1 : r ≤ 20
  t0 : 1 ≤ t
  t1 : t ≤ 6
  f0 : 1 ≤ F
  pk : F + k = P + 1
  km : (k : Int) ≤ m
  s0 : 0 ≤ s
  s1 : s ≤ t
  k0 : 0 ≤ ticks
  k1 : ticks ≤ r
  wk : way = true → 0 < k ∧ 0 < s
  pi : P ≤ i
  i4 : i ≤ 400
  d0 : 0 ≤ D
  d1 : 0 ≤ d
  dd : D + d + 1 = F
theorem fo_adv {n : Nat} (h : n ≤ 1000) : (adv n).m1.size ≤ 1000000 ∧ (adv n).m2.size ≤ 1000000 ∧ Fo (adv n).L1 ∧ Fo (adv n).L2 ∧ I64 (adv n).no := by
  have h1 := ks_size n
  refine ⟨by show (ks n).size ≤ 1000000; omega, ?_, ⟨by simp [adv], (fun x hx => by cases hx), (fun x hx => by cases hx)⟩, ⟨by simp [adv], (fun x hx => by cases hx), (fun x hx => by cases hx)⟩, ⟨by show -9223372036854775808 ≤ (n : Int); omega, by show (n : Int) ≤ 9223372036854775807; omega⟩⟩
  show (ks n ++ rr).size ≤ 1000000
  rw [ByteArray.size_append]
  have : rr.size = 1 := rfl
  omega
theorem Oi.ok {m r t : Int} {i P F k : Nat} {s : Int} {way : Bool} {ticks D d : Int} (h : Oi m r t i P F k s way ticks D d) {gone : List Int} (hg : gone.length ≤ 10) : Ok (Oz m r t F k s way ticks gone d) := by
  obtain ⟨m0, m1, r0, r1, t0, t1, f0, pk, km, s0, s1, k0, k1, wk, pi, i4, d0, d1, dd⟩ := h
  refine ⟨m0, by show m ≤ 10000; omega, r0, by show r ≤ 100000; omega, t0, by show t ≤ 100; omega, s0, s1, k0, k1, d1, by show d ≤ 10000; omega, ?_, ?_, ?_, by show gone.length ≤ 1000000; omega⟩
  · show ((lof F k).length : Int) ≤ m
    rw [lof_len]; exact km
  · intro e h
    have h2 : (lof F k).length = 0 := by rw [show lof F k = [] from h]; rfl
    rw [lof_len] at h2
    have := (wk e).1
    omega
  · intro a ha
    obtain ⟨j, hj, rfl⟩ := lof_mem ha
    exact fo_adv (by omega)
def mO (F : Nat) (s : Int) : ByteArray := if s = 0 then ks F else ks F ++ rr
section
variable {m r t : Int} {i P F k : Nat} {s : Int} {way : Bool} {ticks D d : Int}
theorem Oi.next (h : Oi m r t i P F k s way ticks D d) (hi : i + 1 ≤ 400) :
    (nx (Oz m r t F k s way ticks [] d) = (Oz m r t F k s way ticks [] d, none) ∧ Oi m r t (i + 1) P F k s way ticks D d) ∨
    (0 < k ∧ s < t ∧ nx (Oz m r t F k s way ticks [] d) = (Oz m r t F k (s + 1) true 0 [] d, some (mO F s, [])) ∧ Oi m r t (i + 1) P F k (s + 1) true 0 D d) ∨
    (k = 1 ∧ s = t ∧ nx (Oz m r t F k s way ticks [] d) = (Oz m r t (F + 1) 0 0 false 0 [(F : Int)] (d + 1), none) ∧ Oi m r t (i + 1) P (F + 1) 0 0 false 0 D (d + 1)) ∨
    (∃ j, k = j + 2 ∧ s = t ∧ nx (Oz m r t F k s way ticks [] d) = (Oz m r t (F + 1) (j + 1) 1 true 0 [(F : Int)] (d + 1), some (ks (F + 1), [])) ∧ Oi m r t (i + 1) P (F + 1) (j + 1) 1 true 0 D (d + 1)) := by
  obtain ⟨m0, m1, r0, r1, t0, t1, f0, pk, km, s0, s1, k0, k1, wk, pi, i4, d0, d1, dd⟩ := h
  have ddead : (if d < 10000 then d + 1 else d) = d + 1 := if_pos (by omega)
  cases k with
  | zero => exact .inl ⟨nxF_nil rfl, m0, m1, r0, r1, t0, t1, f0, pk, km, s0, s1, k0, k1, wk, by omega, hi, d0, d1, dd⟩
  | succ k =>
    have hN : (Oz m r t F (k + 1) s way ticks [] d).L.length = k + 1 := lof_len F (k + 1)
    have hC := nxF_cons (n := k + 1) (S := Oz m r t F (k + 1) s way ticks [] d) (a := adv F) (L := lof (F + 1) k) rfl
    have hE : nx (Oz m r t F (k + 1) s way ticks [] d) = nxF (k + 1 + 1) (Oz m r t F (k + 1) s way ticks [] d) := by unfold nx; rw [hN]
    rw [hE, hC]
    by_cases hw : way = true ∧ ticks < r
    · rw [if_pos (show (Oz m r t F (k + 1) s way ticks [] d).way = true ∧ (Oz m r t F (k + 1) s way ticks [] d).ticks < (Oz m r t F (k + 1) s way ticks [] d).retry from hw)]
      exact .inl ⟨rfl, m0, m1, r0, r1, t0, t1, f0, pk, km, s0, s1, k0, k1, wk, by omega, hi, d0, d1, dd⟩
    · rw [if_neg (show ¬ ((Oz m r t F (k + 1) s way ticks [] d).way = true ∧ (Oz m r t F (k + 1) s way ticks [] d).ticks < (Oz m r t F (k + 1) s way ticks [] d).retry) from hw)]
      by_cases hs : s < t
      · rw [if_pos (show (Oz m r t F (k + 1) s way ticks [] d).sent < (Oz m r t F (k + 1) s way ticks [] d).tries from hs)]
        refine .inr (.inl ⟨by omega, hs, ?_, m0, m1, r0, r1, t0, t1, f0, pk, km, by omega, by omega, by omega, by omega, fun _ => ⟨by omega, by omega⟩, by omega, hi, d0, d1, dd⟩)
        have e2 : lOf (Oz m r t F (k + 1) s way ticks [] d) (adv F) = [] := by unfold lOf; split <;> rfl
        rw [e2]; rfl
      · rw [if_neg (show ¬ (Oz m r t F (k + 1) s way ticks [] d).sent < (Oz m r t F (k + 1) s way ticks [] d).tries from hs)]
        have hG : giveS (Oz m r t F (k + 1) s way ticks [] d) (adv F) = Oz m r t (F + 1) k 0 false 0 [(F : Int)] (d + 1) := by
          show (⟨m, r, t, lof (F + 1) k, 0, false, 0, [(F : Int)], (if d < 10000 then d + 1 else d)⟩ : St) = _
          rw [ddead]; rfl
        rw [hG]
        cases k with
        | zero =>
          exact .inr (.inr (.inl ⟨rfl, by omega, nxF_nil rfl, m0, m1, r0, r1, t0, t1, by omega, by omega, by omega, by omega, by omega, by omega, by omega, (fun e => by cases e), by omega, hi, d0, by omega, by omega⟩))
        | succ j =>
          refine .inr (.inr (.inr ⟨j, rfl, by omega, ?_, m0, m1, r0, r1, t0, t1, by omega, by omega, by omega, by omega, by omega, by omega, by omega, fun _ => ⟨by omega, by omega⟩, by omega, hi, d0, by omega, by omega⟩))
          rw [nxF_cons (S := Oz m r t (F + 1) (j + 1) 0 false 0 [(F : Int)] (d + 1)) (a := adv (F + 1)) (L := lof (F + 1 + 1) j) rfl, if_neg (fun h => by cases h.1), if_pos (show (Oz m r t (F + 1) (j + 1) 0 false 0 [(F : Int)] (d + 1)).sent < (Oz m r t (F + 1) (j + 1) 0 false 0 [(F : Int)] (d + 1)).tries from (by show (0 : Int) < t; omega))]
          rfl
theorem Oi.put (h : Oi m r t i P F k s way ticks D d) (hi : i + 1 ≤ 400) (hk : ¬ (k : Int) = m) : Oi m r t (i + 1) (P + 1) F (k + 1) s way ticks D d := by
  obtain ⟨m0, m1, r0, r1, t0, t1, f0, pk, km, s0, s1, k0, k1, wk, pi, i4, d0, d1, dd⟩ := h
  exact ⟨m0, m1, r0, r1, t0, t1, f0, by omega, by omega, s0, s1, k0, k1, fun e => ⟨by omega, (wk e).2⟩, by omega, hi, d0, d1, dd⟩
theorem Oi.same (h : Oi m r t i P F k s way ticks D d) (hi : i + 1 ≤ 400) : Oi m r t (i + 1) P F k s way ticks D d := by
  obtain ⟨m0, m1, r0, r1, t0, t1, f0, pk, km, s0, s1, k0, k1, wk, pi, i4, d0, d1, dd⟩ := h
  exact ⟨m0, m1, r0, r1, t0, t1, f0, pk, km, s0, s1, k0, k1, wk, by omega, hi, d0, d1, dd⟩
theorem Oi.tick (h : Oi m r t i P F k s way ticks D d) : Oi m r t i P F k s way (if ticks < r then ticks + 1 else ticks) D d := by
  obtain ⟨m0, m1, r0, r1, t0, t1, f0, pk, km, s0, s1, k0, k1, wk, pi, i4, d0, d1, dd⟩ := h
  refine ⟨m0, m1, r0, r1, t0, t1, f0, pk, km, s0, s1, ?_, ?_, wk, pi, i4, d0, d1, dd⟩ <;> split <;> omega
theorem Oi.brk (h : Oi m r t i P F k s way ticks D d) : Oi m r t i P F k s false ticks D d := by
  obtain ⟨m0, m1, r0, r1, t0, t1, f0, pk, km, s0, s1, k0, k1, wk, pi, i4, d0, d1, dd⟩ := h
  exact ⟨m0, m1, r0, r1, t0, t1, f0, pk, km, s0, s1, k0, k1, (fun e => by cases e), pi, i4, d0, d1, dd⟩
theorem Oi.ans {j : Nat} (h : Oi m r t i P F (j + 1) s way ticks D d) (hi : i + 1 ≤ 400) : Oi m r t (i + 1) P (F + 1) j 0 false 0 (D + 1) d := by
  obtain ⟨m0, m1, r0, r1, t0, t1, f0, pk, km, s0, s1, k0, k1, wk, pi, i4, d0, d1, dd⟩ := h
  exact ⟨m0, m1, r0, r1, t0, t1, by omega, by omega, by omega, by omega, by omega, by omega, by omega, (fun e => by cases e), by omega, hi, by omega, d1, by omega⟩
end
end Go.Proofs.Ytmpcgmpobmnmmaa.On
