/- Plain: how an amount is written, and read. -/
import Derived.Test.YtgojcebdlafbeaaDoorNp
import Derived.Test.YtgojcebdlafbeaaDoorMp
import Derived.Lib.ItoaNum
import Derived.Lib.AtoiTie
import Derived.Lib.Replace
import Derived.Lib.Repeat
import Derived.Lib.CountLaws
namespace Go.Proofs.YtgojcebdlafbeaaDoor.Sw
set_option linter.unusedVariables false
open Cp Np Mp
open Go.Lib (nDigits decDigits)
theorem divk (a b k : Nat) : (a * 10 ^ k + b) / 10 ^ k = a + b / 10 ^ k := by
  have hp : 0 < 10 ^ k := Nat.pow_pos (by decide)
  rw [Nat.add_comm (a * 10 ^ k), Nat.add_mul_div_right _ _ hp, Nat.add_comm]
theorem dz_mod (k a b : Nat) : dz k (a * 10 ^ k + b) = dz k b := by
  induction k generalizing a with
  | zero => rfl
  | succ k ih =>
    rw [dz, dz]
    have e1 : a * 10 ^ (k + 1) + b = (a * 10) * 10 ^ k + b := by rw [Nat.pow_succ, Nat.mul_comm (10 ^ k), ← Nat.mul_assoc]
    rw [e1, ih]
    congr 2
    rw [divk]
    omega
theorem dz_of : ∀ l : List UInt8, ad l = true → dz l.length (num l) = l
  | [], _ => rfl
  | c :: l, h => by
    simp only [ad, List.all_cons, Bool.and_eq_true] at h
    have hc := (dg_iff c).1 h.1
    have hl : ad l = true := h.2
    have hn := num_lt l hl
    rw [List.length_cons, dz, num_cons, dz_mod, dz_of l hl, divk, Nat.div_eq_of_lt hn, Nat.add_zero, Nat.mod_eq_of_lt (by omega)]
    congr 1
    apply UInt8.toNat_inj.1
    rw [dig_nat _ (by omega)]; omega
theorem dec_ad (n : Nat) : ad (decDigits n) = true ∧ num (decDigits n) = n := by
  induction n using Nat.strongRecOn with
  | ind n ih =>
    rw [decDigits]
    split
    · rename_i h
      have hd : dg (UInt8.ofNat (48 + n)) = true := by rw [dg_iff, dig_nat _ h]; omega
      refine ⟨by simp only [ad, List.all_cons, List.all_nil, hd, Bool.and_true], ?_⟩
      rw [num_cons, dig_nat _ h]; simp [num]
    · rename_i h
      obtain ⟨h1, h2⟩ := ih (n / 10) (by omega)
      have hd : dg (UInt8.ofNat (48 + n % 10)) = true := by rw [dg_iff, dig_nat _ (by omega)]; omega
      refine ⟨?_, ?_⟩
      · simp only [ad, List.all_append, List.all_cons, List.all_nil, hd, Bool.and_true] at *
        exact h1
      · rw [num_snoc, h2, dig_nat _ (by omega)]; omega
/-- at least k digits -/
def pd (n k : Nat) : List UInt8 := dz (max k (nDigits n)) n
theorem pd_length (n k : Nat) : (pd n k).length = max k (nDigits n) := dz_length _ _
theorem pd_ad (n k : Nat) : ad (pd n k) = true := dz_dg _ _
theorem pd_num (n k : Nat) : num (pd n k) = n := by
  rw [pd, dz_num]
  refine Nat.mod_eq_of_lt (Nat.lt_of_lt_of_le (Lib.lt_pow_nDigits n) (Nat.pow_le_pow_right (by decide) (by omega)))
theorem pd_of (l : List UInt8) (n k : Nat) (h1 : ad l = true) (h2 : num l = n) (h3 : l.length = max k (nDigits n)) : l = pd n k := by
  rw [pd, ← h3, ← h2]; exact (dz_of l h1).symm
theorem zeros_num (c : Nat) (l : List UInt8) : num (List.replicate c 48 ++ l) = num l := by
  induction c with
  | zero => simp
  | succ c ih =>
    rw [List.replicate_succ, List.cons_append, num_cons, ih]; simp
theorem zeros_ad (c : Nat) : ad (List.replicate c 48) = true := by
  simp only [ad, List.all_eq_true]
  intro x hx
  rw [(List.mem_replicate.1 hx).2]; decide
theorem pad_pd (n k : Nat) : List.replicate (k - nDigits n) 48 ++ decDigits n = pd n k := by
  refine pd_of _ n k ?_ ?_ ?_
  · have := zeros_ad (k - nDigits n)
    have h2 := (dec_ad n).1
    simp only [ad, List.all_append, Bool.and_eq_true] at *
    exact ⟨this, h2⟩
  · rw [zeros_num]; exact (dec_ad n).2
  · rw [List.length_append, List.length_replicate, Lib.decDigits_length]; omega
theorem dec_pd (n : Nat) : decDigits n = pd n 1 := by
  have := pad_pd n 1
  have h := Lib.nDigits_pos n
  rwa [show 1 - nDigits n = 0 by omega, List.replicate_zero, List.nil_append] at this
theorem nd_le (n i : Nat) (hi : 1 ≤ i) (h : n < 10 ^ i) : nDigits n ≤ i := by
  induction i generalizing n with
  | zero => omega
  | succ i ih =>
    by_cases hn : n < 10
    · rw [Lib.nDigits_small hn]; exact hi
    · rw [Lib.nDigits_big hn]
      have h0 : i ≠ 0 := fun e => by subst e; simp at h; omega
      have := ih (n / 10) (by omega) (by rw [Nat.pow_succ] at h; omega)
      omega
theorem nd_pos {n i : Nat} (h : 0 < n / 10 ^ i) : i < nDigits n := by
  rcases Nat.lt_or_ge i (nDigits n) with hl | hg
  · exact hl
  · have := Nat.lt_of_lt_of_le (Lib.lt_pow_nDigits n) (Nat.pow_le_pow_right (n := 10) (by decide) hg)
    rw [Nat.div_eq_of_lt this] at h; omega
theorem nd_13 (n : Nat) (h : n ≤ 999999999999) : nDigits n ≤ 12 := nd_le n 12 (by decide) (by omega)
def showL (n p : Nat) : List UInt8 := if p = 0 then pd n 1 else (pd n (p + 1)).take ((pd n (p + 1)).length - p) ++ 46 :: (pd n (p + 1)).drop ((pd n (p + 1)).length - p)
theorem showL_length (n p : Nat) (hn : n ≤ 999999999999) (hp : p ≤ 3) : (showL n p).length ≤ 13 := by
  have := nd_13 n hn
  unfold showL
  split
  · rw [pd_length]; omega
  · rw [List.length_append, List.length_cons, List.length_take, List.length_drop, pd_length]; omega
/-! reading -/
def dn (l : List UInt8) : Nat := l.foldl (fun n c => if dg c then n * 10 + (c.toNat - 48) else n) 0
theorem dn_snoc (l : List UInt8) (c : UInt8) : dn (l ++ [c]) = if dg c then dn l * 10 + (c.toNat - 48) else dn l := by simp [dn]
theorem dn_up : ∀ (r : List UInt8) (a : Nat), a ≤ r.foldl (fun n c => if dg c then n * 10 + (c.toNat - 48) else n) a
  | [], a => Nat.le_refl _
  | c :: r, a => by
    rw [List.foldl_cons]
    refine Nat.le_trans ?_ (dn_up r _)
    split <;> omega
theorem dn_le (l r : List UInt8) : dn l ≤ dn (l ++ r) := by
  rw [dn, dn, List.foldl_append]; exact dn_up r _
theorem dn_from (l : List UInt8) (h : ad l = true) (a : Nat) : l.foldl (fun n c => if dg c then n * 10 + (c.toNat - 48) else n) a = l.foldl (fun n c => n * 10 + (c.toNat - 48)) a := by
  induction l generalizing a with
  | nil => rfl
  | cons c l ih =>
    simp only [ad, List.all_cons, Bool.and_eq_true] at h
    rw [List.foldl_cons, List.foldl_cons, if_pos h.1]
    exact ih h.2 _
theorem dn_show (n p : Nat) : dn (showL n p) = n := by
  unfold showL
  split
  · rw [dn, dn_from _ (pd_ad n 1)]; exact pd_num n 1
  · have hp : ad ((pd n (p + 1)).take ((pd n (p + 1)).length - p)) = true := List.all_eq_true.2 fun x hx => List.all_eq_true.1 (pd_ad n (p + 1)) x (List.mem_of_mem_take hx)
    have hd : ad ((pd n (p + 1)).drop ((pd n (p + 1)).length - p)) = true := List.all_eq_true.2 fun x hx => List.all_eq_true.1 (pd_ad n (p + 1)) x (List.mem_of_mem_drop hx)
    have e : num ((pd n (p + 1)).take ((pd n (p + 1)).length - p) ++ (pd n (p + 1)).drop ((pd n (p + 1)).length - p)) = n := by rw [List.take_append_drop]; exact pd_num n (p + 1)
    rw [num, List.foldl_append] at e
    rw [dn, List.foldl_append, List.foldl_cons, if_neg (by decide), dn_from _ hp, dn_from _ hd]
    exact e
theorem no46 {l : List UInt8} (h : ad l = true) : ∀ x ∈ l, x ≠ 46 := fun x hx e => by
  have := (dg_iff x).1 (List.all_eq_true.1 h x hx)
  rw [e] at this; simp at this
theorem index_none : ∀ l : List UInt8, (∀ x ∈ l, x ≠ 46) → Lib.index l [46] = -1
  | [], _ => rfl
  | c :: l, h => by
    have hc : ¬ (46 : UInt8) = c := fun e => h c (by simp) e.symm
    rw [Lib.index, index_none l (fun x hx => h x (by simp [hx]))]
    simp [hc]
theorem index_some : ∀ (l r : List UInt8), (∀ x ∈ l, x ≠ 46) → Lib.index (l ++ 46 :: r) [46] = l.length
  | [], r, _ => by simp [Lib.index]
  | c :: l, r, h => by
    have hc : ¬ (46 : UInt8) = c := fun e => h c (by simp) e.symm
    rw [List.cons_append, Lib.index, index_some l r (fun x hx => h x (by simp [hx]))]
    have h2 : ¬ ((l.length : Int) == -1) = true := by simp
    rw [if_neg h2, if_neg (by simp [hc])]
    simp
theorem replK_none (l : List UInt8) (h : ∀ x ∈ l, x ≠ 46) (k : Nat) : Lib.replaceK [46] [] k l = l := by
  cases k with
  | zero => rfl
  | succ k => rw [Lib.replaceK, index_none l h]; rfl
theorem repl_none (l : List UInt8) (h : ∀ x ∈ l, x ≠ 46) (n : Int) : Lib.replace l [46] [] n = l := by
  rw [Lib.replace, if_neg (by decide)]; exact replK_none l h _
theorem repl_some (l r : List UInt8) (h : ∀ x ∈ l, x ≠ 46) (h2 : ∀ x ∈ r, x ≠ 46) : Lib.replace (l ++ 46 :: r) [46] [] 1 = l ++ r := by
  rw [Lib.replace, if_neg (by decide)]
  have hi := index_some l r h
  have key : ∀ k, Lib.replaceK [46] [] (k + 1) (l ++ 46 :: r) = l ++ r := fun k => by
    rw [Lib.replaceK_hit [46] [] k _ l.length hi, List.take_left', List.append_nil]
    · have e : List.drop (l.length + [(46 : UInt8)].length) (l ++ 46 :: r) = r := by
        rw [List.drop_append]
        simp
      rw [e, replK_none r h2]
    · rfl
  have hc : Lib.replaceNum (l ++ 46 :: r) [46] 1 ≠ 0 := by
    intro e
    unfold Lib.replaceNum at e
    split at e
    · rename_i hh
      rw [Lib.count_hit (by simp) hi] at e
      omega
    · simp at e
  obtain ⟨k, hk⟩ : ∃ k, Lib.replaceNum (l ++ 46 :: r) [46] 1 = k + 1 := ⟨Lib.replaceNum (l ++ 46 :: r) [46] 1 - 1, by omega⟩
  rw [hk]; exact key k
theorem repl_show (n p : Nat) : Lib.replace (showL n p) [46] [] 1 = if p = 0 then pd n 1 else pd n (p + 1) := by
  unfold showL
  split
  · exact repl_none _ (no46 (pd_ad n 1)) 1
  · have hp : ad ((pd n (p + 1)).take ((pd n (p + 1)).length - p)) = true := List.all_eq_true.2 fun x hx => List.all_eq_true.1 (pd_ad n (p + 1)) x (List.mem_of_mem_take hx)
    have hd : ad ((pd n (p + 1)).drop ((pd n (p + 1)).length - p)) = true := List.all_eq_true.2 fun x hx => List.all_eq_true.1 (pd_ad n (p + 1)) x (List.mem_of_mem_drop hx)
    rw [repl_some _ _ (no46 hp) (no46 hd), List.take_append_drop]
theorem dec_from (l : List UInt8) (h : ad l = true) (a : Nat) : Lib.decFrom a l = some (l.foldl (fun n c => n * 10 + (c.toNat - 48)) a) := by
  induction l generalizing a with
  | nil => rfl
  | cons c l ih =>
    simp only [ad, List.all_cons, Bool.and_eq_true] at h
    have hc := (dg_iff c).1 h.1
    have hv : Lib.digitVal c = some (c.toNat - 48) := by
      unfold Lib.digitVal
      simp; omega
    rw [Lib.decFrom, hv, List.foldl_cons]
    exact ih h.2 _
theorem atoi_pd (n k : Nat) (hn : n ≤ 999999999999) (hk : k ≤ 4) : Lib.atoiAll (pd n k) = .ok (n : Int) := by
  have hl := pd_length n k
  have h13 := nd_13 n hn
  have h1 := Lib.nDigits_pos n
  rw [Lib.atoiAll_short _ (by omega)]
  obtain ⟨c, l, e⟩ : ∃ c l, pd n k = c :: l := by
    cases hh : pd n k with
    | nil => rw [hh] at hl; simp at hl; omega
    | cons c l => exact ⟨c, l, rfl⟩
  have hd := pd_ad n k
  have hv := pd_num n k
  rw [e] at hd hv ⊢
  have hdc := (dg_iff c).1 (List.all_eq_true.1 hd c (by simp))
  have e1 : (c == 45) = false := by rw [beq_eq_false_iff_ne]; intro x; rw [x] at hdc; simp at hdc
  have e2 : (c == 43) = false := by rw [beq_eq_false_iff_ne]; intro x; rw [x] at hdc; simp at hdc
  rw [Lib.atoi, e1, e2]
  simp only [Bool.false_eq_true, if_false, Lib.decNat, List.isEmpty_cons]
  rw [dec_from _ hd, ← num, hv]
  rfl
/-! what Read tells -/
def rdN (t : List UInt8) (p : Nat) : Nat := if dn t ≤ 999999999999 ∧ showL (dn t) p = t then dn t else 0
def rdE (t : List UInt8) (p : Nat) : Int := if dn t ≤ 999999999999 ∧ showL (dn t) p = t then 0 else 71
theorem rd_hit (t : List UInt8) (p u : Nat) (hu : u ≤ 999999999999) (h : showL u p = t) : rdN t p = u ∧ rdE t p = 0 := by
  have e : dn t = u := by rw [← h]; exact dn_show u p
  have hc : dn t ≤ 999999999999 ∧ showL (dn t) p = t := by rw [e]; exact ⟨hu, h⟩
  exact ⟨by rw [rdN, if_pos hc, e], by rw [rdE, if_pos hc]⟩
theorem rd_miss (t : List UInt8) (p : Nat) (h : ∀ u, u ≤ 999999999999 → showL u p ≠ t) : rdN t p = 0 ∧ rdE t p = 71 := by
  have hc : ¬ (dn t ≤ 999999999999 ∧ showL (dn t) p = t) := fun x => h _ x.1 x.2
  exact ⟨by rw [rdN, if_neg hc], by rw [rdE, if_neg hc]⟩
theorem atoi_show (u p : Nat) (hu : u ≤ 999999999999) (hp : p ≤ 3) : Lib.atoiAll (Lib.replace (showL u p) [46] [] 1) = .ok (u : Int) := by
  rw [repl_show]
  split
  · exact atoi_pd u 1 hu (by decide)
  · exact atoi_pd u (p + 1) hu (by omega)
end Go.Proofs.YtgojcebdlafbeaaDoor.Sw
