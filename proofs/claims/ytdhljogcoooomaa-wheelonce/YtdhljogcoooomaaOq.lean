/- WheelOnce, plain: those that wait, by what is due and done. -/
import Derived.Test.YtdhljogcoooomaaXp
namespace Go.Proofs.Ytdhljogcoooomaa.Oq
set_option linter.unusedVariables false
set_option linter.unusedSimpArgs false
open Go.RowKit Xp
def el (due : List Int) (th : Nat → Value) (k : Nat) : XT := ((k : Int) + 1, due.getD k 0, th k)
def Lof (due : List Int) (dn : List Bool) (th : Nat → Value) : LT := ((List.range due.length).filter fun k => !(dn.getD k true)).map (el due th)
theorem lof_mem {due : List Int} {dn : List Bool} {th : Nat → Value} {x : XT} : x ∈ Lof due dn th ↔ ∃ k, k < due.length ∧ dn.getD k true = false ∧ x = el due th k := by
  simp only [Lof, List.mem_map, List.mem_filter, List.mem_range]
  constructor
  · rintro ⟨k, ⟨h1, h2⟩, rfl⟩
    exact ⟨k, h1, by simpa using h2, rfl⟩
  · rintro ⟨k, h1, h2, rfl⟩
    exact ⟨k, ⟨h1, by simp only [h2]; rfl⟩, rfl⟩
theorem lof_inc (due : List Int) (dn : List Bool) (th : Nat → Value) : Inc (Lof due dn th) := by
  rw [Inc, Lof, List.pairwise_map]
  refine List.Pairwise.filter _ ?_
  refine List.Pairwise.imp ?_ List.pairwise_lt_range
  intro a b h
  show (a : Int) + 1 < (b : Int) + 1
  omega
theorem lof_lk {due : List Int} {dn : List Bool} {th : Nat → Value} {k : Nat} (h : k < due.length) : lkG (Lof due dn th) ((k : Int) + 1) = if dn.getD k true = true then none else some (el due th k) := by
  cases e : dn.getD k true with
  | true =>
    rw [if_pos rfl, lkG_none]
    intro x hx
    obtain ⟨j, hj, hd, rfl⟩ := lof_mem.1 hx
    intro e2
    have : j = k := by
      have : (j : Int) + 1 = (k : Int) + 1 := e2
      omega
    subst this
    rw [hd] at e; cases e
  | false =>
    rw [if_neg (by simp)]
    exact lkG_of_mem (lof_inc due dn th) (x := el due th k) (lof_mem.2 ⟨k, h, e, rfl⟩)
theorem getD_snoc {α : Type} (l : List α) (x d : α) (k : Nat) : (l ++ [x]).getD k d = if k = l.length then x else l.getD k d := by
  simp only [List.getD_eq_getElem?_getD]
  by_cases h : k < l.length
  · rw [List.getElem?_append_left h, if_neg (by omega)]
  · by_cases e : k = l.length
    · subst e; simp
    · rw [if_neg e, List.getElem?_append_right (by omega), List.getElem?_eq_none (by simp; omega), List.getElem?_eq_none (by omega)]
theorem lof_add {due : List Int} {dn : List Bool} {th th' : Nat → Value} {d : Int} (hl : dn.length = due.length) (hth : ∀ k, k < due.length → th' k = th k) : Lof (due ++ [d]) (dn ++ [false]) th' = Lof due dn th ++ [((due.length : Int) + 1, d, th' due.length)] := by
  rw [Lof, List.length_append, List.length_singleton, List.range_succ, List.filter_append, List.map_append]
  congr 1
  · rw [Lof]
    have e1 : (List.range due.length).filter (fun k => !((dn ++ [false]).getD k true)) = (List.range due.length).filter (fun k => !(dn.getD k true)) := by
      apply List.filter_congr
      intro k hk
      rw [List.mem_range] at hk
      rw [getD_snoc, if_neg (by omega)]
    rw [e1]
    apply List.map_congr_left
    intro k hk
    have hk2 := List.mem_range.1 (List.mem_filter.1 hk).1
    simp only [el]
    rw [getD_snoc, if_neg (by omega), hth k hk2]
  · have e2 : (dn ++ [false]).getD due.length true = false := by rw [getD_snoc, if_pos hl.symm]
    simp only [List.filter_cons, e2, List.filter_nil]
    simp [el]
theorem lof_less {due : List Int} {dn dn' : List Bool} {th : Nat → Value} {q : XT → Bool} (h : ∀ k, k < due.length → dn'.getD k true = (dn.getD k true || q (el due th k))) : (Lof due dn th).filter (fun x => !q x) = Lof due dn' th := by
  rw [Lof, Lof, List.filter_map, List.filter_filter]
  congr 1
  apply List.filter_congr
  intro k hk
  rw [h k (List.mem_range.1 hk)]
  cases dn.getD k true <;> simp
/-- whose tick it is, in order -/
def outQ (due : List Int) (dn : List Bool) (t : Int) : List Nat := (List.range due.length).filter fun k => !(dn.getD k true) && due.getD k 0 == t
theorem lof_out (due : List Int) (dn : List Bool) (th : Nat → Value) (t : Int) : (Lof due dn th).filter (fun x => x.2.1 == t) = (outQ due dn t).map (el due th) := by
  rw [Lof, List.filter_map, List.filter_filter, outQ]
  congr 1
  apply List.filter_congr
  intro k hk
  rw [Bool.and_comm]
  rfl
theorem outQ_inc (due : List Int) (dn : List Bool) (t : Int) : (outQ due dn t).Pairwise (· < ·) := List.Pairwise.filter _ List.pairwise_lt_range
theorem outQ_mem {due : List Int} {dn : List Bool} {t : Int} {k : Nat} : k ∈ outQ due dn t ↔ k < due.length ∧ dn.getD k true = false ∧ due.getD k 0 = t := by
  simp [outQ, List.mem_filter]
/-- how many of the first i wait -/
def cntW (dn : List Bool) (i : Nat) : Nat := ((List.range i).filter fun k => !(dn.getD k true)).length
theorem cntW_zero (dn : List Bool) : cntW dn 0 = 0 := rfl
theorem cntW_succ (dn : List Bool) (i : Nat) : cntW dn (i + 1) = cntW dn i + if dn.getD i true = true then 0 else 1 := by
  rw [cntW, List.range_succ, List.filter_append, List.length_append, ← cntW]
  cases e : dn.getD i true with
  | false => rw [List.filter_cons, e]; rfl
  | true => rw [List.filter_cons, e]; rfl
theorem cntW_le (dn : List Bool) (i : Nat) : cntW dn i ≤ i := by
  have := List.length_filter_le (fun k => !(dn.getD k true)) (List.range i)
  rw [List.length_range] at this
  exact this
theorem lof_len (due : List Int) (dn : List Bool) (th : Nat → Value) : (Lof due dn th).length = cntW dn due.length := by rw [Lof, List.length_map, cntW]
theorem getD_set {dn : List Bool} {c k : Nat} (h : c < dn.length) : (dn.set c true).getD k true = (dn.getD k true || k == c) := by
  simp only [List.getD_eq_getElem?_getD, List.getElem?_set]
  by_cases e : c = k
  · subst e; simp [h]
  · have : (k == c) = false := by simp; omega
    rw [if_neg e, this, Bool.or_false]
/-- done behind m of those whose tick it is -/
structure Dm (dn : List Bool) (Q : List Nat) (m : Nat) (dm : List Bool) : Prop where
  len : dm.length = dn.length
  at_ : ∀ k, dm.getD k true = (dn.getD k true || (Q.take m).contains k)
theorem Dm.start (dn : List Bool) (Q : List Nat) : Dm dn Q 0 dn := ⟨rfl, fun k => by simp⟩
theorem Dm.next {dn : List Bool} {Q : List Nat} {m : Nat} {dm : List Bool} (h : Dm dn Q m dm) (hm : m < Q.length) (hq : Q[m] < dn.length) : Dm dn Q (m + 1) (dm.set Q[m] true) := by
  refine ⟨by rw [List.length_set, h.len], fun k => ?_⟩
  rw [getD_set (by rw [h.len]; exact hq), h.at_, List.take_succ_eq_append_getElem hm]
  simp only [List.contains_eq_mem, List.mem_append, List.mem_singleton, Bool.or_assoc, Bool.decide_or]
  rfl
theorem Dm.free {dn : List Bool} {Q : List Nat} {m : Nat} {dm : List Bool} (h : Dm dn Q m dm) (hm : m < Q.length) (hi : Q.Pairwise (· < ·)) (hd : dn.getD Q[m] true = false) : dm.getD Q[m] true = false := by
  rw [h.at_, hd, Bool.false_or]
  simp only [List.contains_eq_mem, decide_eq_false_iff_not]
  intro hmem
  obtain ⟨j, hj, e⟩ := List.getElem_of_mem hmem
  rw [List.length_take] at hj
  rw [List.getElem_take] at e
  have := (List.pairwise_iff_getElem.1 hi) j m (by omega) hm (by omega)
  omega
theorem Dm.done {due : List Int} {dn : List Bool} {t : Int} {dm : List Bool} (h : Dm dn (outQ due dn t) (outQ due dn t).length dm) : ∀ k, k < due.length → dm.getD k true = (dn.getD k true || due.getD k 0 == t) := by
  intro k hk
  rw [h.at_, List.take_length]
  cases e : dn.getD k true with
  | true => rfl
  | false =>
    rw [Bool.false_or, Bool.false_or]
    cases e2 : (due.getD k 0 == t) with
    | true =>
      simp only [List.contains_eq_mem, decide_eq_true_eq]
      exact outQ_mem.2 ⟨hk, e, by simpa using e2⟩
    | false =>
      simp only [List.contains_eq_mem, decide_eq_false_iff_not]
      intro hm
      have := (outQ_mem.1 hm).2.2
      rw [this] at e2
      simp at e2
end Go.Proofs.Ytdhljogcoooomaa.Oq
