/- Regions that draw their order: one operation that needs no world, quiet ones, a tail. -/
import Derived.Test.YtmaikkhemhonhaaQt
namespace Go.Proofs.Ytmaikkhemhonhaa.Qu
set_option linter.unusedVariables false
open Go.RowKit Kb Ql Qt
variable {P : Program} {ops : Array Oper} {md : Region.Mode} {C : World → Prop}
theorem wpAnyT_first1 {T : Act → Prop} {n m i : Nat} {oi : Oper} {v : Value} (hw : (ups md ops n (deps md ops n)).contains i = true) (hi : ops[i]? = some oi) (hsel : ∀ (j : Nat) (o : Oper) cs b, ops[j]? = some o → o.op ≠ .select cs b) :
    ∀ (fuel : Nat) (listed : Array Bool) (a : Act), Closed md ops listed →
      (∀ j oj, ops[j]? = some oj → j ≠ i → listed.getD j true = false → (∀ e ∈ oj.after, Region.binds md e = true → e.on ≠ i) → oi.apart ops oj = true) →
      i ∈ Region.ready md ops listed → YieldsIn P ops C oi v a →
      wpAnyT P md ops C T n m fuel (listed.setIfInBounds i true) (a.put oi.dst v) → wpAnyT P md ops C T n m (fuel + 1) listed a := by
  intro fuel
  induction fuel with
  | zero =>
    intro listed a hc _ hr hy H
    refine ⟨fun h => (by rw [h] at hr; cases hr), fun j hj => ?_⟩
    by_cases hji : j = i
    · subst hji; exact hy.qOp hi H
    · have h2 := ready_mono hj hji
      have H1 := H.1
      simp only [tailB, Bool.and_eq_true, beq_iff_eq] at H1
      rw [H1.1] at h2
      have : j = n := by simpa using h2
      subst this
      have h3 := ups_listed hc _ _ (ready_deps hj) i (by simpa using hw)
      have h4 := (mem_ready.1 hr).1
      rcases Nat.lt_or_ge i listed.size with h' | h'
      · simp [h'] at h3 h4; rw [h3] at h4; cases h4
      · simp [Array.getElem?_eq_none h'] at h3
  | succ fuel ih =>
    intro listed a hc hfree hr hy H
    refine ⟨fun h => (by rw [h] at hr; cases hr), fun j hj => ?_⟩
    by_cases hji : j = i
    · subst hji; exact hy.qOp hi H
    · have h1 := H.2 j (ready_mono hj hji)
      obtain ⟨hjun, oj, hoj, hall⟩ := mem_ready.1 hj
      have hnot : ∀ e ∈ oj.after, Region.binds md e = true → e.on ≠ i := fun e he hb heq => by
        have h1 := hall e he hb
        have h0 := (mem_ready.1 hr).1
        rw [heq] at h1
        rcases Nat.lt_or_ge i listed.size with h' | h'
        · simp [h'] at h0 h1; rw [h0] at h1; cases h1
        · simp [Array.getElem?_eq_none h'] at h1
      have h2 := qOp_put hoj (hfree j oj hoj hji hjun hnot) (fun cs b => hsel i oi cs b hi) (fun cs b => hsel j oj cs b hoj) hy h1
      have hfree' : ∀ k ok, ops[k]? = some ok → k ≠ i → (listed.setIfInBounds j true).getD k true = false →
          (∀ e ∈ ok.after, Region.binds md e = true → e.on ≠ i) → oi.apart ops ok = true := fun k ok hk hki hun hno => by
        refine hfree k ok hk hki ?_ hno
        by_cases hjk : j = k
        · subst hjk; exact hjun
        · rw [getD_set_ne true hjk] at hun; exact hun
      refine qOp_mono (fun a' h3 => ih (listed.setIfInBounds j true) a' (closed_set hc hj) hfree' (ready_mono hr (Ne.symm hji)) h3.1 ?_) h2
      rw [Array.setIfInBounds_comm _ _ hji]
      exact h3.2
theorem wpAnyT_lex1 {T : Act → Prop} {n m k0 : Nat} (hB : ∀ i, k0 ≤ i → i < n → (ups md ops n (deps md ops n)).contains i = true) (hs : Region.noSelect ops = true) : ∀ (l : List Oper) (k : Nat) (listed : Array Bool) (a : Act), k0 ≤ k → k + l.length = n → Closed md ops listed → (∀ j, j < l.length → l[j]? = ops[k + j]?) →
    lexT md ops n m l.length k listed = true → wpQuiet P ops C T l a → wpAnyT P md ops C T n m l.length listed a
  | [], _, _, _, _, _, _, _, hL, h => ⟨hL, h⟩
  | o :: l, k, listed, a, hk, hn, hc, hl, hL, h => by
    have h0 : ops[k]? = some o := by simpa using (hl 0 (by simp)).symm
    simp only [List.length_cons, lexT, Bool.and_eq_true] at hL
    obtain ⟨⟨hr, hf⟩, hL'⟩ := hL
    have hr' : k ∈ Region.ready md ops listed := by simpa using hr
    have hst : qOp P ops C k (wpQuiet P ops C T l) a := by unfold qOp; simp only [h0]; exact h
    obtain ⟨v, hy, hK⟩ := yieldsIn_of_qOp h0 hst
    simp only [List.length_cons] at hn
    exact wpAnyT_first1 (hB k hk (by omega)) h0 (Region.noSelect_spec hs) l.length listed a hc (Region.free_spec h0 hf) hr' hy
      (wpAnyT_lex1 hB hs l (k + 1) _ _ (by omega) (by omega) (closed_set hc hr') (fun j hj => by have := hl (j + 1) (by simp; omega); simpa [Nat.add_assoc, Nat.add_comm 1 j] using this) hL' hK)
/-- one operation that needs no world, n quiet ones, then the others one by one -/
theorem region_tail1 (n m : Nat) {id : Nat} {Q : Exit → Act → World → Prop} {a : Act} {w : World} {o0 : Oper} {L : List Oper} (v0 : Value) (hm : P.follows .mixedOrders = true) (hlen : L.length = n + (m + 1))
    (hs : Region.noSelect (o0 :: L).toArray = true) (hf : Region.free .any (o0 :: L).toArray (Array.replicate (n + (m + 1) + 1) false) 0 = true) (hr : (Region.ready .any (o0 :: L).toArray (Array.replicate (n + (m + 1) + 1) false)).contains 0 = true)
    (hB : ((List.range (n + 1)).all fun i => decide (i = 0) || (ups .any (o0 :: L).toArray (n + 1) (deps .any (o0 :: L).toArray (n + 1))).contains i) = true) (hL : lexT .any (o0 :: L).toArray (n + 1) m n 1 ((Array.replicate (n + (m + 1) + 1) false).setIfInBounds 0 true) = true)
    (hQ : ∀ c a w, Q (.panic c) (a.put o0.dst v0) w → Q (.panic c) a w) (hy : Yields P (o0 :: L).toArray o0 v0 a)
    (hC : C w.drew) (h : wpQuiet P (o0 :: L).toArray C (fun a' => ∀ y, C y → wpList P (o0 :: L).toArray Q (L.drop n) a' y) (L.take n) (a.put o0.dst v0)) : (Code.region id (o0 :: L).toArray true).wp P Q a w := by
  refine wp_region_any hm ?_
  have hsz : (o0 :: L).toArray.size = n + (m + 1) + 1 := by simp [hlen]
  rw [hsz]
  refine wpAny_take (i := 0) (oi := o0) (v := v0) (by simp) hs hf hr hQ hy ?_
  refine wpAny_of_tail (C := C) (t := L.drop n) (n := n + 1) (m := m) (by rw [List.length_drop]; omega) (fun j hj => by rw [List.getElem?_drop, List.getElem?_toArray, show n + 1 + j = (n + j) + 1 by omega, List.getElem?_cons_succ]) n _ _ _ hC ?_
  have hl : (L.take n).length = n := by rw [List.length_take]; omega
  have hcl : Closed .any (o0 :: L).toArray ((Array.replicate (n + (m + 1) + 1) false).setIfInBounds 0 true) := closed_set (closed_zero _) (by simpa using hr)
  have := wpAnyT_lex1 (P := P) (C := C) (T := fun a' => ∀ y, C y → wpList P (o0 :: L).toArray Q (L.drop n) a' y) (m := m) (n := n + 1) (k0 := 1) (fun i h1 h2 => by
    have := List.all_eq_true.1 hB i (List.mem_range.2 h2)
    simp only [Bool.or_eq_true, decide_eq_true_eq] at this
    rcases this with e | e
    · omega
    · exact e) hs (L.take n) 1 _ (a.put o0.dst v0) (Nat.le_refl _) (by rw [hl]; omega) hcl
    (fun j hj => by rw [show 1 + j = j + 1 by omega, List.getElem?_toArray, List.getElem?_cons_succ, List.getElem?_take, if_pos (by omega)]) (by rw [hl]; exact hL) h
  rwa [hl] at this
end Go.Proofs.Ytmaikkhemhonhaa.Qu
