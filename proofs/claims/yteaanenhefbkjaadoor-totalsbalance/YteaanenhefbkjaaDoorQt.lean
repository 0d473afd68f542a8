/- Regions that draw their order: quiet operations first, then a tail in which each waits for all ahead of it. -/
import Derived.Test.YteaanenhefbkjaaDoorQl
namespace Go.Proofs.YteaanenhefbkjaaDoor.Qt
set_option linter.unusedVariables false
open Go.RowKit Kb Ql
variable {P : Program} {ops : Array Oper} {md : Region.Mode} {C : World → Prop}
def tailB (md : Region.Mode) (ops : Array Oper) : Nat → Nat → Array Bool → Bool
  | _, 0, listed => Region.ready md ops listed == []
  | k, m + 1, listed => Region.ready md ops listed == [k] && tailB md ops (k + 1) m (listed.setIfInBounds k true)
theorem tail_run {Q : Exit → Act → World → Prop} : ∀ (t : List Oper) (k : Nat) (listed : Array Bool) (a : Act) (w : World), (∀ j, j < t.length → t[j]? = ops[k + j]?) → tailB md ops k t.length listed = true → wpList P ops Q t a w → wpAny P md ops Q t.length listed a w
  | [], k, listed, a, w, _, hB, h => by
    simp only [List.length_nil, tailB, beq_iff_eq] at hB
    exact ⟨hB, h⟩
  | o :: t, k, listed, a, w, ht, hB, h => by
    simp only [List.length_cons, tailB, Bool.and_eq_true, beq_iff_eq] at hB
    refine ⟨fun h0 => by rw [hB.1] at h0; simp at h0, fun i hi => ?_⟩
    rw [hB.1] at hi
    have : i = k := by simpa using hi
    subst this
    have h0 : ops[i]? = some o := by simpa using (ht 0 (by simp)).symm
    have h1 : wpOp P ops Q i (wpList P ops Q t) a w := by unfold wpOp; simp only [h0]; exact h
    exact wpOp_mono (fun a' w' hq => tail_run t (i + 1) _ a' w' (fun j hj => by have := ht (j + 1) (by simp; omega); simpa [Nat.add_assoc, Nat.add_comm 1 j] using this) hB.2 hq) h1
def wpAnyT (P : Program) (md : Region.Mode) (ops : Array Oper) (C : World → Prop) (T : Act → Prop) (n m : Nat) : Nat → Array Bool → Act → Prop
  | 0, listed, a => tailB md ops n (m + 1) listed = true ∧ T a
  | fuel + 1, listed, a => Region.ready md ops listed ≠ [] ∧ ∀ i ∈ Region.ready md ops listed, qOp P ops C i (wpAnyT P md ops C T n m fuel (listed.setIfInBounds i true)) a
theorem wpAny_of_tail {Q : Exit → Act → World → Prop} {t : List Oper} {n m : Nat} (hm : t.length = m + 1) (ht : ∀ j, j < t.length → t[j]? = ops[n + j]?) : ∀ (fuel : Nat) (listed : Array Bool) (a : Act) (w : World), C w →
    wpAnyT P md ops C (fun a => ∀ y, C y → wpList P ops Q t a y) n m fuel listed a → wpAny P md ops Q (fuel + (m + 1)) listed a w
  | 0, listed, a, w, hw, h => by
    have := tail_run (Q := Q) t n listed a w ht (by rw [hm]; exact h.1) (h.2 w hw)
    rw [hm] at this
    rwa [Nat.zero_add]
  | fuel + 1, listed, a, w, hw, h => by
    rw [show fuel + 1 + (m + 1) = (fuel + (m + 1)) + 1 by omega]
    exact ⟨fun h0 => absurd h0 h.1, fun i hi => wpOp_of_qOp hw (fun a' w' hw' => wpAny_of_tail hm ht fuel _ a' w' hw') (h.2 i hi)⟩
theorem wpAnyT_first {T : Act → Prop} {n m i : Nat} {oi : Oper} {v : Value} (hB : lastB md ops n = true) (hin : i < n) (hi : ops[i]? = some oi) (hsel : ∀ (j : Nat) (o : Oper) cs b, ops[j]? = some o → o.op ≠ .select cs b) :
    ∀ (fuel : Nat) (listed : Array Bool) (a : Act), Closed md ops listed →
      (∀ j oj, ops[j]? = some oj → j ≠ i → listed.getD j true = false → (∀ e ∈ oj.after, Region.binds md e = true → e.on ≠ i) → oi.apart ops oj = true) →
      i ∈ Region.ready md ops listed → YieldsIn P ops C oi v a →
      wpAnyT P md ops C T n m fuel (listed.setIfInBounds i true) (a.put oi.dst v) → wpAnyT P md ops C T n m (fuel + 1) listed a := by
  intro fuel
  induction fuel with
  | zero =>
    intro listed a hc _ hr hy H
    refine ⟨fun h => (by rw [h] at hr; cases hr), fun j hj => ?_⟩
    by_cases hji : j = i
    · subst hji; exact hy.qOp hi H
    · have h2 := ready_mono hj hji
      have H1 := H.1
      simp only [tailB, Bool.and_eq_true, beq_iff_eq] at H1
      rw [H1.1] at h2
      have : j = n := by simpa using h2
      subst this
      have h3 := last_all hB hc hj i hin
      have h4 := (mem_ready.1 hr).1
      rcases Nat.lt_or_ge i listed.size with h' | h'
      · simp [h'] at h3 h4; rw [h3] at h4; cases h4
      · simp [Array.getElem?_eq_none h'] at h3
  | succ fuel ih =>
    intro listed a hc hfree hr hy H
    refine ⟨fun h => (by rw [h] at hr; cases hr), fun j hj => ?_⟩
    by_cases hji : j = i
    · subst hji; exact hy.qOp hi H
    · have h1 := H.2 j (ready_mono hj hji)
      obtain ⟨hjun, oj, hoj, hall⟩ := mem_ready.1 hj
      have hnot : ∀ e ∈ oj.after, Region.binds md e = true → e.on ≠ i := fun e he hb heq => by
        have h1 := hall e he hb
        have h0 := (mem_ready.1 hr).1
        rw [heq] at h1
        rcases Nat.lt_or_ge i listed.size with h' | h'
        · simp [h'] at h0 h1; rw [h0] at h1; cases h1
        · simp [Array.getElem?_eq_none h'] at h1
      have h2 := qOp_put hoj (hfree j oj hoj hji hjun hnot) (fun cs b => hsel i oi cs b hi) (fun cs b => hsel j oj cs b hoj) hy h1
      have hfree' : ∀ k ok, ops[k]? = some ok → k ≠ i → (listed.setIfInBounds j true).getD k true = false →
          (∀ e ∈ ok.after, Region.binds md e = true → e.on ≠ i) → oi.apart ops ok = true := fun k ok hk hki hun hno => by
        refine hfree k ok hk hki ?_ hno
        by_cases hjk : j = k
        · subst hjk; exact hjun
        · rw [getD_set_ne true hjk] at hun; exact hun
      refine qOp_mono (fun a' h3 => ih (listed.setIfInBounds j true) a' (closed_set hc hj) hfree' (ready_mono hr (Ne.symm hji)) h3.1 ?_) h2
      rw [Array.setIfInBounds_comm _ _ hji]
      exact h3.2
def lexT (md : Region.Mode) (ops : Array Oper) (n m : Nat) : Nat → Nat → Array Bool → Bool
  | 0, k, listed => tailB md ops n (m + 1) listed
  | fuel + 1, k, listed => (Region.ready md ops listed).contains k && Region.free md ops listed k && lexT md ops n m fuel (k + 1) (listed.setIfInBounds k true)
theorem wpAnyT_lex {T : Act → Prop} {n m : Nat} (hB : lastB md ops n = true) (hs : Region.noSelect ops = true) : ∀ (l : List Oper) (k : Nat) (listed : Array Bool) (a : Act), k + l.length = n → Closed md ops listed → (∀ j, j < l.length → l[j]? = ops[k + j]?) →
    lexT md ops n m l.length k listed = true → wpQuiet P ops C T l a → wpAnyT P md ops C T n m l.length listed a
  | [], _, _, _, _, _, _, hL, h => ⟨hL, h⟩
  | o :: l, k, listed, a, hn, hc, hl, hL, h => by
    have h0 : ops[k]? = some o := by simpa using (hl 0 (by simp)).symm
    simp only [List.length_cons, lexT, Bool.and_eq_true] at hL
    obtain ⟨⟨hr, hf⟩, hL'⟩ := hL
    have hr' : k ∈ Region.ready md ops listed := by simpa using hr
    have hst : qOp P ops C k (wpQuiet P ops C T l) a := by unfold qOp; simp only [h0]; exact h
    obtain ⟨v, hy, hK⟩ := yieldsIn_of_qOp h0 hst
    simp only [List.length_cons] at hn
    exact wpAnyT_first hB (by omega) h0 (Region.noSelect_spec hs) l.length listed a hc (Region.free_spec h0 hf) hr' hy
      (wpAnyT_lex hB hs l (k + 1) _ _ (by omega) (closed_set hc hr') (fun j hj => by have := hl (j + 1) (by simp; omega); simpa [Nat.add_assoc, Nat.add_comm 1 j] using this) hL' hK)
/-- n quiet operations, then the others one by one -/
theorem region_tail (n m : Nat) {id : Nat} {Q : Exit → Act → World → Prop} {a : Act} {w : World} {L : List Oper} (hm : P.follows .mixedOrders = true) (hlen : L.length = n + (m + 1))
    (hs : Region.noSelect L.toArray = true) (hB : lastB .any L.toArray n = true) (hL : lexT .any L.toArray n m n 0 (Array.replicate (n + (m + 1)) false) = true)
    (hC : C w.drew) (h : wpQuiet P L.toArray C (fun a' => ∀ y, C y → wpList P L.toArray Q (L.drop n) a' y) (L.take n) a) : (Code.region id L.toArray true).wp P Q a w := by
  refine wp_region_any hm ?_
  have hsz : L.toArray.size = n + (m + 1) := by simpa using hlen
  rw [hsz]
  refine wpAny_of_tail (C := C) (t := L.drop n) (n := n) (m := m) (by rw [List.length_drop]; omega) (fun j hj => by rw [List.getElem?_drop, List.getElem?_toArray]) n _ a _ hC ?_
  have hl : (L.take n).length = n := by rw [List.length_take]; omega
  have := wpAnyT_lex (P := P) (C := C) (T := fun a' => ∀ y, C y → wpList P L.toArray Q (L.drop n) a' y) (m := m) hB hs (L.take n) 0 (Array.replicate (n + (m + 1)) false) a (by rw [hl, Nat.zero_add]) (closed_zero _)
    (fun j hj => by rw [Nat.zero_add, List.getElem?_toArray, List.getElem?_take, if_pos (by omega)]) (by rw [hl]; exact hL) h
  rwa [hl] at this
end Go.Proofs.YteaanenhefbkjaaDoor.Qt
