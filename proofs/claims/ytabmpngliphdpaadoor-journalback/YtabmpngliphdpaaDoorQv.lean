/- Regions that draw their order within a round: quiet operations first, then a tail in which each waits for all ahead of it. -/
import Derived.Test.YtabmpngliphdpaaDoorQl
import Derived.Test.YtabmpngliphdpaaDoorKk
import Derived.Sort.QuietIn
namespace Go.Proofs.YtabmpngliphdpaaDoor.Qv
set_option linter.unusedVariables false
set_option linter.unusedSimpArgs false
open Go Go.RowKit Kb Ql
variable {F : Fence} {q l : Nat} {P : Program} {ops : Array Oper} {Q : Exit → Act → World → Prop} {md : Region.Mode} {C : World → Prop}
def noDef (o : Oper) : Bool := match o.op with
  | .defer _ => false
  | _ => true
theorem noDef_op {o : Oper} (h : noDef o = true) (c) : o.op ≠ .defer c := by
  intro e
  simp [noDef, e] at h
theorem op_round {o : Oper} {a : Act} {w : World} {K : Act → World → Prop} (hd : noDef o = true) (hro : F.round = none) (h : o.wpIn F q P a w K Q) : o.wpIn (F.inRound l) q P a w K Q := by
  unfold Oper.wpIn at h ⊢
  refine ⟨h.1, ?_⟩
  have h2 := h.2
  rw [hro, Oper.semAt_none] at h2
  rw [Oper.semAt_eq _ _ _ (noDef_op hd)]
  generalize (execOp a.eval o).run P w = r at *
  cases r with
  | ok nx w' => cases nx <;> exact h2
  | _ => exact h2
theorem opIn_round {i : Nat} {a : Act} {w : World} {K : Act → World → Prop} (hd : ∀ (j : Nat) (o : Oper), ops[j]? = some o → noDef o = true) (hro : F.round = none) (h : wpOpIn F q P ops Q i K a w) : wpOpIn (F.inRound l) q P ops Q i K a w := by
  unfold wpOpIn at h ⊢
  cases ho : ops[i]? with
  | none => simpa only [ho] using h
  | some o =>
    simp only [ho] at h ⊢
    split at h
    · rename_i hw; rw [if_pos hw]; exact op_round (hd i o ho) hro h
    · rename_i hw; rw [if_neg hw]; exact h
theorem any_round (hd : ∀ (j : Nat) (o : Oper), ops[j]? = some o → noDef o = true) (hro : F.round = none) : ∀ (fuel : Nat) (listed : Array Bool) (a : Act) (w : World), wpAnyIn F q P md ops Q fuel listed a w → wpAnyIn (F.inRound l) q P md ops Q fuel listed a w
  | 0, _, _, _, h => h
  | fuel + 1, _, _, _, h => ⟨h.1, fun i hi => wpOpIn_mono (fun a' w' h' => any_round hd hro fuel _ a' w' h') (opIn_round hd hro (h.2 i hi))⟩
theorem region_round {id : Nat} {a : Act} {w : World} {L : List Oper} (hro : F.round = none) (hm : P.follows .mixedOrders = true) (hB : Region.lexB .any L.toArray = true) (hd : L.all noDef = true)
    (h : wpQuietIn F q P L.toArray (fun w' => ∃ n, w' = w.drewN n) (fun a' => ∀ w', (∃ n, w' = w.drewN n) → Q .normal a' w') L a) : (Code.region id L.toArray true).wpIn (F.inRound l) q P Q a w := by
  have hd' : ∀ (j : Nat) (o : Oper), L.toArray[j]? = some o → noDef o = true := fun j o ho => by
    rw [List.all_eq_true] at hd
    exact hd o (List.mem_of_getElem? (by simpa using ho))
  simp only [Region.lexB, Bool.and_eq_true] at hB
  refine wpIn_region_any hm (any_round hd' hro _ _ _ _ (wpAnyIn_of_quiet (C := fun w' => ∃ n, w' = w.drewN n) (Q := fun a' => ∀ w', (∃ n, w' = w.drewN n) → Q .normal a' w') hro (fun _ w' hw' h => h w' hw') _ _ _ _ ⟨1, rfl⟩ ?_))
  have := wpAnyQIn_lex (F := F) (n := q) (C := fun w' => ∃ n, w' = w.drewN n) (md := .any) hB.1 L.toArray.toList 0 (Array.replicate L.toArray.size false) a (by simp) (by simpa using hB.2) (by simpa using h)
  simpa using this
def tailB (md : Region.Mode) (ops : Array Oper) : Nat → Nat → Array Bool → Bool
  | _, 0, listed => Region.ready md ops listed == []
  | k, m + 1, listed => Region.ready md ops listed == [k] && tailB md ops (k + 1) m (listed.setIfInBounds k true)
theorem tail_run {Q : Exit → Act → World → Prop} : ∀ (t : List Oper) (k : Nat) (listed : Array Bool) (a : Act) (w : World), (∀ j, j < t.length → t[j]? = ops[k + j]?) → tailB md ops k t.length listed = true → wpListIn F q P ops Q t a w → wpAnyIn F q P md ops Q t.length listed a w
  | [], k, listed, a, w, _, hB, h => by
    simp only [List.length_nil, tailB, beq_iff_eq] at hB
    exact ⟨hB, h⟩
  | o :: t, k, listed, a, w, ht, hB, h => by
    simp only [List.length_cons, tailB, Bool.and_eq_true, beq_iff_eq] at hB
    refine ⟨fun h0 => by rw [hB.1] at h0; simp at h0, fun i hi => ?_⟩
    rw [hB.1] at hi
    have : i = k := by simpa using hi
    subst this
    have h0 : ops[i]? = some o := by simpa using (ht 0 (by simp)).symm
    have h1 : wpOpIn F q P ops Q i (wpListIn F q P ops Q t) a w := by unfold wpOpIn; simp only [h0]; exact h
    exact wpOpIn_mono (fun a' w' hq => tail_run t (i + 1) _ a' w' (fun j hj => by have := ht (j + 1) (by simp; omega); simpa [Nat.add_assoc, Nat.add_comm 1 j] using this) hB.2 hq) h1
def wpAnyT (F : Fence) (q : Nat) (P : Program) (md : Region.Mode) (ops : Array Oper) (C : World → Prop) (T : Act → Prop) (n m : Nat) : Nat → Array Bool → Act → Prop
  | 0, listed, a => tailB md ops n (m + 1) listed = true ∧ T a
  | fuel + 1, listed, a => Region.ready md ops listed ≠ [] ∧ ∀ i ∈ Region.ready md ops listed, qOpIn F q P ops C i (wpAnyT F q P md ops C T n m fuel (listed.setIfInBounds i true)) a
theorem wpAnyX_of_tail (hro : F.round = none) {Q : Exit → Act → World → Prop} {t : List Oper} {n m : Nat} (hm : t.length = m + 1) (ht : ∀ j, j < t.length → t[j]? = ops[n + j]?) : ∀ (fuel : Nat) (listed : Array Bool) (a : Act) (w : World), C w →
    wpAnyT F q P md ops C (fun a => ∀ y, C y → wpListIn F q P ops Q t a y) n m fuel listed a → wpAnyIn F q P md ops Q (fuel + (m + 1)) listed a w
  | 0, listed, a, w, hw, h => by
    have := tail_run (Q := Q) t n listed a w ht (by rw [hm]; exact h.1) (h.2 w hw)
    rw [hm] at this
    rwa [Nat.zero_add]
  | fuel + 1, listed, a, w, hw, h => by
    rw [show fuel + 1 + (m + 1) = (fuel + (m + 1)) + 1 by omega]
    exact ⟨fun h0 => absurd h0 h.1, fun i hi => wpOpIn_of_qOpIn hro hw (fun a' w' hw' => wpAnyX_of_tail hro hm ht fuel _ a' w' hw') (h.2 i hi)⟩
theorem wpAnyT_first {T : Act → Prop} {n m i : Nat} {oi : Oper} {v : Value} (hB : lastB md ops n = true) (hin : i < n) (hi : ops[i]? = some oi) (hsel : ∀ (j : Nat) (o : Oper) cs b, ops[j]? = some o → o.op ≠ .select cs b) :
    ∀ (fuel : Nat) (listed : Array Bool) (a : Act), Closed md ops listed →
      (∀ j oj, ops[j]? = some oj → j ≠ i → listed.getD j true = false → (∀ e ∈ oj.after, Region.binds md e = true → e.on ≠ i) → oi.apart ops oj = true) →
      i ∈ Region.ready md ops listed → YieldsQuiet F q P ops C oi v a →
      wpAnyT F q P md ops C T n m fuel (listed.setIfInBounds i true) (a.put oi.dst v) → wpAnyT F q P md ops C T n m (fuel + 1) listed a := by
  intro fuel
  induction fuel with
  | zero =>
    intro listed a hc _ hr hy H
    refine ⟨fun h => (by rw [h] at hr; cases hr), fun j hj => ?_⟩
    by_cases hji : j = i
    · subst hji; exact hy.qOpIn hi H
    · have h2 := ready_mono hj hji
      have H1 := H.1
      simp only [tailB, Bool.and_eq_true, beq_iff_eq] at H1
      rw [H1.1] at h2
      have : j = n := by simpa using h2
      subst this
      have h3 := last_all hB hc hj i hin
      have h4 := (mem_ready.1 hr).1
      rcases Nat.lt_or_ge i listed.size with h' | h'
      · simp [h'] at h3 h4; rw [h3] at h4; cases h4
      · simp [Array.getElem?_eq_none h'] at h3
  | succ fuel ih =>
    intro listed a hc hfree hr hy H
    refine ⟨fun h => (by rw [h] at hr; cases hr), fun j hj => ?_⟩
    by_cases hji : j = i
    · subst hji; exact hy.qOpIn hi H
    · have h1 := H.2 j (ready_mono hj hji)
      obtain ⟨hjun, oj, hoj, hall⟩ := mem_ready.1 hj
      have hnot : ∀ e ∈ oj.after, Region.binds md e = true → e.on ≠ i := fun e he hb heq => by
        have h1 := hall e he hb
        have h0 := (mem_ready.1 hr).1
        rw [heq] at h1
        rcases Nat.lt_or_ge i listed.size with h' | h'
        · simp [h'] at h0 h1; rw [h0] at h1; cases h1
        · simp [Array.getElem?_eq_none h'] at h1
      have h2 := qOpIn_put hoj (hfree j oj hoj hji hjun hnot) (fun cs b => hsel i oi cs b hi) (fun cs b => hsel j oj cs b hoj) hy h1
      have hfree' : ∀ k ok, ops[k]? = some ok → k ≠ i → (listed.setIfInBounds j true).getD k true = false →
          (∀ e ∈ ok.after, Region.binds md e = true → e.on ≠ i) → oi.apart ops ok = true := fun k ok hk hki hun hno => by
        refine hfree k ok hk hki ?_ hno
        by_cases hjk : j = k
        · subst hjk; exact hjun
        · rw [getD_set_ne true hjk] at hun; exact hun
      refine qOpIn_mono (fun a' h3 => ih (listed.setIfInBounds j true) a' (closed_set hc hj) hfree' (ready_mono hr (Ne.symm hji)) h3.1 ?_) h2
      rw [Array.setIfInBounds_comm _ _ hji]
      exact h3.2
def lexT (md : Region.Mode) (ops : Array Oper) (n m : Nat) : Nat → Nat → Array Bool → Bool
  | 0, k, listed => tailB md ops n (m + 1) listed
  | fuel + 1, k, listed => (Region.ready md ops listed).contains k && Region.free md ops listed k && lexT md ops n m fuel (k + 1) (listed.setIfInBounds k true)
theorem wpAnyT_lex {T : Act → Prop} {n m : Nat} (hB : lastB md ops n = true) (hs : Region.noSelect ops = true) : ∀ (l : List Oper) (k : Nat) (listed : Array Bool) (a : Act), k + l.length = n → Closed md ops listed → (∀ j, j < l.length → l[j]? = ops[k + j]?) →
    lexT md ops n m l.length k listed = true → wpQuietIn F q P ops C T l a → wpAnyT F q P md ops C T n m l.length listed a
  | [], _, _, _, _, _, _, hL, h => ⟨hL, h⟩
  | o :: l, k, listed, a, hn, hc, hl, hL, h => by
    have h0 : ops[k]? = some o := by simpa using (hl 0 (by simp)).symm
    simp only [List.length_cons, lexT, Bool.and_eq_true] at hL
    obtain ⟨⟨hr, hf⟩, hL'⟩ := hL
    have hr' : k ∈ Region.ready md ops listed := by simpa using hr
    have hst : qOpIn F q P ops C k (wpQuietIn F q P ops C T l) a := by unfold qOpIn; simp only [h0]; exact h
    obtain ⟨v, hy, hK⟩ := yieldsQuiet_of_qOpIn h0 hst
    simp only [List.length_cons] at hn
    exact wpAnyT_first hB (by omega) h0 (Region.noSelect_spec hs) l.length listed a hc (Region.free_spec h0 hf) hr' hy
      (wpAnyT_lex hB hs l (k + 1) _ _ (by omega) (closed_set hc hr') (fun j hj => by have := hl (j + 1) (by simp; omega); simpa [Nat.add_assoc, Nat.add_comm 1 j] using this) hL' hK)
/-- n quiet operations, then the others one by one, within a round -/
theorem region_tail (n m : Nat) {id l : Nat} {Q : Exit → Act → World → Prop} {a : Act} {w : World} {L : List Oper} (hro : F.round = none) (hm : P.follows .mixedOrders = true) (hd : L.all noDef = true) (hlen : L.length = n + (m + 1))
    (hs : Region.noSelect L.toArray = true) (hB : lastB .any L.toArray n = true) (hL : lexT .any L.toArray n m n 0 (Array.replicate (n + (m + 1)) false) = true)
    (hC : C w.drew) (h : wpQuietIn F q P L.toArray C (fun a' => ∀ y, C y → wpListIn F q P L.toArray Q (L.drop n) a' y) (L.take n) a) : (Code.region id L.toArray true).wpIn (F.inRound l) q P Q a w := by
  have hd' : ∀ (j : Nat) (o : Oper), L.toArray[j]? = some o → noDef o = true := fun j o ho => by
    rw [List.all_eq_true] at hd
    exact hd o (List.mem_of_getElem? (by simpa using ho))
  refine wpIn_region_any hm (any_round hd' hro _ _ _ _ ?_)
  have hsz : L.toArray.size = n + (m + 1) := by simpa using hlen
  rw [hsz]
  refine wpAnyX_of_tail (C := C) hro (t := L.drop n) (n := n) (m := m) (by rw [List.length_drop]; omega) (fun j hj => by rw [List.getElem?_drop, List.getElem?_toArray]) n _ a _ hC ?_
  have hl : (L.take n).length = n := by rw [List.length_take]; omega
  have := wpAnyT_lex (P := P) (C := C) (T := fun a' => ∀ y, C y → wpListIn F q P L.toArray Q (L.drop n) a' y) (m := m) hB hs (L.take n) 0 (Array.replicate (n + (m + 1)) false) a (by rw [hl, Nat.zero_add]) (closed_zero _)
    (fun j hj => by rw [Nat.zero_add, List.getElem?_toArray, List.getElem?_take, if_pos (by omega)]) (by rw [hl]; exact hL) h
  rwa [hl] at this
end Go.Proofs.YtabmpngliphdpaaDoor.Qv
