/- Regions that draw their order: cells held until the late operations come up. -/
import Derived.Test.YtbekjlinnbmpgaaTn
import Derived.OrdersHeld
import Derived.Deep.RegionHeld3
namespace Go.Proofs.Ytbekjlinnbmpgaa.Hl
set_option linter.unusedVariables false
open Go.RowKit Kb Ql
variable {P : Program} {ops : Array Oper} {md : Region.Mode} {Q : Exit → Act → World → Prop} {S : World → Prop} {late : Nat → Bool}
def wpAnyE (P : Program) (md : Region.Mode) (ops : Array Oper) (Q : Exit → Act → World → Prop) (S : World → Prop) (late : Nat → Bool) : Nat → Array Bool → Act → World → Prop
  | 0, listed, a, w => Region.ready md ops listed = [] ∧ Q .normal a w
  | fuel + 1, listed, a, w =>
    (Region.ready md ops listed = [] → Q .normal a w) ∧
    ∀ i ∈ Region.ready md ops listed, wpOp P ops Q i (fun a' w' => (late i = false → S w') ∧ wpAnyE P md ops Q S late fuel (listed.setIfInBounds i true) a' w') a w
theorem wpAny_of_E : ∀ (fuel : Nat) (listed : Array Bool) (a : Act) (w : World), wpAnyE P md ops Q S late fuel listed a w → wpAny P md ops Q fuel listed a w
  | 0, _, _, _, h => h
  | fuel + 1, _, _, _, h => ⟨h.1, fun i hi => wpOp_mono (fun a' w' h' => wpAny_of_E fuel _ a' w' h'.2) (h.2 i hi)⟩
/-- the late ones wait for i -/
def waits (md : Region.Mode) (ops : Array Oper) (late : Nat → Bool) (p i : Nat) : Bool := (List.range ops.size).all fun j => !late j || j == p || (ups md ops ops.size (deps md ops j)).contains i
theorem late_no {i j p : Nat} {listed : Array Bool} (hW : waits md ops late p i = true) (hp : listed.getD p false = true) (hc : Closed md ops listed) (hj : j ∈ Region.ready md ops listed) (hi : listed.getD i false = false) : late j = false := by
  obtain ⟨_, o, ho, _⟩ := mem_ready.1 hj
  have hjs : j < ops.size := (Array.getElem?_eq_some_iff.1 ho).1
  have h1 := List.all_eq_true.1 hW j (List.mem_range.2 hjs)
  cases hl : late j
  · rfl
  · rw [hl] at h1
    have hjp : j ≠ p := fun e => by
      subst e
      have h0 := (mem_ready.1 hj).1
      rcases Nat.lt_or_ge j listed.size with h' | h'
      · simp [h'] at h0 hp; rw [hp] at h0; cases h0
      · simp [Array.getElem?_eq_none h'] at hp
    simp only [Bool.not_true, Bool.false_or, beq_eq_false_iff_ne.2 hjp] at h1
    have h2 := ups_listed hc ops.size _ (ready_deps hj) i (by simpa using h1)
    rw [hi] at h2
    cases h2
theorem unlisted {i : Nat} {listed : Array Bool} (hr : i ∈ Region.ready md ops listed) : listed.getD i false = false := by
  have h0 := (mem_ready.1 hr).1
  rcases Nat.lt_or_ge i listed.size with h' | h'
  · simp [h'] at h0 ⊢; exact h0
  · simp [Array.getElem?_eq_none h'] at h0
theorem wpAnyE_first {i p : Nat} {oi : Oper} {v : Value} (hi : ops[i]? = some oi) (hW : waits md ops late p i = true) (hsel : ∀ (j : Nat) (o : Oper) cs b, ops[j]? = some o → o.op ≠ .select cs b)
    (hQ : ∀ c a w, Q (.panic c) (a.put oi.dst v) w → Q (.panic c) a w) :
    ∀ (fuel : Nat) (listed : Array Bool) (a : Act) (w : World), Closed md ops listed → listed.getD p false = true →
      (∀ j oj, ops[j]? = some oj → j ≠ i → listed.getD j true = false → (∀ e ∈ oj.after, Region.binds md e = true → e.on ≠ i) → oi.apart ops oj = true) →
      i ∈ Region.ready md ops listed → YieldsIf P ops S oi v a → S w →
      wpAnyE P md ops Q S late fuel (listed.setIfInBounds i true) (a.put oi.dst v) w → wpAnyE P md ops Q S late (fuel + 1) listed a w := by
  intro fuel
  induction fuel with
  | zero =>
    intro listed a w hc _ _ hr hy hS H
    refine ⟨fun h => (by rw [h] at hr; cases hr), fun j hj => ?_⟩
    by_cases hji : j = i
    · subst hji; exact hy.wpOp hi hS ⟨fun _ => hS, H⟩
    · have := ready_mono hj hji
      rw [H.1] at this
      cases this
  | succ fuel ih =>
    intro listed a w hc hp hfree hr hy hS H
    refine ⟨fun h => (by rw [h] at hr; cases hr), fun j hj => ?_⟩
    by_cases hji : j = i
    · subst hji; exact hy.wpOp hi hS ⟨fun _ => hS, H⟩
    · have h1 := H.2 j (ready_mono hj hji)
      obtain ⟨hjun, oj, hoj, hall⟩ := mem_ready.1 hj
      have hnot : ∀ e ∈ oj.after, Region.binds md e = true → e.on ≠ i := fun e he hb heq => by
        have h1 := hall e he hb
        have h0 := (mem_ready.1 hr).1
        rw [heq] at h1
        rcases Nat.lt_or_ge i listed.size with h' | h'
        · simp [h'] at h0 h1; rw [h0] at h1; cases h1
        · simp [Array.getElem?_eq_none h'] at h1
      have lj := late_no hW hp hc hj (unlisted hr)
      have h2 := wpOp_putIf hoj (hfree j oj hoj hji hjun hnot) (fun cs b => hsel i oi cs b hi) (fun cs b => hsel j oj cs b hoj) hQ hy h1
      have hfree' : ∀ k ok, ops[k]? = some ok → k ≠ i → (listed.setIfInBounds j true).getD k true = false →
          (∀ e ∈ ok.after, Region.binds md e = true → e.on ≠ i) → oi.apart ops ok = true := fun k ok hk hki hun hno => by
        refine hfree k ok hk hki ?_ hno
        by_cases hjk : j = k
        · subst hjk; exact hjun
        · rw [getD_set_ne true hjk] at hun; exact hun
      refine wpOp_mono (fun a' w' h3 => ⟨h3.2.1, ih (listed.setIfInBounds j true) a' w' (closed_set hc hj) (set_true hp) hfree' (ready_mono hr (Ne.symm hji)) h3.1 (h3.2.1 lj) ?_⟩) h2
      rw [Array.setIfInBounds_comm _ _ hji]
      exact h3.2.2
/-- one that yields in whatever world -/
theorem wpAnyE_pure {i : Nat} {oi : Oper} {v : Value} (hi : ops[i]? = some oi) (hsel : ∀ (j : Nat) (o : Oper) cs b, ops[j]? = some o → o.op ≠ .select cs b)
    (hQ : ∀ c a w, Q (.panic c) (a.put oi.dst v) w → Q (.panic c) a w) :
    ∀ (fuel : Nat) (listed : Array Bool) (a : Act) (w : World),
      (∀ j oj, ops[j]? = some oj → j ≠ i → listed.getD j true = false → (∀ e ∈ oj.after, Region.binds md e = true → e.on ≠ i) → oi.apart ops oj = true) →
      i ∈ Region.ready md ops listed → YieldsIf P ops (fun _ => True) oi v a → (late i = false → S w) →
      wpAnyE P md ops Q S late fuel (listed.setIfInBounds i true) (a.put oi.dst v) w → (∀ w', late i = false → S w') ∨ late i = true → wpAnyE P md ops Q S late (fuel + 1) listed a w := by
  intro fuel
  induction fuel with
  | zero =>
    intro listed a w _ hr hy hS H hx
    refine ⟨fun h => (by rw [h] at hr; cases hr), fun j hj => ?_⟩
    by_cases hji : j = i
    · subst hji; exact hy.wpOp hi trivial ⟨hS, H⟩
    · have := ready_mono hj hji
      rw [H.1] at this
      cases this
  | succ fuel ih =>
    intro listed a w hfree hr hy hS H hx
    refine ⟨fun h => (by rw [h] at hr; cases hr), fun j hj => ?_⟩
    by_cases hji : j = i
    · subst hji; exact hy.wpOp hi trivial ⟨hS, H⟩
    · have h1 := H.2 j (ready_mono hj hji)
      obtain ⟨hjun, oj, hoj, hall⟩ := mem_ready.1 hj
      have hnot : ∀ e ∈ oj.after, Region.binds md e = true → e.on ≠ i := fun e he hb heq => by
        have h1 := hall e he hb
        have h0 := (mem_ready.1 hr).1
        rw [heq] at h1
        rcases Nat.lt_or_ge i listed.size with h' | h'
        · simp [h'] at h0 h1; rw [h0] at h1; cases h1
        · simp [Array.getElem?_eq_none h'] at h1
      have h2 := wpOp_putIf hoj (hfree j oj hoj hji hjun hnot) (fun cs b => hsel i oi cs b hi) (fun cs b => hsel j oj cs b hoj) hQ hy h1
      have hfree' : ∀ k ok, ops[k]? = some ok → k ≠ i → (listed.setIfInBounds j true).getD k true = false →
          (∀ e ∈ ok.after, Region.binds md e = true → e.on ≠ i) → oi.apart ops ok = true := fun k ok hk hki hun hno => by
        refine hfree k ok hk hki ?_ hno
        by_cases hjk : j = k
        · subst hjk; exact hjun
        · rw [getD_set_ne true hjk] at hun; exact hun
      refine wpOp_mono (fun a' w' h3 => ⟨h3.2.1, ih (listed.setIfInBounds j true) a' w' hfree' (ready_mono hr (Ne.symm hji)) h3.1 (fun hl => hx.elim (fun f => f w' hl) (fun e => by rw [e] at hl; cases hl)) ?_ hx⟩) h2
      rw [Array.setIfInBounds_comm _ _ hji]
      exact h3.2.2
/-- n operations that yield where S holds, in the order of the text -/
def lexE (md : Region.Mode) (ops : Array Oper) (late : Nat → Bool) (p : Nat) : Nat → Nat → Array Bool → Bool
  | 0, _, _ => true
  | n + 1, k, listed => (Region.ready md ops listed).contains k && Region.free md ops listed k && waits md ops late p k && lexE md ops late p n (k + 1) (listed.setIfInBounds k true)
def setN : Nat → Nat → Array Bool → Array Bool
  | 0, _, listed => listed
  | n + 1, k, listed => setN n (k + 1) (listed.setIfInBounds k true)
def wpPre (P : Program) (ops : Array Oper) (S : World → Prop) (T : Act → Prop) : List Oper → Act → Prop
  | [], a => T a
  | o :: l, a => ∃ v, YieldsIf P ops S o v a ∧ wpPre P ops S T l (a.put o.dst v)
theorem wpPre_step {T : Act → Prop} {o : Oper} {l : List Oper} {a : Act} (v : Value) (hw : Region.wanted o (yielded ops a.tmps) = true) (h : ∀ w, S w → (execOp a.eval o).run P w = .ok (.value v) w) (hK : wpPre P ops S T l (a.put o.dst v)) : wpPre P ops S T (o :: l) a :=
  ⟨v, Or.inl ⟨hw, h⟩, hK⟩
theorem wpAnyE_lex {p : Nat} (hs : Region.noSelect ops = true) (hQ : ∀ c a b w, Q (.panic c) a w → Q (.panic c) b w) {w : World} (hS : S w) (fuel : Nat) : ∀ (l : List Oper) (k : Nat) (listed : Array Bool) (a : Act), Closed md ops listed → listed.getD p false = true → (∀ j, j < l.length → l[j]? = ops[k + j]?) →
    lexE md ops late p l.length k listed = true → wpPre P ops S (fun a' => Closed md ops (setN l.length k listed) → wpAnyE P md ops Q S late fuel (setN l.length k listed) a' w) l a → wpAnyE P md ops Q S late (fuel + l.length) listed a w
  | [], _, _, _, hc, _, _, _, h => h hc
  | o :: l, k, listed, a, hc, hp, hl, hL, h => by
    have h0 : ops[k]? = some o := by simpa using (hl 0 (by simp)).symm
    simp only [List.length_cons, lexE, Bool.and_eq_true] at hL
    obtain ⟨⟨⟨hr, hf⟩, hW⟩, hL'⟩ := hL
    have hr' : k ∈ Region.ready md ops listed := by simpa using hr
    obtain ⟨v, hy, hK⟩ := h
    have := wpAnyE_lex hs hQ hS fuel l (k + 1) (listed.setIfInBounds k true) (a.put o.dst v) (closed_set hc hr') (set_true hp) (fun j hj => by have := hl (j + 1) (by simp; omega); simpa [Nat.add_assoc, Nat.add_comm 1 j] using this) hL' hK
    exact wpAnyE_first h0 hW (Region.noSelect_spec hs) (fun c a w h => hQ c _ _ w h) (fuel + l.length) listed a w hc hp (Region.free_spec h0 hf) hr' hy hS this
/-- one that stands alone -/
theorem wpAnyE_alone {fuel i : Nat} {listed : Array Bool} {a : Act} {w : World} (hr : Region.ready md ops listed = [i]) (h : wpOp P ops Q i (fun a' w' => (late i = false → S w') ∧ wpAnyE P md ops Q S late fuel (listed.setIfInBounds i true) a' w') a w) : wpAnyE P md ops Q S late (fuel + 1) listed a w :=
  ⟨fun h0 => absurd (hr ▸ h0) (by simp), fun j hj => by
    rw [hr] at hj
    have e : j = i := by simpa using hj
    rw [e]; exact h⟩
theorem region_late {L : List Oper} (n r p : Nat) {op : Oper} {vp : Value} {id : Nat} {a : Act} {w : World} (hm : P.follows .mixedOrders = true) (hlen : L.length = r + n + 1) (hs : Region.noSelect L.toArray = true) (hop : L.toArray[p]? = some op) (hps : p < r + n + 1)
    (hr : (Region.ready .any L.toArray (Array.replicate (r + n + 1) false)).contains p = true) (hf : Region.free .any L.toArray (Array.replicate (r + n + 1) false) p = true) (hlt : late p = true) (hyp : YieldsIf P L.toArray (fun _ => True) op vp a)
    (hL : lexE .any L.toArray late p n 0 ((Array.replicate (r + n + 1) false).setIfInBounds p true) = true) (hS : S w.drew)
    (h : wpPre P L.toArray S (fun a' => Closed .any L.toArray (setN n 0 ((Array.replicate (r + n + 1) false).setIfInBounds p true)) → wpAnyE P .any L.toArray (NoPanic Q) S late r (setN n 0 ((Array.replicate (r + n + 1) false).setIfInBounds p true)) a' w.drew) (L.take n) (a.put op.dst vp)) : (Code.region id L.toArray true).wp P Q a w := by
  refine wp_region_noPanic ?_
  refine wp_region_any hm ?_
  have hsz : L.toArray.size = r + n + 1 := by simpa using hlen
  rw [hsz]
  refine wpAny_of_E (S := S) (late := late) _ _ _ _ ?_
  have hn : (L.take n).length = n := by rw [List.length_take]; omega
  have hr' : p ∈ Region.ready .any L.toArray (Array.replicate (r + n + 1) false) := by simpa using hr
  refine wpAnyE_pure hop (Region.noSelect_spec hs) (fun c a w h => h) (r + n) _ a _ (Region.free_spec hop hf) hr' hyp (fun h => by rw [hlt] at h; cases h) ?_ (Or.inr hlt)
  have := wpAnyE_lex (P := P) (Q := NoPanic Q) (late := late) (p := p) hs (fun c a b w h => h) hS r (L.take n) 0 ((Array.replicate (r + n + 1) false).setIfInBounds p true) (a.put op.dst vp) (closed_set (closed_zero _) hr') (by simp [hps])
    (fun j hj => by rw [Nat.zero_add, List.getElem?_toArray, List.getElem?_take, if_pos (by omega)]) (by rw [hn]; exact hL) (by rw [hn]; exact h)
  rwa [hn] at this
/-- the first operation is worldless and counts as late: the rest goes as in region_late -/
theorem region_late1 {L : List Oper} (n r : Nat) {op : Oper} {vp : Value} {id : Nat} {a : Act} {w : World} (hm : P.follows .mixedOrders = true) (hlen : L.length = r + n + 1) (hs : Region.noSelect L.toArray = true) (hop : L.toArray[0]? = some op)
    (hr : (Region.ready .any L.toArray (Array.replicate (r + n + 1) false)).contains 0 = true) (hf : Region.free .any L.toArray (Array.replicate (r + n + 1) false) 0 = true) (hlt : late 0 = true) (hyp : YieldsIf P L.toArray (fun _ => True) op vp a)
    (hL : lexE .any L.toArray late 0 n 1 ((Array.replicate (r + n + 1) false).setIfInBounds 0 true) = true) (hS : S w.drew)
    (h : wpPre P L.toArray S (fun a' => Closed .any L.toArray (setN n 1 ((Array.replicate (r + n + 1) false).setIfInBounds 0 true)) → wpAnyE P .any L.toArray (NoPanic Q) S late r (setN n 1 ((Array.replicate (r + n + 1) false).setIfInBounds 0 true)) a' w.drew) ((L.drop 1).take n) (a.put op.dst vp)) : (Code.region id L.toArray true).wp P Q a w := by
  refine wp_region_noPanic ?_
  refine wp_region_any hm ?_
  have hsz : L.toArray.size = r + n + 1 := by simpa using hlen
  rw [hsz]
  refine wpAny_of_E (S := S) (late := late) _ _ _ _ ?_
  have hn : ((L.drop 1).take n).length = n := by rw [List.length_take, List.length_drop]; omega
  have hr' : 0 ∈ Region.ready .any L.toArray (Array.replicate (r + n + 1) false) := by simpa using hr
  refine wpAnyE_pure hop (Region.noSelect_spec hs) (fun c a w h => h) (r + n) _ a _ (Region.free_spec hop hf) hr' hyp (fun h => by rw [hlt] at h; cases h) ?_ (Or.inr hlt)
  have := wpAnyE_lex (P := P) (Q := NoPanic Q) (late := late) (p := 0) hs (fun c a b w h => h) hS r ((L.drop 1).take n) 1 ((Array.replicate (r + n + 1) false).setIfInBounds 0 true) (a.put op.dst vp) (closed_set (closed_zero _) hr') (by simp)
    (fun j hj => by rw [List.getElem?_toArray, List.getElem?_take, if_pos (by omega), List.getElem?_drop]) (by rw [hn]; exact hL) (by rw [hn]; exact h)
  rwa [hn] at this
theorem wpOp_value {i : Nat} {o : Oper} {a : Act} {w w' : World} {v : Value} {K : Act → World → Prop} (ho : ops[i]? = some o) (hw : Region.wanted o (yielded ops a.tmps) = true) (hr : (execOp a.eval o).run P w = .ok (.value v) w') (h : K (a.put o.dst v) w') : wpOp P ops Q i K a w := by
  unfold wpOp
  simp only [ho, hw, if_true, Oper.wp, hr, Oper.upon]
  exact .inl h
theorem wpOp_step {i : Nat} {o : Oper} {a : Act} {w : World} {K : Act → World → Prop} (ho : ops[i]? = some o) (hw : Region.wanted o (yielded ops a.tmps) = true) (h : o.wp P a w K Q) : wpOp P ops Q i K a w := by
  unfold wpOp
  simp only [ho, hw, if_true]
  exact .inl h
end Go.Proofs.Ytbekjlinnbmpgaa.Hl
