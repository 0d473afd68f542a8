/- Regions that draw their order, whose operations leave a class of worlds alone but for the last one, which waits for all others. -/
import Derived.Test.YtabmpngliphdpaaDoorKb
import Derived.Deep.QuietTactic
namespace Go.Proofs.YtabmpngliphdpaaDoor.Ql
set_option linter.unusedVariables false
set_option linter.unusedSimpArgs false
open Go.RowKit Kb
variable {P : Program} {ops : Array Oper} {md : Region.Mode} {C : World → Prop}
/-- what an operation waits for -/
def deps (md : Region.Mode) (ops : Array Oper) (j : Nat) : List Nat := match ops[j]? with
  | none => []
  | some o => (o.after.filter (Region.binds md)).toList.map (·.on)
def ups (md : Region.Mode) (ops : Array Oper) : Nat → List Nat → List Nat
  | 0, l => l
  | k + 1, l => ups md ops k (l ++ l.flatMap (deps md ops))
/-- all that stands ahead of n is waited for by n -/
def lastB (md : Region.Mode) (ops : Array Oper) (n : Nat) : Bool := (List.range n).all fun j => (ups md ops n (deps md ops n)).contains j
def Closed (md : Region.Mode) (ops : Array Oper) (listed : Array Bool) : Prop := ∀ j, listed.getD j false = true → ∀ d ∈ deps md ops j, listed.getD d false = true
theorem ups_listed {listed : Array Bool} (hc : Closed md ops listed) : ∀ (k : Nat) (l : List Nat), (∀ d ∈ l, listed.getD d false = true) → ∀ d ∈ ups md ops k l, listed.getD d false = true
  | 0, l, h => h
  | k + 1, l, h => ups_listed hc k _ fun d hd => by
    rcases List.mem_append.1 hd with hd | hd
    · exact h d hd
    · obtain ⟨j, hj, hd⟩ := List.mem_flatMap.1 hd
      exact hc j (h j hj) d hd
theorem ready_deps {listed : Array Bool} {j : Nat} (h : j ∈ Region.ready md ops listed) : ∀ d ∈ deps md ops j, listed.getD d false = true := by
  obtain ⟨_, o, ho, hall⟩ := mem_ready.1 h
  intro d hd
  unfold deps at hd
  rw [ho] at hd
  obtain ⟨e, he, rfl⟩ := List.mem_map.1 hd
  have he' := Array.mem_filter.1 (by simpa using he)
  exact hall e he'.1 he'.2
theorem last_all {listed : Array Bool} {n : Nat} (hB : lastB md ops n = true) (hc : Closed md ops listed) (h : n ∈ Region.ready md ops listed) (j : Nat) (hj : j < n) : listed.getD j false = true := by
  have hm := List.all_eq_true.1 hB j (List.mem_range.2 hj)
  exact ups_listed hc n _ (ready_deps h) j (by simpa using hm)
theorem set_true {listed : Array Bool} {i d : Nat} (h : listed.getD d false = true) : (listed.setIfInBounds i true).getD d false = true := getD_set_true h
theorem closed_set {listed : Array Bool} {i : Nat} (hc : Closed md ops listed) (hi : i ∈ Region.ready md ops listed) : Closed md ops (listed.setIfInBounds i true) := by
  intro j hj d hd
  by_cases e : i = j
  · subst e; exact set_true (ready_deps hi d hd)
  · refine set_true (hc j ?_ d hd)
    simpa [Array.getElem?_setIfInBounds, e] using hj
def wpAnyL (P : Program) (md : Region.Mode) (ops : Array Oper) (C : World → Prop) (T : Act → Prop) (n : Nat) : Nat → Array Bool → Act → Prop
  | 0, listed, a => Region.ready md ops listed = [n] ∧ Region.ready md ops (listed.setIfInBounds n true) = [] ∧ T a
  | fuel + 1, listed, a => Region.ready md ops listed ≠ [] ∧ ∀ i ∈ Region.ready md ops listed, qOp P ops C i (wpAnyL P md ops C T n fuel (listed.setIfInBounds i true)) a
theorem wpAny_of_last {T : Act → Prop} {n : Nat} {Q' : Exit → Act → World → Prop} (hT : ∀ a w, C w → T a → wpOp P ops Q' n (fun a' w' => Q' .normal a' w') a w) : ∀ (fuel : Nat) (listed : Array Bool) (a : Act) (w : World), C w →
    wpAnyL P md ops C T n fuel listed a → wpAny P md ops Q' (fuel + 1) listed a w
  | 0, listed, a, w, hw, h => ⟨fun h0 => by rw [h.1] at h0; simp at h0, fun i hi => by
      rw [h.1] at hi
      have : i = n := by simpa using hi
      subst this
      exact wpOp_mono (fun a' w' hq => ⟨h.2.1, hq⟩) (hT a w hw h.2.2)⟩
  | fuel + 1, listed, a, w, hw, h => ⟨fun h0 => absurd h0 h.1, fun i hi => wpOp_of_qOp hw (fun a' w' hw' => wpAny_of_last hT fuel _ a' w' hw') (h.2 i hi)⟩
theorem wpAnyL_first {T : Act → Prop} {n i : Nat} {oi : Oper} {v : Value} (hB : lastB md ops n = true) (hin : i < n) (hi : ops[i]? = some oi) (hsel : ∀ (j : Nat) (o : Oper) cs b, ops[j]? = some o → o.op ≠ .select cs b) :
    ∀ (fuel : Nat) (listed : Array Bool) (a : Act), Closed md ops listed →
      (∀ j oj, ops[j]? = some oj → j ≠ i → listed.getD j true = false → (∀ e ∈ oj.after, Region.binds md e = true → e.on ≠ i) → oi.apart ops oj = true) →
      i ∈ Region.ready md ops listed → YieldsIn P ops C oi v a →
      wpAnyL P md ops C T n fuel (listed.setIfInBounds i true) (a.put oi.dst v) → wpAnyL P md ops C T n (fuel + 1) listed a := by
  intro fuel
  induction fuel with
  | zero =>
    intro listed a hc _ hr hy H
    refine ⟨fun h => (by rw [h] at hr; cases hr), fun j hj => ?_⟩
    by_cases hji : j = i
    · subst hji; exact hy.qOp hi H
    · have h2 := ready_mono hj hji
      rw [H.1] at h2
      have : j = n := by simpa using h2
      subst this
      have h3 := last_all hB hc hj i hin
      have h4 := (mem_ready.1 hr).1
      rcases Nat.lt_or_ge i listed.size with h' | h'
      · simp [h'] at h3 h4; rw [h3] at h4; cases h4
      · simp [Array.getElem?_eq_none h'] at h3
  | succ fuel ih =>
    intro listed a hc hfree hr hy H
    refine ⟨fun h => (by rw [h] at hr; cases hr), fun j hj => ?_⟩
    by_cases hji : j = i
    · subst hji; exact hy.qOp hi H
    · have h1 := H.2 j (ready_mono hj hji)
      obtain ⟨hjun, oj, hoj, hall⟩ := mem_ready.1 hj
      have hnot : ∀ e ∈ oj.after, Region.binds md e = true → e.on ≠ i := fun e he hb heq => by
        have h1 := hall e he hb
        have h0 := (mem_ready.1 hr).1
        rw [heq] at h1
        rcases Nat.lt_or_ge i listed.size with h' | h'
        · simp [h'] at h0 h1; rw [h0] at h1; cases h1
        · simp [Array.getElem?_eq_none h'] at h1
      have h2 := qOp_put hoj (hfree j oj hoj hji hjun hnot) (fun cs b => hsel i oi cs b hi) (fun cs b => hsel j oj cs b hoj) hy h1
      have hfree' : ∀ k ok, ops[k]? = some ok → k ≠ i → (listed.setIfInBounds j true).getD k true = false →
          (∀ e ∈ ok.after, Region.binds md e = true → e.on ≠ i) → oi.apart ops ok = true := fun k ok hk hki hun hno => by
        refine hfree k ok hk hki ?_ hno
        by_cases hjk : j = k
        · subst hjk; exact hjun
        · rw [getD_set_ne true hjk] at hun; exact hun
      refine qOp_mono (fun a' h3 => ih (listed.setIfInBounds j true) a' (closed_set hc hj) hfree' (ready_mono hr (Ne.symm hji)) h3.1 ?_) h2
      rw [Array.setIfInBounds_comm _ _ hji]
      exact h3.2
def lexL (md : Region.Mode) (ops : Array Oper) (n : Nat) : Nat → Nat → Array Bool → Bool
  | 0, k, listed => Region.ready md ops listed == [n] && Region.ready md ops (listed.setIfInBounds n true) == []
  | fuel + 1, k, listed => (Region.ready md ops listed).contains k && Region.free md ops listed k && lexL md ops n fuel (k + 1) (listed.setIfInBounds k true)
theorem wpAnyL_lex {T : Act → Prop} {n : Nat} (hB : lastB md ops n = true) (hs : Region.noSelect ops = true) : ∀ (l : List Oper) (k : Nat) (listed : Array Bool) (a : Act), k + l.length = n → Closed md ops listed → (∀ j, j < l.length → l[j]? = ops[k + j]?) →
    lexL md ops n l.length k listed = true → wpQuiet P ops C T l a → wpAnyL P md ops C T n l.length listed a
  | [], _, _, _, _, _, _, hL, h => by
    simp only [List.length_nil, lexL, Bool.and_eq_true, beq_iff_eq] at hL
    exact ⟨hL.1, hL.2, h⟩
  | o :: l, k, listed, a, hn, hc, hl, hL, h => by
    have h0 : ops[k]? = some o := by simpa using (hl 0 (by simp)).symm
    simp only [List.length_cons, lexL, Bool.and_eq_true] at hL
    obtain ⟨⟨hr, hf⟩, hL'⟩ := hL
    have hr' : k ∈ Region.ready md ops listed := by simpa using hr
    have hst : qOp P ops C k (wpQuiet P ops C T l) a := by unfold qOp; simp only [h0]; exact h
    obtain ⟨v, hy, hK⟩ := yieldsIn_of_qOp h0 hst
    simp only [List.length_cons] at hn
    exact wpAnyL_first hB (by omega) h0 (Region.noSelect_spec hs) l.length listed a hc (Region.free_spec h0 hf) hr' hy
      (wpAnyL_lex hB hs l (k + 1) _ _ (by omega) (closed_set hc hr') (fun j hj => by have := hl (j + 1) (by simp; omega); simpa [Nat.add_assoc, Nat.add_comm 1 j] using this) hL' hK)
theorem closed_zero (n : Nat) : Closed md ops (Array.replicate n false) := by
  intro j hj
  rcases Nat.lt_or_ge j n with h | h
  · simp [h] at hj
  · simp [Array.getElem?_eq_none (show (Array.replicate n false).size ≤ j by simp; omega)] at hj
/-- the region: all but the last in the order of the text, then the last -/
theorem region_last {id : Nat} {Q : Exit → Act → World → Prop} {a : Act} {w : World} {l : List Oper} {o : Oper} (hm : P.follows .mixedOrders = true)
    (hs : Region.noSelect (l ++ [o]).toArray = true) (hB : lastB .any (l ++ [o]).toArray l.length = true) (hL : lexL .any (l ++ [o]).toArray l.length l.length 0 (Array.replicate (l.length + 1) false) = true) (hg : o.guard = none)
    (hC : C w.drew) (h : wpQuiet P (l ++ [o]).toArray C (fun a' => ∀ y, C y → o.wp P a' y (fun a'' y' => Q .normal a'' y') Q) l a) : (Code.region id (l ++ [o]).toArray true).wp P Q a w := by
  refine wp_region_any hm ?_
  have hsz : (l ++ [o]).toArray.size = l.length + 1 := by simp
  rw [hsz]
  refine wpAny_of_last (C := C) (T := fun a' => ∀ y, C y → o.wp P a' y (fun a'' y' => Q .normal a'' y') Q) (n := l.length) ?_ l.length _ a _ hC ?_
  · intro a' y hy hT
    unfold wpOp
    rw [show (l ++ [o]).toArray[l.length]? = some o by simp]
    simp only
    rw [if_pos (by simp [Region.wanted, hg])]
    exact .inl (hT y hy)
  · exact wpAnyL_lex hB hs l 0 _ a (by simp) (closed_zero _) (fun j hj => by rw [Nat.zero_add, List.getElem?_toArray, List.getElem?_append_left hj]) hL h
theorem region_lastL {id : Nat} {Q : Exit → Act → World → Prop} {a : Act} {w : World} {L : List Oper} {o : Oper} (hm : P.follows .mixedOrders = true) (hlast : L = L.dropLast ++ [o])
    (hs : Region.noSelect L.toArray = true) (hB : lastB .any L.toArray L.dropLast.length = true) (hL : lexL .any L.toArray L.dropLast.length L.dropLast.length 0 (Array.replicate (L.dropLast.length + 1) false) = true) (hg : o.guard = none)
    (hC : C w.drew) (h : wpQuiet P L.toArray C (fun a' => ∀ y, C y → o.wp P a' y (fun a'' y' => Q .normal a'' y') Q) L.dropLast a) : (Code.region id L.toArray true).wp P Q a w := by
  generalize L.dropLast = l at *
  subst hlast
  exact region_last hm hs hB hL hg hC h
def wpAnyM (P : Program) (md : Region.Mode) (ops : Array Oper) (C : World → Prop) (T : Act → Prop) (n : Nat) : Nat → Array Bool → Act → Prop
  | 0, listed, a => Region.ready md ops listed = [n] ∧ (Region.ready md ops (listed.setIfInBounds n true) = [n + 1] ∧ Region.ready md ops ((listed.setIfInBounds n true).setIfInBounds (n + 1) true) = []) ∧ T a
  | fuel + 1, listed, a => Region.ready md ops listed ≠ [] ∧ ∀ i ∈ Region.ready md ops listed, qOp P ops C i (wpAnyM P md ops C T n fuel (listed.setIfInBounds i true)) a
theorem wpAny_of_last2 {T : Act → Prop} {n : Nat} {Q' : Exit → Act → World → Prop} (hT : ∀ a w, C w → T a → wpOp P ops Q' n (fun a' w' => wpOp P ops Q' (n + 1) (fun a'' w'' => Q' .normal a'' w'') a' w') a w) : ∀ (fuel : Nat) (listed : Array Bool) (a : Act) (w : World), C w →
    wpAnyM P md ops C T n fuel listed a → wpAny P md ops Q' (fuel + 2) listed a w
  | 0, listed, a, w, hw, h => ⟨fun h0 => by rw [h.1] at h0; simp at h0, fun i hi => by
      rw [h.1] at hi
      have : i = n := by simpa using hi
      subst this
      refine wpOp_mono (fun a' w' hq => ?_) (hT a w hw h.2.2)
      refine ⟨fun h0 => by rw [h.2.1.1] at h0; simp at h0, fun k hk => ?_⟩
      rw [h.2.1.1] at hk
      have : k = i + 1 := by simpa using hk
      subst this
      exact wpOp_mono (fun a' w' hq => ⟨h.2.1.2, hq⟩) hq⟩
  | fuel + 1, listed, a, w, hw, h => ⟨fun h0 => absurd h0 h.1, fun i hi => wpOp_of_qOp hw (fun a' w' hw' => wpAny_of_last2 hT fuel _ a' w' hw') (h.2 i hi)⟩
theorem wpAnyM_first {T : Act → Prop} {n i : Nat} {oi : Oper} {v : Value} (hB : lastB md ops n = true) (hin : i < n) (hi : ops[i]? = some oi) (hsel : ∀ (j : Nat) (o : Oper) cs b, ops[j]? = some o → o.op ≠ .select cs b) :
    ∀ (fuel : Nat) (listed : Array Bool) (a : Act), Closed md ops listed →
      (∀ j oj, ops[j]? = some oj → j ≠ i → listed.getD j true = false → (∀ e ∈ oj.after, Region.binds md e = true → e.on ≠ i) → oi.apart ops oj = true) →
      i ∈ Region.ready md ops listed → YieldsIn P ops C oi v a →
      wpAnyM P md ops C T n fuel (listed.setIfInBounds i true) (a.put oi.dst v) → wpAnyM P md ops C T n (fuel + 1) listed a := by
  intro fuel
  induction fuel with
  | zero =>
    intro listed a hc _ hr hy H
    refine ⟨fun h => (by rw [h] at hr; cases hr), fun j hj => ?_⟩
    by_cases hji : j = i
    · subst hji; exact hy.qOp hi H
    · have h2 := ready_mono hj hji
      rw [H.1] at h2
      have : j = n := by simpa using h2
      subst this
      have h3 := last_all hB hc hj i hin
      have h4 := (mem_ready.1 hr).1
      rcases Nat.lt_or_ge i listed.size with h' | h'
      · simp [h'] at h3 h4; rw [h3] at h4; cases h4
      · simp [Array.getElem?_eq_none h'] at h3
  | succ fuel ih =>
    intro listed a hc hfree hr hy H
    refine ⟨fun h => (by rw [h] at hr; cases hr), fun j hj => ?_⟩
    by_cases hji : j = i
    · subst hji; exact hy.qOp hi H
    · have h1 := H.2 j (ready_mono hj hji)
      obtain ⟨hjun, oj, hoj, hall⟩ := mem_ready.1 hj
      have hnot : ∀ e ∈ oj.after, Region.binds md e = true → e.on ≠ i := fun e he hb heq => by
        have h1 := hall e he hb
        have h0 := (mem_ready.1 hr).1
        rw [heq] at h1
        rcases Nat.lt_or_ge i listed.size with h' | h'
        · simp [h'] at h0 h1; rw [h0] at h1; cases h1
        · simp [Array.getElem?_eq_none h'] at h1
      have h2 := qOp_put hoj (hfree j oj hoj hji hjun hnot) (fun cs b => hsel i oi cs b hi) (fun cs b => hsel j oj cs b hoj) hy h1
      have hfree' : ∀ k ok, ops[k]? = some ok → k ≠ i → (listed.setIfInBounds j true).getD k true = false →
          (∀ e ∈ ok.after, Region.binds md e = true → e.on ≠ i) → oi.apart ops ok = true := fun k ok hk hki hun hno => by
        refine hfree k ok hk hki ?_ hno
        by_cases hjk : j = k
        · subst hjk; exact hjun
        · rw [getD_set_ne true hjk] at hun; exact hun
      refine qOp_mono (fun a' h3 => ih (listed.setIfInBounds j true) a' (closed_set hc hj) hfree' (ready_mono hr (Ne.symm hji)) h3.1 ?_) h2
      rw [Array.setIfInBounds_comm _ _ hji]
      exact h3.2
def lexM (md : Region.Mode) (ops : Array Oper) (n : Nat) : Nat → Nat → Array Bool → Bool
  | 0, k, listed => Region.ready md ops listed == [n] && (Region.ready md ops (listed.setIfInBounds n true) == [n + 1] && Region.ready md ops ((listed.setIfInBounds n true).setIfInBounds (n + 1) true) == [])
  | fuel + 1, k, listed => (Region.ready md ops listed).contains k && Region.free md ops listed k && lexM md ops n fuel (k + 1) (listed.setIfInBounds k true)
theorem wpAnyM_lex {T : Act → Prop} {n : Nat} (hB : lastB md ops n = true) (hs : Region.noSelect ops = true) : ∀ (l : List Oper) (k : Nat) (listed : Array Bool) (a : Act), k + l.length = n → Closed md ops listed → (∀ j, j < l.length → l[j]? = ops[k + j]?) →
    lexM md ops n l.length k listed = true → wpQuiet P ops C T l a → wpAnyM P md ops C T n l.length listed a
  | [], _, _, _, _, _, _, hL, h => by
    simp only [List.length_nil, lexM, Bool.and_eq_true, beq_iff_eq] at hL
    exact ⟨hL.1, hL.2, h⟩
  | o :: l, k, listed, a, hn, hc, hl, hL, h => by
    have h0 : ops[k]? = some o := by simpa using (hl 0 (by simp)).symm
    simp only [List.length_cons, lexM, Bool.and_eq_true] at hL
    obtain ⟨⟨hr, hf⟩, hL'⟩ := hL
    have hr' : k ∈ Region.ready md ops listed := by simpa using hr
    have hst : qOp P ops C k (wpQuiet P ops C T l) a := by unfold qOp; simp only [h0]; exact h
    obtain ⟨v, hy, hK⟩ := yieldsIn_of_qOp h0 hst
    simp only [List.length_cons] at hn
    exact wpAnyM_first hB (by omega) h0 (Region.noSelect_spec hs) l.length listed a hc (Region.free_spec h0 hf) hr' hy
      (wpAnyM_lex hB hs l (k + 1) _ _ (by omega) (closed_set hc hr') (fun j hj => by have := hl (j + 1) (by simp; omega); simpa [Nat.add_assoc, Nat.add_comm 1 j] using this) hL' hK)
/-- the region: all but the last two in the order of the text, then these -/
theorem region_two {id : Nat} {Q : Exit → Act → World → Prop} {a : Act} {w : World} {l : List Oper} {o o2 : Oper} (hm : P.follows .mixedOrders = true)
    (hs : Region.noSelect (l ++ [o, o2]).toArray = true) (hB : lastB .any (l ++ [o, o2]).toArray l.length = true) (hL : lexM .any (l ++ [o, o2]).toArray l.length l.length 0 (Array.replicate (l.length + 2) false) = true) (hg : o.guard = none) (hg2 : o2.guard = none)
    (hC : C w.drew) (h : wpQuiet P (l ++ [o, o2]).toArray C (fun a' => ∀ y, C y → o.wp P a' y (fun a'' y' => o2.wp P a'' y' (fun a3 y3 => Q .normal a3 y3) Q) Q) l a) : (Code.region id (l ++ [o, o2]).toArray true).wp P Q a w := by
  refine wp_region_any hm ?_
  have hsz : (l ++ [o, o2]).toArray.size = l.length + 2 := by simp
  rw [hsz]
  refine wpAny_of_last2 (C := C) (T := fun a' => ∀ y, C y → o.wp P a' y (fun a'' y' => o2.wp P a'' y' (fun a3 y3 => Q .normal a3 y3) Q) Q) (n := l.length) ?_ l.length _ a _ hC ?_
  · intro a' y hy hT
    unfold wpOp
    rw [show (l ++ [o, o2]).toArray[l.length]? = some o by simp, show (l ++ [o, o2]).toArray[l.length + 1]? = some o2 by simp]
    simp only
    rw [if_pos (by simp [Region.wanted, hg])]
    refine .inl (Oper.wp_mono (fun a'' y' hq => ?_) (hT y hy))
    rw [if_pos (by simp [Region.wanted, hg2])]
    exact .inl hq
  · exact wpAnyM_lex hB hs l 0 _ a (by simp) (closed_zero _) (fun j hj => by rw [Nat.zero_add, List.getElem?_toArray, List.getElem?_append_left hj]) hL h
theorem region_twoL {id : Nat} {Q : Exit → Act → World → Prop} {a : Act} {w : World} {L : List Oper} {o o2 : Oper} (hm : P.follows .mixedOrders = true) (hlast : L = L.dropLast.dropLast ++ [o, o2])
    (hs : Region.noSelect L.toArray = true) (hB : lastB .any L.toArray L.dropLast.dropLast.length = true) (hL : lexM .any L.toArray L.dropLast.dropLast.length L.dropLast.dropLast.length 0 (Array.replicate (L.dropLast.dropLast.length + 2) false) = true) (hg : o.guard = none) (hg2 : o2.guard = none)
    (hC : C w.drew) (h : wpQuiet P L.toArray C (fun a' => ∀ y, C y → o.wp P a' y (fun a'' y' => o2.wp P a'' y' (fun a3 y3 => Q .normal a3 y3) Q) Q) L.dropLast.dropLast a) : (Code.region id L.toArray true).wp P Q a w := by
  generalize L.dropLast.dropLast = l at *
  subst hlast
  exact region_two hm hs hB hL hg hg2 hC h
/-- the worlds behind x: below its size as x is -/
def Cl (x : World) : World → Prop := fun y => Below x.heap.size x y
theorem region_cl {id : Nat} {Q : Exit → Act → World → Prop} {a : Act} {x : World} {l : List Oper} (hm : P.follows .mixedOrders = true) (hB : Region.lexB .any l.toArray = true)
    (h : wpQuiet P l.toArray (Cl x) (fun a' => ∀ y, Cl x y → Q .normal a' y) l a) : (Code.region id l.toArray true).wp P Q a x :=
  wp_region_quiet (C := Cl x) hm hB ((Below.refl _ _).drew : Below x.heap.size x x.drew) (by simpa using h)
theorem q_row {o : Oper} {a : Act} {x : World} {K : Act → Prop} (hw : Region.wanted o (yielded ops a.tmps) = true) (ty : TypeId) (xo : Operand) (ho : o.op = .load ty xo)
    (g : Nat) (hx : a.eval xo = .pointer (some ⟨g, 0, none⟩)) (t : TypeId) (cs : Array Value) (fr : Nat × Nat) (d : TypeDesc) (hg : x.heap[g]? = some (.cells cs t fr))
    (hu : P.underlying ty = some d) (hd : (match d with | .struct _ | .array _ _ => true | _ => false) = true) (hi : (P.info? ty).map (·.size) = some cs.size)
    (h : K (a.put o.dst (.agg cs))) : if Region.wanted o (yielded ops a.tmps) then o.quiet P a (Cl x) K else K (a.put o.dst undef) := by
  rw [if_pos hw]
  refine ⟨.agg cs, fun y hy => ?_, h⟩
  unfold Oper.quietAt execOp
  have hl := run_loadVar_row (P := P) y g t ty cs fr d (kept hy hg) hu hd hi
  simp only [ho, hx, Instr.loadAt, Instr.sureAddr, Sem.run_bind, Sem.run_pure, Result.andThen_ok, hl]
  exact ⟨rfl, rfl⟩
theorem q_cell {o : Oper} {a : Act} {x : World} {K : Act → Prop} (hw : Region.wanted o (yielded ops a.tmps) = true) (ty : TypeId) (xo : Operand) (ho : o.op = .load ty xo)
    (b k : Nat) (hx : a.eval xo = .pointer (some ⟨b, k, none⟩)) (v : Value) (hc : x.cell? ⟨b, k, none⟩ = some v) (hb : b < x.heap.size) (hag : ∀ y, (isAgg ty).run P y = .ok false y)
    (h : K (a.put o.dst v)) : if Region.wanted o (yielded ops a.tmps) then o.quiet P a (Cl x) K else K (a.put o.dst undef) := by
  rw [if_pos hw]
  refine ⟨v, fun y hy => ?_, h⟩
  unfold Oper.quietAt execOp
  have hy' : y.cell? ⟨b, k, none⟩ = some v := keepC hy hc hb
  simp [ho, hx, Instr.loadAt, Instr.sureAddr, loadVar, hag, hy', Oper.quietUpon]
theorem cl_of {f : FuncId} {args : Array Value} {x y : World} {v : Value} (hy : Cl x y) (h : Calls P f args y fun e y' => e = .returned v ∧ Below y.heap.size y y') :
    Calls P f args y fun e y' => e = .returned v ∧ Cl x y' := h.mono fun e y' hh => ⟨hh.1, keepB hy hh.2⟩
theorem cl_same {f : FuncId} {args : Array Value} {x y : World} {v : Value} (hy : Cl x y) (h : Calls P f args y fun e y' => e = .returned v ∧ y' = y) :
    Calls P f args y fun e y' => e = .returned v ∧ Cl x y' := h.mono fun e y' hh => ⟨hh.1, hh.2 ▸ hy⟩
end Go.Proofs.YtabmpngliphdpaaDoor.Ql
