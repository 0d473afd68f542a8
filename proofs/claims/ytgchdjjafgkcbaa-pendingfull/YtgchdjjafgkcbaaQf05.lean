import Derived.Test.YtgchdjjafgkcbaaQf04
import Derived.Test.YtgchdjjafgkcbaaQf03
import Derived.BigQuiet
/- Regions that draw their order: quiet operations, one that waits for them, quiet operations again. -/
namespace Go.Proofs.Ytgchdjjafgkcbaa.Qc
set_option linter.unusedVariables false
open Go.RowKit Kb Ql Qt
variable {P : Program} {ops : Array Oper} {md : Region.Mode} {C : World → Prop}
def wpAnyR (P : Program) (md : Region.Mode) (ops : Array Oper) (C : World → Prop) (T : Act → Prop) (n : Nat) (R : Array Bool → Prop) : Nat → Array Bool → Act → Prop
  | 0, listed, a => Region.ready md ops listed = [n] ∧ R listed ∧ T a
  | fuel + 1, listed, a => Region.ready md ops listed ≠ [] ∧ ∀ i ∈ Region.ready md ops listed, qOp P ops C i (wpAnyR P md ops C T n R fuel (listed.setIfInBounds i true)) a
theorem wpAny_of_one {Q : Exit → Act → World → Prop} {T : Act → Prop} {R : Array Bool → Prop} {n m : Nat} (hT : ∀ listed a w, R listed → C w → T a → wpOp P ops Q n (wpAny P md ops Q m (listed.setIfInBounds n true)) a w) : ∀ (fuel : Nat) (listed : Array Bool) (a : Act) (w : World), C w →
    wpAnyR P md ops C T n R fuel listed a → wpAny P md ops Q (fuel + (m + 1)) listed a w
  | 0, listed, a, w, hw, h => by
    rw [Nat.zero_add]
    refine ⟨fun h0 => by rw [h.1] at h0; simp at h0, fun i hi => ?_⟩
    rw [h.1] at hi
    have : i = n := by simpa using hi
    subst this
    exact hT listed a w h.2.1 hw h.2.2
  | fuel + 1, listed, a, w, hw, h => by
    rw [show fuel + 1 + (m + 1) = (fuel + (m + 1)) + 1 by omega]
    exact ⟨fun h0 => absurd h0 h.1, fun i hi => wpOp_of_qOp hw (fun a' w' hw' => wpAny_of_one hT fuel _ a' w' hw') (h.2 i hi)⟩
theorem wpAnyR_first {T : Act → Prop} {n i : Nat} {R : Array Bool → Prop} {oi : Oper} {v : Value} (hB : lastB md ops n = true) (hin : i < n) (hi : ops[i]? = some oi) (hsel : ∀ (j : Nat) (o : Oper) cs b, ops[j]? = some o → o.op ≠ .select cs b) :
    ∀ (fuel : Nat) (listed : Array Bool) (a : Act), Closed md ops listed →
      (∀ j oj, ops[j]? = some oj → j ≠ i → listed.getD j true = false → (∀ e ∈ oj.after, Region.binds md e = true → e.on ≠ i) → oi.apart ops oj = true) →
      i ∈ Region.ready md ops listed → YieldsIn P ops C oi v a →
      wpAnyR P md ops C T n R fuel (listed.setIfInBounds i true) (a.put oi.dst v) → wpAnyR P md ops C T n R (fuel + 1) listed a := by
  intro fuel
  induction fuel with
  | zero =>
    intro listed a hc _ hr hy H
    refine ⟨fun h => (by rw [h] at hr; cases hr), fun j hj => ?_⟩
    by_cases hji : j = i
    · subst hji; exact hy.qOp hi H
    · have h2 := ready_mono hj hji
      have H1 := H.1
      rw [H1] at h2
      have : j = n := by simpa using h2
      subst this
      have h3 := last_all hB hc hj i hin
      have h4 := (mem_ready.1 hr).1
      rcases Nat.lt_or_ge i listed.size with h' | h'
      · simp [h'] at h3 h4; rw [h3] at h4; cases h4
      · simp [Array.getElem?_eq_none h'] at h3
  | succ fuel ih =>
    intro listed a hc hfree hr hy H
    refine ⟨fun h => (by rw [h] at hr; cases hr), fun j hj => ?_⟩
    by_cases hji : j = i
    · subst hji; exact hy.qOp hi H
    · have h1 := H.2 j (ready_mono hj hji)
      obtain ⟨hjun, oj, hoj, hall⟩ := mem_ready.1 hj
      have hnot : ∀ e ∈ oj.after, Region.binds md e = true → e.on ≠ i := fun e he hb heq => by
        have h1 := hall e he hb
        have h0 := (mem_ready.1 hr).1
        rw [heq] at h1
        rcases Nat.lt_or_ge i listed.size with h' | h'
        · simp [h'] at h0 h1; rw [h0] at h1; cases h1
        · simp [Array.getElem?_eq_none h'] at h1
      have h2 := qOp_put hoj (hfree j oj hoj hji hjun hnot) (fun cs b => hsel i oi cs b hi) (fun cs b => hsel j oj cs b hoj) hy h1
      have hfree' : ∀ k ok, ops[k]? = some ok → k ≠ i → (listed.setIfInBounds j true).getD k true = false →
          (∀ e ∈ ok.after, Region.binds md e = true → e.on ≠ i) → oi.apart ops ok = true := fun k ok hk hki hun hno => by
        refine hfree k ok hk hki ?_ hno
        by_cases hjk : j = k
        · subst hjk; exact hjun
        · rw [getD_set_ne true hjk] at hun; exact hun
      refine qOp_mono (fun a' h3 => ih (listed.setIfInBounds j true) a' (closed_set hc hj) hfree' (ready_mono hr (Ne.symm hji)) h3.1 ?_) h2
      rw [Array.setIfInBounds_comm _ _ hji]
      exact h3.2
def lexR (md : Region.Mode) (ops : Array Oper) (n : Nat) (Lst : Array Bool) : Nat → Nat → Array Bool → Bool
  | 0, k, listed => Region.ready md ops listed == [n] && listed == Lst
  | fuel + 1, k, listed => (Region.ready md ops listed).contains k && Region.free md ops listed k && lexR md ops n Lst fuel (k + 1) (listed.setIfInBounds k true)
theorem wpAnyR_lex {T : Act → Prop} {n : Nat} {Lst : Array Bool} (hB : lastB md ops n = true) (hs : Region.noSelect ops = true) : ∀ (l : List Oper) (k : Nat) (listed : Array Bool) (a : Act), k + l.length = n → Closed md ops listed → (∀ j, j < l.length → l[j]? = ops[k + j]?) →
    lexR md ops n Lst l.length k listed = true → wpQuiet P ops C T l a → wpAnyR P md ops C T n (fun l => l = Lst) l.length listed a
  | [], _, _, _, _, _, _, hL, h => by
    simp only [List.length_nil, lexR, Bool.and_eq_true, beq_iff_eq] at hL
    exact ⟨hL.1, hL.2, h⟩
  | o :: l, k, listed, a, hn, hc, hl, hL, h => by
    have h0 : ops[k]? = some o := by simpa using (hl 0 (by simp)).symm
    simp only [List.length_cons, lexR, Bool.and_eq_true] at hL
    obtain ⟨⟨hr, hf⟩, hL'⟩ := hL
    have hr' : k ∈ Region.ready md ops listed := by simpa using hr
    have hst : qOp P ops C k (wpQuiet P ops C T l) a := by unfold qOp; simp only [h0]; exact h
    obtain ⟨v, hy, hK⟩ := yieldsIn_of_qOp h0 hst
    simp only [List.length_cons] at hn
    exact wpAnyR_first hB (by omega) h0 (Region.noSelect_spec hs) l.length listed a hc (Region.free_spec h0 hf) hr' hy
      (wpAnyR_lex hB hs l (k + 1) _ _ (by omega) (closed_set hc hr') (fun j hj => by have := hl (j + 1) (by simp; omega); simpa [Nat.add_assoc, Nat.add_comm 1 j] using this) hL' hK)
theorem wp_then {o : Oper} {a : Act} {w : World} {K K2 : Act → World → Prop} {Q : Exit → Act → World → Prop} (h : o.wp P a w K (Exit.then K2 Q)) : o.wp P a w K Q := by
  unfold Oper.wp at *
  generalize (execOp a.eval o).run P w = r at *
  cases r with
  | ok n w' => cases n <;> exact h
  | _ => exact h
/-- the listing is closed -/
def closedB (md : Region.Mode) (ops : Array Oper) (listed : Array Bool) : Bool := (List.range listed.size).all fun j => !(listed.getD j false) || (deps md ops j).all fun d => listed.getD d false
theorem closed_of {listed : Array Bool} (h : closedB md ops listed = true) : Closed md ops listed := by
  intro j hj d hd
  have hlt : j < listed.size := by
    rcases Nat.lt_or_ge j listed.size with h | h
    · exact h
    · simp [Array.getElem?_eq_none h] at hj
  have := List.all_eq_true.1 h j (List.mem_range.2 hlt)
  rw [hj] at this
  simp only [Bool.not_true, Bool.false_or] at this
  exact List.all_eq_true.1 this d hd
/-- n quiet operations, the one at n, m quiet operations, the last -/
theorem region_call (n m : Nat) {id : Nat} {Q : Exit → Act → World → Prop} {a : Act} {w : World} {L : List Oper} {o ol : Oper} (Lst : Array Bool) (hm : P.follows .mixedOrders = true) (hlen : L.length = n + (m + 1 + 1)) (ho : L[n]? = some o) (hol : L[n + 1 + m]? = some ol) (hg : o.guard = none) (hgl : ol.guard = none)
    (hs : Region.noSelect L.toArray = true) (hB : lastB .any L.toArray n = true) (hL : lexR .any L.toArray n Lst n 0 (Array.replicate (n + (m + 1 + 1)) false) = true)
    (hB2 : lastB .any L.toArray (n + 1 + m) = true) (hc2 : closedB .any L.toArray (Lst.setIfInBounds n true) = true) (hL2 : lexL .any L.toArray (n + 1 + m) m (n + 1) (Lst.setIfInBounds n true) = true)
    (hC : C w.drew) (h : wpQuiet P L.toArray C (fun a' => ∀ y, C y → wpList P L.toArray (Exit.then (fun a1 w1 => wpQuiet P L.toArray (fun y => y = w1) (fun a2 => wpList P L.toArray Q [ol] a2 w1) ((L.drop (n + 1)).take m) a1) Q) [o] a' y) (L.take n) a) : (Code.region id L.toArray true).wp P Q a w := by
  refine wp_region_any hm ?_
  have hsz : L.toArray.size = n + (m + 1 + 1) := by simpa using hlen
  rw [hsz]
  have hl : (L.take n).length = n := by rw [List.length_take]; omega
  have hl2 : ((L.drop (n + 1)).take m).length = m := by rw [List.length_take, List.length_drop]; omega
  refine wpAny_of_one (C := C) (R := fun l => l = Lst) (n := n) (m := m + 1) (T := fun a' => ∀ y, C y → wpList P L.toArray (Exit.then (fun a1 w1 => wpQuiet P L.toArray (fun y => y = w1) (fun a2 => wpList P L.toArray Q [ol] a2 w1) ((L.drop (n + 1)).take m) a1) Q) [o] a' y) ?_ n _ a _ hC ?_
  · rintro listed a' y rfl hy hT
    have h1 := hT y hy
    unfold wpList at h1
    have hw : Region.wanted o (yielded L.toArray a'.tmps) = true := by simp [Region.wanted, hg]
    rw [if_pos hw] at h1
    have h2 : wpOp P L.toArray Q n (fun a1 w1 => wpQuiet P L.toArray (fun y => y = w1) (fun a2 => wpList P L.toArray Q [ol] a2 w1) ((L.drop (n + 1)).take m) a1) a' y := by
      unfold wpOp
      rw [show L.toArray[n]? = some o by simpa using ho]
      simp only
      rw [if_pos hw]
      rcases h1 with h1 | ⟨h1, h3⟩
      · exact .inl (wp_then h1)
      · exact .inr ⟨h1, h3⟩
    refine wpOp_mono (fun a1 w1 hq => ?_) h2
    refine wpAny_of_last (C := fun y => y = w1) (T := fun a2 => wpList P L.toArray Q [ol] a2 w1) (n := n + 1 + m) ?_ m _ a1 w1 rfl ?_
    · rintro a2 _ rfl hT2
      unfold wpOp
      rw [show L.toArray[n + 1 + m]? = some ol by simpa using hol]
      exact hT2
    · have := wpAnyL_lex (P := P) (C := fun y => y = w1) (T := fun a2 => wpList P L.toArray Q [ol] a2 w1) hB2 hs ((L.drop (n + 1)).take m) (n + 1) (listed.setIfInBounds n true) a1 (by rw [hl2]) (closed_of hc2)
        (fun j hj => by rw [hl2] at hj; rw [List.getElem?_take, if_pos hj, List.getElem?_drop, List.getElem?_toArray]) (by rw [hl2]; exact hL2) hq
      rwa [hl2] at this
  · have := wpAnyR_lex (P := P) (C := C) (Lst := Lst) (T := fun a' => ∀ y, C y → wpList P L.toArray (Exit.then (fun a1 w1 => wpQuiet P L.toArray (fun y => y = w1) (fun a2 => wpList P L.toArray Q [ol] a2 w1) ((L.drop (n + 1)).take m) a1) Q) [o] a' y) hB hs (L.take n) 0 (Array.replicate (n + (m + 1 + 1)) false) a (by rw [hl, Nat.zero_add]) (closed_zero _)
      (fun j hj => by rw [Nat.zero_add, List.getElem?_toArray, List.getElem?_take, if_pos (by omega)]) (by rw [hl]; exact hL) h
    rwa [hl] at this
end Go.Proofs.Ytgchdjjafgkcbaa.Qc
/- Fields without kids: rows of them; soundFields. -/
namespace Go.Proofs.Ytgchdjjafgkcbaa.Za
set_option linter.unusedVariables false
set_option linter.unusedSimpArgs false
open Go.RowKit Lib0 Kb Xp Ic Ix If Ig
abbrev tF : TypeId := 82
abbrev Fl := Int × ByteArray
def fv (x : Fl) : Value := .agg #[.int .i64 x.1, .string x.2, .slice none 0 0]
def fc (L : List Fl) : List Value := L.flatMap fun x => [.int .i64 x.1, .string x.2, .slice none 0 0]
theorem fc_cons (x : Fl) (L : List Fl) : fc (x :: L) = .int .i64 x.1 :: .string x.2 :: .slice none 0 0 :: fc L := by simp [fc]
theorem fc_len : ∀ L : List Fl, (fc L).length = L.length * 3
  | [] => rfl
  | x :: L => by
    have := fc_len L
    rw [fc_cons]
    simp only [List.length_cons, this]
    omega
theorem fc_append (L M : List Fl) : fc (L ++ M) = fc L ++ fc M := by simp [fc]
theorem fc_at : ∀ (L : List Fl) (i : Nat) (h : i < L.length), (fc L)[i * 3]? = some (.int .i64 L[i].1) ∧ (fc L)[i * 3 + 1]? = some (.string L[i].2) ∧ (fc L)[i * 3 + 2]? = some (.slice none 0 0)
  | [], i, h => by simp at h
  | x :: L, 0, h => by simp [fc]
  | x :: L, i + 1, h => by
    have := fc_at L i (by simpa using h)
    rw [fc_cons, show (i + 1) * 3 = i * 3 + 1 + 1 + 1 by omega, show i * 3 + 1 + 1 + 1 + 1 = (i * 3 + 1) + 1 + 1 + 1 by omega, show i * 3 + 1 + 1 + 1 + 2 = (i * 3 + 2) + 1 + 1 + 1 by omega]
    simpa using this
theorem fc_one (L : List Fl) : ∀ u ∈ fc L, u.oneCell' = true := by
  intro u hu
  simp only [fc, List.mem_flatMap] at hu
  obtain ⟨x, hx, hu⟩ := hu
  simp at hu
  rcases hu with rfl | rfl | rfl <;> simp [Value.oneCell']
/-- a row of fields that can be read -/
def RowF (w : World) (v : Value) (L : List Fl) : Prop :=
  ∃ (o : Option Addr) (cap : Nat), v = .slice o L.length cap ∧ ∀ i (h : i < L.length), ∃ a : Addr, o = some a ∧ w.cell? (a.add (i * 3)) = some (.int .i64 L[i].1) ∧ w.cell? ⟨(a.add (i * 3)).block, (a.add (i * 3)).off + 1, none⟩ = some (.string L[i].2) ∧ w.cell? ⟨(a.add (i * 3)).block, (a.add (i * 3)).off + 2, none⟩ = some (.slice none 0 0)
theorem rowf_own {w : World} {base : Nat} {t : TypeId} {v : Value} {L : List Fl} (h : w.ownsRow base t 3 v L.length (fc L)) : RowF w v L := by
  rcases h.2 with ⟨rfl, h0⟩ | ⟨g, cap, cur, rfl, r⟩
  · have e : L = [] := List.eq_nil_of_length_eq_zero h0
    subst e
    exact ⟨none, 0, rfl, fun i hi => by simp at hi⟩
  · refine ⟨some ⟨g, 0, none⟩, cap, rfl, fun i hi => ⟨⟨g, 0, none⟩, rfl, h.cells (g := g) rfl _ _ (fc_at L i hi).1, ?_, ?_⟩⟩
    · have := h.cells (g := g) rfl _ _ (fc_at L i hi).2.1
      rwa [add_field _ _ _ (by decide)] at this
    · have := h.cells (g := g) rfl _ _ (fc_at L i hi).2.2
      rwa [add_field _ _ _ (by decide)] at this
theorem rowf_below {w x : World} {v : Value} {L : List Fl} (h : RowF w v L) (k : Below w.heap.size w x) : RowF x v L := by
  obtain ⟨o, cap, e, hc⟩ := h
  refine ⟨o, cap, e, fun i hi => ?_⟩
  obtain ⟨a, ea, c0, c1, c2⟩ := hc i hi
  have kk : ∀ p u, w.cell? p = some u → x.cell? p = some u := fun p u hp => (k.cell (World.block_lt_of_cell? w _ hp)).trans hp
  exact ⟨a, ea, kk _ _ c0, kk _ _ c1, kk _ _ c2⟩
theorem rowf_nil (w : World) : RowF w (.slice none 0 0) [] := ⟨none, 0, rfl, fun i hi => by simp at hi⟩
/-- fields that may be: numbers and texts of a machine -/
structure Fo (L : List Fl) : Prop where
  len : L.length ≤ 100000
  num : ∀ x ∈ L, -9223372036854775808 ≤ x.1 ∧ x.1 ≤ 9223372036854775807
  str : ∀ x ∈ L, x.2.size ≤ 1000000
end Go.Proofs.Ytgchdjjafgkcbaa.Za
