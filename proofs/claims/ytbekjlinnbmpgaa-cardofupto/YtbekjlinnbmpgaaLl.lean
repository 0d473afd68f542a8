/- A list of fields out of a tree; what Number and Expiry hang on. -/
import Derived.Test.YtbekjlinnbmpgaaCp
namespace Go.Proofs.Ytbekjlinnbmpgaa.Ll
open Go.RowKit Lib0 Kp Kb Kd Kt Ks Kw Ku Kx Fs Nd
open Go.Proofs.Ytbekjlinnbmpgaa.Fn (numR expR tkS)
def tv : Tr → Int × ByteArray
  | .mk t v _ => (t, v)
def keys (z : List Fv) : List (Int × ByteArray) := z.map fun f => (f.num, f.val)
def lookK : List (Int × ByteArray) → Int → ByteArray × Bool
  | [], _ => (⟨#[]⟩, false)
  | f :: z, n => if f.1 == n then (f.2, true) else lookK z n
theorem lookF_keys : ∀ (z : List Fv) (n : Int), lookF z n = lookK (keys z) n
  | [], _ => rfl
  | f :: z, n => by
    have := lookF_keys z n
    unfold lookF
    rw [this]
    rfl
theorem numR_keys {z z' : List Fv} (h : keys z = keys z') : numR z = numR z' := by
  simp only [numR, tkS, lookF_keys, h]
theorem expR_keys {z z' : List Fv} (h : keys z = keys z') : expR z = expR z' := by
  simp only [expR, tkS, lookF_keys, h]
theorem laid_list {w : World} {a : Addr} : ∀ (ts : List Tr) (i : Nat), laid w a i ts → ∃ z : List Fv, z.length = ts.length ∧ (∀ j (h : j < z.length), At w a (i + j) z[j] ∧ z[j].val.size ≤ 4194304) ∧ keys z = ts.map tv
  | [], _, _ => ⟨[], rfl, fun j h => by simp at h, rfl⟩
  | .mk tag val kids :: ts, i, h => by
    unfold laid at h
    obtain ⟨⟨o, cap, h0, h1, h2, h3, h4, h5⟩, ht⟩ := h
    obtain ⟨z, e, hz, hk⟩ := laid_list ts (i + 1) ht
    refine ⟨⟨tag, val, o, kids.length, cap⟩ :: z, by simp [e], fun j hj => ?_, by simp only [keys, List.map_cons, tv] at hk ⊢; rw [hk]⟩
    cases j with
    | zero => exact ⟨⟨h0, h1, h2⟩, h3⟩
    | succ j =>
      have := hz j (by simpa using hj)
      rw [show i + 1 + j = i + (j + 1) by omega] at this
      exact this
theorem lien_lies {w : World} {v : Value} {ts : List Tr} (h : Lien w v ts) : ∃ z : List Fv, Lies w v z ∧ z.length ≤ 1048576 ∧ keys z = ts.map tv := by
  obtain ⟨o, cap, e, hl, hc⟩ := h
  by_cases h0 : ts = []
  · subst h0
    exact ⟨[], ⟨o, cap, e, fun i h => by simp at h⟩, by simp, rfl⟩
  · obtain ⟨a, ea, h1⟩ := hc h0
    obtain ⟨z, ez, hz, hk⟩ := laid_list ts 0 h1
    refine ⟨z, ⟨o, cap, by rw [ez]; exact e, fun i hi => ?_⟩, by rw [ez]; exact hl, hk⟩
    have := hz i hi
    rw [Nat.zero_add] at this
    exact ⟨a, ea, this⟩
/-- no value and no list of kids is too long -/
def slim : List Tr → Prop
  | [] => True
  | .mk _ val kids :: ts => val.size ≤ 4194304 ∧ kids.length ≤ 1048576 ∧ slim kids ∧ slim ts
theorem laid_slim {w : World} : ∀ (a : Addr) (i : Nat) (ts : List Tr), laid w a i ts → slim ts
  | _, _, [], _ => by unfold slim; trivial
  | a, i, .mk tag val kids :: ts, h => by
    unfold laid at h
    unfold slim
    obtain ⟨⟨o, cap, h0, h1, h2, h3, h4, h5⟩, ht⟩ := h
    refine ⟨h3, h4, ?_, laid_slim a (i + 1) ts ht⟩
    by_cases hk : kids = []
    · rw [hk]; unfold slim; trivial
    · obtain ⟨b, _, hl⟩ := h5 hk
      exact laid_slim b 0 kids hl
theorem add_three (g i : Nat) : (⟨g, 0, none⟩ : Addr).add (i * 3) = ⟨g, 3 * i, none⟩ := by
  simp [Addr.add, Nat.mul_comm]
  intro h
  exact h.symm
/-- lent nodes are nodes -/
theorem lent_laid {w : World} {base : Nat} : ∀ (g i : Nat) (ts : List Tr), Nr.lentL w base g i ts → slim ts → laid w ⟨g, 0, none⟩ i ts
  | _, _, [], _, _ => by unfold laid; trivial
  | g, i, .mk tag val kids :: ts, h, hs => by
    unfold Nr.lentL at h
    unfold slim at hs
    unfold laid
    obtain ⟨⟨kg, h0, h1, h2, h3, h4, h5⟩, ht⟩ := h
    obtain ⟨s0, s1, s2, s3⟩ := hs
    rw [add_three]
    exact ⟨⟨some ⟨kg, 0, none⟩, kids.length + 5, h0, h1, h2, s0, s1, fun _ => ⟨⟨kg, 0, none⟩, rfl, lent_laid kg 0 kids h5 s2⟩⟩, lent_laid g (i + 1) ts ht s3⟩
theorem lent_lien {w : World} {base g : Nat} {ts : List Tr} (h : Nr.Lent w base g ts) (hs : slim ts) (hl : ts.length ≤ 1048576) : Lien w (.slice (some ⟨g, 0, none⟩) ts.length (ts.length + 5)) ts :=
  ⟨_, _, rfl, hl, fun _ => ⟨_, rfl, lent_laid g 0 ts h.2.2.2 hs⟩⟩
theorem lien_slim {w : World} {v : Value} {ts : List Tr} (h : Lien w v ts) : slim ts ∧ ts.length ≤ 1048576 := by
  obtain ⟨o, cap, e, hl, hc⟩ := h
  refine ⟨?_, hl⟩
  by_cases h0 : ts = []
  · rw [h0]; unfold slim; trivial
  · obtain ⟨a, _, h1⟩ := hc h0
    exact laid_slim a 0 ts h1
/-- the same tree with another value in the first k fields -/
def other (x : ByteArray) : Nat → List Tr → List Tr
  | 0, ts => ts
  | _ + 1, [] => []
  | k + 1, .mk tag _ kids :: ts => .mk tag x kids :: other x k ts
theorem other_slim {x : ByteArray} (hx : x.size ≤ 4194304) : ∀ (k : Nat) (ts : List Tr), slim ts → slim (other x k ts)
  | 0, _, h => h
  | _ + 1, [], h => h
  | k + 1, .mk tag val kids :: ts, h => by
    unfold other
    unfold slim at h ⊢
    exact ⟨hx, h.2.1, h.2.2.1, other_slim hx k ts h.2.2.2⟩
theorem other_length (x : ByteArray) : ∀ (k : Nat) (ts : List Tr), (other x k ts).length = ts.length
  | 0, _ => rfl
  | _ + 1, [] => rfl
  | k + 1, .mk _ _ _ :: ts => by unfold other; simp [other_length x k ts]
theorem other_next (x : ByteArray) : ∀ (k : Nat) (ts : List Tr) (i : Nat) (tag : Int) (val : ByteArray) (kids : List Tr), (other x k ts)[i]? = some (.mk tag val kids) → (other x (k + 1) ts)[i]? = some (if i = k then .mk tag x kids else .mk tag val kids)
  | 0, [], _, _, _, _, h => by simp [other] at h
  | 0, .mk t v ks :: ts, 0, _, _, _, h => by
    simp only [other, List.getElem?_cons_zero, Option.some.injEq, Tr.mk.injEq] at h
    obtain ⟨rfl, rfl, rfl⟩ := h
    rfl
  | 0, .mk t v ks :: ts, i + 1, _, _, _, h => by
    simp only [other, List.getElem?_cons_succ] at h ⊢
    rw [h]; simp
  | k + 1, [], _, _, _, _, h => by simp [other] at h
  | k + 1, .mk t v ks :: ts, 0, _, _, _, h => by
    simp only [other, List.getElem?_cons_zero] at h ⊢
    rw [h]; simp
  | k + 1, .mk t v ks :: ts, i + 1, tag, val, kids, h => by
    rw [other, List.getElem?_cons_succ] at h
    rw [other, List.getElem?_cons_succ, other_next x k ts i tag val kids h]
    simp
theorem row_val {C : Array Value} {n k : Nat} {f : Nat → Int × ByteArray × Value} (h : Nr.RowIs C n f) (hk : k < n) (x : ByteArray) : Nr.RowIs (C.setIfInBounds (3 * k + 1) (.string x)) n (Nr.updF f k ((f k).1, x, (f k).2.2)) := by
  refine ⟨by simpa using h.1, fun i hi => ?_⟩
  have hs := h.1
  have h0 := h.2 i hi
  unfold Nr.updF
  by_cases e : i = k
  · subst e
    rw [if_pos rfl]
    refine ⟨?_, ?_, ?_⟩
    · rw [Array.getElem?_setIfInBounds_ne (by omega)]; exact h0.1
    · rw [Array.getElem?_setIfInBounds_self_of_lt (by omega)]
    · rw [Array.getElem?_setIfInBounds_ne (by omega)]; exact h0.2.2
  · rw [if_neg e]
    refine ⟨?_, ?_, ?_⟩
    · rw [Array.getElem?_setIfInBounds_ne (by omega)]; exact h0.1
    · rw [Array.getElem?_setIfInBounds_ne (by omega)]; exact h0.2.1
    · rw [Array.getElem?_setIfInBounds_ne (by omega)]; exact h0.2.2
/-- the law's store: another value in field k -/
theorem filled_other {w : World} {base k m : Nat} {ts : List Tr} {x : ByteArray} {f : Nat → Int × ByteArray × Value} (hf : Nl.Filled w base (other x k ts) m f) (hk : k < ts.length) : Nl.Filled w base (other x (k + 1) ts) m (Nr.updF f k ((f k).1, x, (f k).2.2)) := fun i hi => by
  refine ⟨fun hl => ?_, fun hl => ?_⟩
  · have hl' : i < (other x k ts).length := by rw [other_length] at hl ⊢; exact hl
    obtain ⟨tag, val, kids, kg, e1, e2, e3⟩ := (hf i hi).1 hl'
    have h1 := other_next x k ts i tag val kids (by rw [List.getElem?_eq_getElem hl', e1])
    rw [List.getElem?_eq_getElem hl] at h1
    have h2 := Option.some.inj h1
    unfold Nr.updF
    by_cases e : i = k
    · subst e
      rw [if_pos rfl] at h2 ⊢
      exact ⟨tag, x, kids, kg, h2, by rw [e2], e3⟩
    · rw [if_neg e] at h2 ⊢
      exact ⟨tag, val, kids, kg, h2, e2, e3⟩
  · rw [other_length] at hl
    unfold Nr.updF
    rw [if_neg (by omega)]
    exact (hf i hi).2 (by rw [other_length]; exact hl)
theorem slim_at : ∀ (ts : List Tr) (i : Nat) (h : i < ts.length) {tag : Int} {val : ByteArray} {kids : List Tr}, slim ts → ts[i] = .mk tag val kids → val.size ≤ 4194304
  | [], _, h, _, _, _, _, _ => by simp at h
  | .mk t v ks :: ts, 0, _, _, _, _, hs, e => by
    unfold slim at hs
    simp only [List.getElem_cons_zero, Tr.mk.injEq] at e
    obtain ⟨_, rfl, _⟩ := e
    exact hs.1
  | .mk t v ks :: ts, i + 1, h, _, _, _, hs, e => by
    unfold slim at hs
    exact slim_at ts i (by simpa using h) hs.2.2.2 (by simpa using e)
theorem list_of {α : Type} {R : Nat → α → Prop} : ∀ n, (∀ i, i < n → ∃ f, R i f) → ∃ z : List α, z.length = n ∧ ∀ i (h : i < z.length), R i z[i]
  | 0, _ => ⟨[], rfl, fun i h => by simp at h⟩
  | n + 1, h => by
    obtain ⟨z, e, hz⟩ := list_of n (fun i hi => h i (by omega))
    obtain ⟨f, hf⟩ := h n (by omega)
    refine ⟨z ++ [f], by simp [e], fun i hi => ?_⟩
    by_cases hin : i < z.length
    · rw [List.getElem_append_left hin]; exact hz i hin
    · have e1 : i = n := by rw [List.length_append, List.length_singleton] at hi; omega
      subst e1
      rw [List.getElem_append_right (by omega)]
      simpa using hf
/-- Copy's answer is a list of fields -/
theorem cop_lies {w : World} {B : Nat} {e : TypeId} {u : Value} {ts : List Tr} {xs : List Value} (ho : w.ownsRow B e 3 u ts.length xs) (hc : Cp.Cop ts ts.length xs) (hs : slim ts) : ∃ z : List Fv, Lies w u z ∧ z.length = ts.length ∧ keys z = ts.map tv := by
  rcases ho.2 with ⟨h0, h1⟩ | ⟨g, cap, cur, h1, _, h3, _, _, _, h4⟩
  · have e0 : ts = [] := List.length_eq_zero_iff.1 h1
    subst e0
    exact ⟨[], ⟨none, 0, h0, fun i h => by simp at h⟩, rfl, rfl⟩
  · have hcell : ∀ j, j < ts.length * 3 → w.cell? ⟨g, j, none⟩ = xs[j]? := fun j hj => by
      rw [cell_of_row w g _ _ _ (0, 0) h3, ← h4, List.getElem?_take, if_pos hj, Array.getElem?_toList]
    obtain ⟨z, ez, hz⟩ := list_of (R := fun i (f : Fv) => At w ⟨g, 0, none⟩ i f ∧ f.val.size ≤ 4194304 ∧ ∃ h : i < ts.length, (f.num, f.val) = tv ts[i]) ts.length (fun i hi => by
      obtain ⟨tag, val, kids, o, n, c, e1, x0, x1, x2⟩ := hc.2 i hi hi
      refine ⟨⟨tag, val, o, n, c⟩, ?_, slim_at ts i hi hs e1, hi, by rw [e1]; rfl⟩
      unfold At
      rw [add_three]
      exact ⟨(hcell _ (by omega)).trans x0, (hcell (3 * i + 1) (by omega)).trans x1, (hcell (3 * i + 2) (by omega)).trans x2⟩)
    refine ⟨z, ⟨some ⟨g, 0, none⟩, cap, by rw [ez]; exact h1, fun i hi => ⟨_, rfl, (hz i hi).1, (hz i hi).2.1⟩⟩, ez, ?_⟩
    refine List.ext_getElem (by simp [keys, ez]) fun i p q => ?_
    obtain ⟨_, h6⟩ := (hz i (by simpa [keys] using p)).2.2
    simpa [keys] using h6
end Go.Proofs.Ytbekjlinnbmpgaa.Ll
