/- SessionPlays: the list of the pairs. -/
import Derived.Test.YthfpjkboglbcaaaPy
import Derived.Deep.OwnRows
namespace Go.Proofs.Ythfpjkboglbcaaa.Lp
set_option linter.unusedVariables false
set_option linter.unusedSimpArgs false
open Go.RowKit Lib0 Kb Sp Py
def pv (e : Nat × Nat) : List Value := [.pointer (some ⟨e.1, 0, none⟩), .pointer (some ⟨e.2, 0, none⟩)]
def zc : List (Nat × Nat) → List Value
  | [] => []
  | e :: B => pv e ++ zc B
theorem zc_len : ∀ B : List (Nat × Nat), (zc B).length = B.length * 2
  | [] => rfl
  | e :: B => by simp only [zc, pv, List.length_append, List.length_cons, List.length_nil, zc_len B]; omega
theorem zc_app : ∀ (B : List (Nat × Nat)) (e : Nat × Nat), zc (B ++ [e]) = zc B ++ pv e
  | [], e => by simp [zc]
  | f :: B, e => by simp [zc, zc_app B e]
theorem zc_0 : ∀ (B : List (Nat × Nat)) (i : Nat) (h : i < B.length), (zc B)[i * 2]? = some (.pointer (some ⟨B[i].1, 0, none⟩)) ∧ (zc B)[i * 2 + 1]? = some (.pointer (some ⟨B[i].2, 0, none⟩))
  | [], i, h => by simp at h
  | e :: B, 0, h => by simp [zc, pv]
  | e :: B, i + 1, h => by
    have := zc_0 B i (by simpa using h)
    rw [show (i + 1) * 2 = i * 2 + 2 by omega]
    simpa [zc, pv] using this
structure LP (w y : World) (v : Value) (B : List (Nat × Nat)) (st : Nat → Ss) : Prop where
  own : y.ownsRow w.heap.size 33 2 v B.length (zc B)
  two : ∀ i (h : i < B.length), Two y B[i].1 B[i].2 (st i)
  lo : ∀ i (h : i < B.length), w.heap.size ≤ B[i].1 ∧ w.heap.size ≤ B[i].2
  nod : ∀ i j (hi : i < B.length) (hj : j < B.length), i ≠ j → B[i].1 ≠ B[j].1 ∧ B[i].2 ≠ B[j].2
  bel : Below w.heap.size w y
theorem own_keep {w y : World} {B e s n : Nat} {v : Value} {xs : List Value} (h : w.ownsRow B e s v n xs) (hk : ∀ p cur, v.ownBlock = some p → w.heap[p]? = some (.cells cur e (0, 0)) → y.heap[p]? = w.heap[p]?) : y.ownsRow B e s v n xs := by
  refine ⟨h.1, ?_⟩
  rcases h.2 with h2 | ⟨g, cap, cur, rfl, h3, h4, h5⟩
  · exact .inl h2
  · exact .inr ⟨g, cap, cur, rfl, h3, (hk g cur rfl h4).trans h4, h5⟩
theorem own_blk {w : World} {B e s n g : Nat} {v : Value} {xs : List Value} (h : w.ownsRow B e s v n xs) (hg : v.ownBlock = some g) : ∃ cur, w.heap[g]? = some (.cells cur e (0, 0)) := by
  rcases h.2 with ⟨rfl, _⟩ | ⟨g', cap, cur, rfl, h3, h4, h5⟩
  · cases hg
  · cases hg; exact ⟨cur, h4⟩
theorem sm_ne {T : TypeId} {w : World} {g p : Nat} {S : Ss} {cur : Array Value} (M : Sm T w g S) (hT : T ≠ 33) (hp : w.heap[p]? = some (.cells cur 33 (0, 0))) : p ≠ g := by
  rintro rfl
  have := hp.symm.trans M
  injection this with h
  injection h with _ h2
  exact hT h2.symm
theorem LP.empty {w y : World} (st : Nat → Ss) (bel : Below w.heap.size w y) : LP w y (.slice none 0 0) [] st :=
  ⟨⟨rfl, .inl ⟨rfl, rfl⟩⟩, fun i h => absurd h (Nat.not_lt_zero _), fun i h => absurd h (Nat.not_lt_zero _), fun i j h => absurd h (Nat.not_lt_zero _), bel⟩
theorem LP.below {w y x : World} {v : Value} {B : List (Nat × Nat)} {st : Nat → Ss} (h : LP w y v B st) (k : Below y.heap.size y x) : LP w x v B st :=
  ⟨own_keep h.own fun p cur _ hp => k.block p (Array.getElem?_eq_some_iff.1 hp).1, fun i hi => (h.two i hi).below k, h.lo, h.nod, Kb.keepB h.bel k⟩
theorem LP.play {w y x : World} {v : Value} {B : List (Nat × Nat)} {st : Nat → Ss} (h : LP w y v B st) (k : Nat) (hk : k < B.length) {S' : Ss} (D : Two x B[k].1 B[k].2 S') (f : Fr [B[k].1, B[k].2] y x) : LP w x v B (fun i => if i = k then S' else st i) := by
  have hkk := h.two k hk
  refine ⟨own_keep h.own fun p cur _ hp => f.block p (Array.getElem?_eq_some_iff.1 hp).1 ?_, fun i hi => ?_, h.lo, h.nod, Fr.under h.bel f ?_ h.bel.size⟩
  · intro hm
    simp only [List.mem_cons, List.not_mem_nil, or_false] at hm
    rcases hm with e | e
    · exact sm_ne hkk.a (by decide) hp e
    · exact sm_ne hkk.b (by decide) hp e
  · by_cases e : i = k
    · subst e; rw [if_pos rfl]; exact D
    · rw [if_neg e]
      have n1 := h.nod i k hi hk e
      refine (h.two i hi).fr f ?_ ?_
      · simp only [List.mem_cons, List.not_mem_nil, or_false]
        rintro (e1 | e1)
        · exact n1.1 e1
        · exact ty_ne (h.two i hi).a hkk.b e1
      · simp only [List.mem_cons, List.not_mem_nil, or_false]
        rintro (e1 | e1)
        · exact ty_ne hkk.a (h.two i hi).b e1.symm
        · exact n1.2 e1
  · intro b hb
    simp only [List.mem_cons, List.not_mem_nil, or_false] at hb
    have := h.lo k hk
    omega
theorem two_grown {y y3 : World} {r : Option Nat} {v : Value} {b n : Nat} {xs : List Value} {ga gb : Nat} {S : Ss} (own : y.ownsRow b 33 2 v n xs) (gr : y.grownBy y3 v.ownBlock) (D : Two y ga gb S) : Two y3 ga gb S := by
  refine ⟨D.a.keep (gr.block ga D.a.lt ?_), D.b.keep (gr.block gb D.b.lt ?_), D.ok⟩
  · intro e
    obtain ⟨cur, hc⟩ := own_blk own e.symm
    exact sm_ne D.a (by decide) hc rfl
  · intro e
    obtain ⟨cur, hc⟩ := own_blk own e.symm
    exact sm_ne D.b (by decide) hc rfl
theorem LP.push {w y y3 : World} {v : Value} {B : List (Nat × Nat)} {st : Nat → Ss} {g cap : Nat} {ga gb : Nat} {S : Ss} (h : LP w y v B st) (D : Two y ga gb S) (l1 : w.heap.size ≤ ga) (l2 : w.heap.size ≤ gb) (nw : ∀ i (hi : i < B.length), B[i].1 ≠ ga ∧ B[i].2 ≠ gb)
    (own : y3.ownsRow w.heap.size 33 2 (.slice (some ⟨g, 0, none⟩) (B.length + 1) cap) (B.length + 1) (zc B ++ pv (ga, gb))) (gr : y.grownBy y3 v.ownBlock) :
    LP w y3 (.slice (some ⟨g, 0, none⟩) (B.length + 1) cap) (B ++ [(ga, gb)]) (fun i => if i = B.length then S else st i) := by
  have hl : (B ++ [(ga, gb)]).length = B.length + 1 := by simp
  have at_last : ∀ (h : B.length < (B ++ [(ga, gb)]).length), (B ++ [(ga, gb)])[B.length] = (ga, gb) := fun h => by simp
  have at_old : ∀ i (h : i < (B ++ [(ga, gb)]).length) (h2 : i < B.length), (B ++ [(ga, gb)])[i] = B[i] := fun i h h2 => List.getElem_append_left h2
  refine ⟨?_, fun i hi => ?_, fun i hi => ?_, fun i j hi hj hij => ?_, ?_⟩
  · rw [zc_app, hl]; exact own
  · by_cases e : i = B.length
    · subst e; rw [at_last hi, if_pos rfl]; exact two_grown h.own gr D (r := none)
    · rw [if_neg e, at_old i hi (by omega)]; exact two_grown h.own gr (h.two i (by omega)) (r := none)
  · by_cases e : i = B.length
    · subst e; rw [at_last hi]; exact ⟨l1, l2⟩
    · rw [at_old i hi (by omega)]; exact h.lo i (by omega)
  · by_cases e : i = B.length
    · subst e; rw [at_last hi, at_old j hj (by omega)]; exact ⟨(nw j (by omega)).1.symm, (nw j (by omega)).2.symm⟩
    · by_cases e2 : j = B.length
      · subst e2; rw [at_last hj, at_old i hi (by omega)]; exact nw i (by omega)
      · rw [at_old i hi (by omega), at_old j hj (by omega)]; exact h.nod i j (by omega) (by omega) hij
  · exact h.bel.grown gr h.bel.size (Lib0.own_ge h.own)
theorem LP.cells {w y : World} {v : Value} {B : List (Nat × Nat)} {st : Nat → Ss} (h : LP w y v B st) (h0 : 0 < B.length) : ∃ g cap, v = .slice (some ⟨g, 0, none⟩) B.length cap ∧ B.length ≤ cap ∧ ∀ i (hi : i < B.length), y.cell? ⟨g, i * 2, none⟩ = some (.pointer (some ⟨B[i].1, 0, none⟩)) ∧ y.cell? ⟨g, i * 2 + 1, none⟩ = some (.pointer (some ⟨B[i].2, 0, none⟩)) := by
  rcases h.own.2 with ⟨_, h1⟩ | ⟨g, cap, cur, rfl, h3, h4, h5, _, h6, h7⟩
  · omega
  · refine ⟨g, cap, rfl, h5, fun i hi => ?_⟩
    have z := zc_0 B i hi
    rw [← h7] at z
    rw [List.getElem?_take, List.getElem?_take, if_pos (by omega), if_pos (by omega)] at z
    unfold World.cell?
    rw [h4]
    simpa using z
theorem LP.cells2 {w y : World} {g N cap : Nat} {B : List (Nat × Nat)} {st : Nat → Ss} (h : LP w y (.slice (some ⟨g, 0, none⟩) N cap) B st) (h0 : 0 < B.length) : B.length ≤ cap ∧ ∀ i (hi : i < B.length), y.cell? ⟨g, i * 2, none⟩ = some (.pointer (some ⟨B[i].1, 0, none⟩)) ∧ y.cell? ⟨g, i * 2 + 1, none⟩ = some (.pointer (some ⟨B[i].2, 0, none⟩)) := by
  obtain ⟨g', c', hv, hc, hcl⟩ := h.cells h0
  injection hv with e1 e2 e3
  injection e1 with e1
  injection e1 with e1 _ _
  subst e1 e3
  exact ⟨hc, hcl⟩
theorem LP.blk {w y : World} {g N cap : Nat} {B : List (Nat × Nat)} {st : Nat → Ss} (h : LP w y (.slice (some ⟨g, 0, none⟩) N cap) B st) : ∃ cur, y.heap[g]? = some (.cells cur 33 (0, 0)) := own_blk h.own rfl
theorem two_drewN {w : World} {ga gb : Nat} {S : Ss} (h : Two w ga gb S) (n : Nat) : Two (w.drewN n) ga gb S := h.fr (Sa.fr_drewN (Fr.refl [] _) n) (by simp) (by simp)
theorem LP.drewN {w y : World} {v : Value} {B : List (Nat × Nat)} {st : Nat → Ss} (h : LP w y v B st) (n : Nat) : LP w (y.drewN n) v B st := h.below (Sa.fr_drewN (Fr.refl [] _) n).below
end Go.Proofs.Ythfpjkboglbcaaa.Lp
