/- RouteFinds: what is laid, by a list of prefixes; a row of texts beside a trie. -/
import Derived.Test.YtheeicjoblkfnaaGreatDoorRd
namespace Go.Proofs.YtheeicjoblkfnaaGreatDoor.Rf
set_option linter.unusedVariables false
set_option linter.unusedSimpArgs false
open Go.RowKit Lib0 Kb Rp Rw Rs Ls Ms Ts Rd
def atB (k : K) : ByteArray := (⟨#[97, 116, 32]⟩ : ByteArray) ++ sB k
/-- just these prefixes are laid, each with its text -/
structure Hold (L : LT) (S : List K) : Prop where
  lk : ∀ k, lkp L k = if k ∈ S then some (atB k) else none
  len : L.length = S.length
  nd : S.Nodup
theorem Hold.at {L : LT} {S : List K} (h : Hold L S) (k : K) : isAt L k = decide (k ∈ S) := by
  rw [isAt, h.lk]; split <;> simp_all
theorem Hold.ins {L : LT} {S : List K} (h : Hold L S) (hs : Srt L) {k : K} (hk : k ∉ S) : Hold (ins L k (atB k)) (S ++ [k]) := by
  have ha : isAt L k = false := by rw [h.at]; simp [hk]
  refine ⟨fun q => ?_, by rw [ins_len, h.len]; simp, ?_⟩
  · rw [ins_look hs ha, h.lk]
    by_cases e : q = k
    · subst e; simp
    · simp [e]
  · rw [List.nodup_append]
    exact ⟨h.nd, by simp, fun a hA b hb e => by simp at hb; subst hb; subst e; exact hk hA⟩
theorem Hold.del {L : LT} {A B : List K} {k : K} (h : Hold L (A ++ k :: B)) (hs : Srt L) : Hold (del L k) (A ++ B) := by
  have ha : isAt L k = true := by rw [h.at]; simp
  have hn := h.nd
  rw [List.nodup_append] at hn
  have hn2 := List.nodup_cons.1 hn.2.1
  have hkA : k ∉ A := fun hA => hn.2.2 k hA k (by simp) rfl
  refine ⟨fun q => ?_, ?_, ?_⟩
  · rw [del_look hs ha, h.lk]
    by_cases e : q = k
    · subst e; simp [hkA, hn2.1]
    · simp [e]
  · have := del_len hs ha
    rw [h.len] at this
    simp at this ⊢; omega
  · rw [List.nodup_append]
    exact ⟨hn.1, hn2.2, fun a ha b hb => hn.2.2 a ha b (List.mem_cons_of_mem _ hb)⟩
/-- as far as digits go -/
def nD : K → Nat
  | [] => 0
  | c :: s => if isD c then nD s + 1 else 0
theorem nD_le : ∀ s : K, nD s ≤ s.length
  | [] => Nat.le_refl _
  | c :: s => by have := nD_le s; simp only [nD, List.length_cons]; split <;> omega
theorem nD_take : ∀ (s : K) (j : Nat), (s.take j).all isD = true → j ≤ s.length → j ≤ nD s
  | [], j, _, h => by simp at h; omega
  | c :: s, 0, _, _ => Nat.zero_le _
  | c :: s, j + 1, h, hj => by
    simp only [List.take_succ_cons, List.all_cons, Bool.and_eq_true] at h
    have := nD_take s j h.2 (by simpa using hj)
    simp only [nD, h.1, if_true]; omega
theorem nD_uniq (s : ByteArray) (n : Nat) (hn : n ≤ s.size) (h1 : ∀ j (h : j < s.size), j < n → isD (s[j]'h) = true) (h2 : ∀ h : n < s.size, isD (s[n]'h) = false) : nD s.data.toList = n := by
  have hl : s.data.toList.length = s.size := by rw [Array.length_toList]; rfl
  have gen : ∀ (l : K) (m : Nat), m ≤ l.length → (∀ j (h : j < l.length), j < m → isD l[j] = true) → (∀ h : m < l.length, isD l[m] = false) → nD l = m := by
    intro l
    induction l with
    | nil => intro m hm _ _; simp at hm; subst hm; rfl
    | cons c l ih =>
      intro m hm g1 g2
      cases m with
      | zero => have := g2 (by simp); simp only [List.getElem_cons_zero] at this; simp [nD, this]
      | succ m =>
        have := g1 0 (by simp) (by omega)
        simp only [List.getElem_cons_zero] at this
        simp only [nD, this, if_true]
        rw [ih m (by simpa using hm) (fun j h hj => by have := g1 (j + 1) (by simpa using h) (by omega); simpa using this) (fun h => by have := g2 (by simpa using h); simpa using this)]
  exact gen _ n (by omega) (fun j h hj => h1 j (by omega) hj) (fun h => h2 (by omega))
/-- the longest of the prefixes with which a text begins -/
def bst (t : K) : List K → K → K
  | [], b => b
  | p :: S, b => bst t S (if p.isPrefixOf t && decide (b.length < p.length) then p else b)
theorem bst_snoc (t : K) : ∀ (S : List K) (p b : K), bst t (S ++ [p]) b = (if p.isPrefixOf t && decide ((bst t S b).length < p.length) then p else bst t S b)
  | [], p, b => rfl
  | q :: S, p, b => by simp only [List.cons_append, bst]; exact bst_snoc t S p _
theorem bst_is (t : K) : ∀ (S : List K) (b : K), (bst t S b = b ∨ (bst t S b ∈ S ∧ (bst t S b).isPrefixOf t = true)) ∧ b.length ≤ (bst t S b).length ∧ ∀ p ∈ S, p.isPrefixOf t = true → p.length ≤ (bst t S b).length
  | [], b => ⟨.inl rfl, Nat.le_refl _, fun p hp => by simp at hp⟩
  | q :: S, b => by
    simp only [bst]
    cases hc : (q.isPrefixOf t && decide (b.length < q.length)) with
    | true =>
      simp only [if_true]
      simp only [Bool.and_eq_true, decide_eq_true_eq] at hc
      obtain ⟨h1, h2, h3⟩ := bst_is t S q
      refine ⟨.inr ?_, by omega, fun p hp hpp => ?_⟩
      · rcases h1 with h1 | h1
        · rw [h1]; exact ⟨by simp, hc.1⟩
        · exact ⟨List.mem_cons_of_mem _ h1.1, h1.2⟩
      · rcases List.mem_cons.1 hp with e | hp
        · subst e; exact h2
        · exact h3 p hp hpp
    | false =>
      simp only [if_neg (Bool.false_ne_true)]
      obtain ⟨h1, h2, h3⟩ := bst_is t S b
      refine ⟨h1.imp id (fun h => ⟨List.mem_cons_of_mem _ h.1, h.2⟩), h2, fun p hp hpp => ?_⟩
      rcases List.mem_cons.1 hp with e | hp
      · subst e
        simp only [hpp, Bool.true_and, decide_eq_false_iff_not] at hc
        omega
      · exact h3 p hp hpp
/-- what Find must tell -/
theorem lon_bst {L : LT} {S : List K} (h : Hold L S) (hk : ∀ x ∈ L, okK x.1 = true) (s : K) : (bst (s.take (nD s)) S [] = [] ∧ lon (lkp L) s s.length = none) ∨ (bst (s.take (nD s)) S [] ≠ [] ∧ lon (lkp L) s s.length = some (atB (bst (s.take (nD s)) S []), (bst (s.take (nD s)) S []).length)) := by
  have hkS : ∀ p ∈ S, okK p = true := fun p hp => hk _ (look_mem (k := p) (v := atB p) (by rw [h.lk, if_pos hp]))
  have hin : ∀ j, j ≤ s.length → ∀ v, lkp L (s.take j) = some v → s.take j ∈ S ∧ (s.take j).isPrefixOf (s.take (nD s)) = true ∧ v = atB (s.take j) := fun j hj v hv => by
    rw [h.lk] at hv
    split at hv
    · rename_i hm
      have ho := hkS _ hm
      simp only [okK, Bool.and_eq_true] at ho
      have := nD_take s j ho.1.1 hj
      refine ⟨hm, ?_, (Option.some.inj hv).symm⟩
      rw [List.isPrefixOf_iff_prefix, List.prefix_iff_eq_take, List.take_take]
      rw [List.length_take]
      congr 1; omega
    · cases hv
  obtain ⟨h1, h2, h3⟩ := bst_is (s.take (nD s)) S []
  by_cases hb : bst (s.take (nD s)) S [] = []
  · refine .inl ⟨hb, lon_none _ _ _ fun j hj => ?_⟩
    cases e : lkp L (s.take j) with
    | none => rfl
    | some v =>
      obtain ⟨m1, m2, _⟩ := hin j hj v e
      have := h3 _ m1 m2
      rw [hb] at this
      have ho := hkS _ m1
      simp only [okK, Bool.and_eq_true, decide_eq_true_eq] at ho
      simp only [List.length_nil] at this
      omega
  · refine .inr ⟨hb, ?_⟩
    rcases h1 with h1 | ⟨m1, m2⟩
    · exact absurd h1 hb
    · obtain ⟨B, hB⟩ : ∃ B, bst (s.take (nD s)) S [] = B := ⟨_, rfl⟩
      rw [hB] at m1 m2 h3 hb ⊢
      have hp : B = s.take B.length := by
        have hpre := (List.isPrefixOf_iff_prefix.1 m2).trans (List.take_prefix (nD s) s)
        exact List.prefix_iff_eq_take.1 hpre
      have hl : B.length ≤ s.length := by
        have := (List.isPrefixOf_iff_prefix.1 m2).length_le
        rw [List.length_take] at this; omega
      have hat : lkp L (s.take B.length) = some (atB B) := by rw [← hp, h.lk, if_pos m1]
      have hup := lon_up (lkp L) s B.length (s.length - B.length) fun j g1 g2 => by
        cases e : lkp L (s.take j) with
        | none => rfl
        | some v =>
          obtain ⟨n1, n2, _⟩ := hin j (by omega) v e
          have := h3 _ n1 n2
          rw [List.length_take] at this
          omega
      rw [show B.length + (s.length - B.length) = s.length by omega] at hup
      rw [hup]
      exact lon_at _ _ _ _ hat
/-- a row of texts and a trie beside it -/
structure Row (w : World) (base b : Nat) (L : LT) (v : Value) (l : List K) : Prop where
  row : w.ownsRow base tS 1 v l.length (l.map sv)
  tri : ∃ X, Tri w X b L ∧ ∀ g, v.ownBlock = some g → g ∈ X
theorem own_keep {w w' : World} {base e n : Nat} {v : Value} {xs : List Value} (h : w.ownsRow base e 1 v n xs) (k : ∀ g cur, v.ownBlock = some g → w.heap[g]? = some (.cells cur e (0, 0)) → w'.heap[g]? = some (.cells cur e (0, 0))) : w'.ownsRow base e 1 v n xs := by
  obtain ⟨h1, h2 | ⟨g, cap, cur, rfl, h3, h4, h5⟩⟩ := h
  · exact ⟨h1, .inl h2⟩
  · exact ⟨h1, .inr ⟨g, cap, cur, rfl, h3, k g cur rfl h4, h5⟩⟩
theorem Row.below {w w' : World} {base b : Nat} {L : LT} {v : Value} {l : List K} (h : Row w base b L v l) (k : Below w.heap.size w w') : Row w' base b L v l :=
  ⟨own_keep h.row fun g cur _ e => kept k e, let ⟨X, h1, h2⟩ := h.tri; ⟨X, h1.below k, h2⟩⟩
/-- behind a call that wrote the trie alone -/
theorem own_tri {w w' : World} {X : List Nat} {base b n : Nat} {L : LT} {v : Value} {xs : List Value} (h : w.ownsRow base tS 1 v n xs) (ht : Tri w X b L) (k : Fr [b] w w') : w'.ownsRow base tS 1 v n xs :=
  own_keep h fun g cur _ e => (k.block g (Array.getElem?_eq_some_iff.1 e).1 (fun hm => by
    simp at hm
    subst hm
    obtain ⟨T, h1, _⟩ := ht.tree
    rw [h1] at e
    cases e)).trans e
theorem Row.new {w : World} {base b : Nat} {L : LT} {X : List Nat} (h : Tri w X b L) : Row w base b L (.slice none 0 0) [] :=
  ⟨World.ownsRow_nil _ _ _ _, X, h, fun g e => by cases e⟩
/-- behind an append -/
theorem Row.app {w w1 : World} {base b : Nat} {L : LT} {v : Value} {l : List K} {k : K} {gg cap : Nat} {o : Obj} (h : Row w base b L v l) (hown : w1.ownsRow base tS 1 (.slice (some ⟨gg, 0, none⟩) (l.length + 1) cap) (l.length + 1) (l.map sv ++ [sv k])) (hgrow : (w.alloc o).grownBy w1 v.ownBlock) (hat : v.ownBlock = some gg ∨ gg = w.heap.size + 1) (hlt : gg < w1.heap.size) : Row w1 base b L (.slice (some ⟨gg, 0, none⟩) (l.length + 1) cap) (l ++ [k]) := by
  obtain ⟨X, hT, hX⟩ := h.tri
  have hT1 := hT.below (below_one w o)
  have kt : KT X (w.alloc o) w1 := ⟨hgrow.size, fun p c t fr hp e => (hgrow.block p (Array.getElem?_eq_some_iff.1 e).1 (fun e2 => hp (hX p e2.symm))).trans e⟩
  have hb : w1.heap[b]? = (w.alloc o).heap[b]? := hgrow.block b hT1.lt (fun e2 => by
    obtain ⟨T, h1, _⟩ := hT.tree
    obtain ⟨-, h2 | ⟨g, cap', cur, e3, _, h4, _⟩⟩ := h.row
    · rw [h2.1] at e2; cases e2
    · rw [e3] at e2
      simp only [Value.ownBlock, Option.some.injEq] at e2
      subst e2
      rw [h1] at h4; cases h4)
  have hT2 := hT1.kept kt hb
  refine ⟨?_, gg :: X, ?_, fun g e => by simp only [Value.ownBlock, Option.some.injEq] at e; subst e; simp⟩
  · rw [List.length_append, List.map_append]; exact hown
  · refine ⟨List.mem_cons_of_mem _ hT2.mem, fun x hx => (List.mem_cons.1 hx).elim (fun e => by omega) (hT2.all x), hT2.srt, hT2.keys, ?_⟩
    obtain ⟨T, h1, h2, h3⟩ := hT1.tree
    refine ⟨T, hb.trans h1, ?_, h3⟩
    rcases hat with hat | hat
    · exact In.more (fun y hy => (List.mem_cons.1 hy).elim (fun e => .inl (by rw [e]; exact hX _ hat)) .inl) T (In.kept kt T h2)
    · refine In.kept (X := gg :: X) (kt.mono fun y hy => List.mem_cons_of_mem _ hy) T (In.more (fun y hy => (List.mem_cons.1 hy).elim (fun e => .inr (by rw [e, hat]; simp)) .inl) T h2)
theorem Row.cell {w : World} {base b : Nat} {L : LT} {v : Value} {l : List K} (h : Row w base b L v l) : ∃ o cap, v = .slice o l.length cap ∧ ∀ i (hi : i < l.length), ∃ g, o = some ⟨g, 0, none⟩ ∧ w.cell? ⟨g, i, none⟩ = some (sv l[i]) := by
  obtain ⟨h1, h2 | ⟨g, cap, cur, e, h3, h4, h5, h6, h7, h8⟩⟩ := h.row
  · refine ⟨none, 0, by rw [h2.1, h2.2], fun i hi => by omega⟩
  · refine ⟨_, cap, e, fun i hi => ⟨g, rfl, ?_⟩⟩
    simp only [World.cell?, h4]
    have : (l.map sv)[i]? = some (sv l[i]) := by simp [hi]
    rw [← h8, List.getElem?_take, if_pos (by omega), Array.getElem?_toList] at this
    exact this
theorem Fr.grown {B : List Nat} {w x y : World} {r : Option Nat} (h : Fr B w x) (k : x.grownBy y r) (hr : ∀ g, r = some g → g ∈ B ∨ w.heap.size ≤ g) : Fr B w y := ⟨k.os.trans h.os, k.tape.trans h.tape, k.output.trans h.output, Nat.le_trans h.size k.size, fun b hb hn => (k.block b (Nat.lt_of_lt_of_le hb h.size) (fun e => (hr b e.symm).elim hn (fun h3 => by omega))).trans (h.block b hb hn)⟩
theorem own_from {w : World} {base e n : Nat} {v : Value} {xs : List Value} (h : w.ownsRow base e 1 v n xs) : ∀ g, v.ownBlock = some g → base ≤ g := by
  obtain ⟨_, h2 | ⟨g, cap, cur, rfl, h3, _⟩⟩ := h
  · intro g e; rw [h2.1] at e; cases e
  · intro g' e; simp only [Value.ownBlock, Option.some.injEq] at e; omega
theorem own_cell {w : World} {base : Nat} {v : Value} {l : List K} (h : w.ownsRow base tS 1 v l.length (l.map sv)) : ∃ o cap, v = .slice o l.length cap ∧ ∀ i (hi : i < l.length), ∃ g, o = some ⟨g, 0, none⟩ ∧ w.cell? ⟨g, i, none⟩ = some (sv l[i]) := by
  obtain ⟨h1, h2 | ⟨g, cap, cur, e, h3, h4, h5, h6, h7, h8⟩⟩ := h
  · refine ⟨none, 0, by rw [h2.1, h2.2], fun i hi => by omega⟩
  · refine ⟨_, cap, e, fun i hi => ⟨g, rfl, ?_⟩⟩
    simp only [World.cell?, h4]
    have : (l.map sv)[i]? = some (sv l[i]) := by simp [hi]
    rw [← h8, List.getElem?_take, if_pos (by omega), Array.getElem?_toList] at this
    exact this
/-- the row stays readable where only the trie is written -/
theorem Row.cellFr {w x : World} {base b : Nat} {L : LT} {o : Option Addr} {M cap : Nat} {l : List K} (h : Row w base b L (.slice o M cap) l) (k : Fr [b] w x) : ∀ i (hi : i < l.length), ∃ g, o = some ⟨g, 0, none⟩ ∧ x.cell? ⟨g, i, none⟩ = some (sv l[i]) := by
  obtain ⟨X, hT, _⟩ := h.tri
  obtain ⟨o', cap', e, hc⟩ := own_cell (own_tri h.row hT k)
  cases e
  exact hc
theorem Row.put {w w' : World} {base b : Nat} {L L2 : LT} {v : Value} {l : List K} {X : List Nat} (h : Row w base b L v l) (hX : ∀ g, v.ownBlock = some g → g ∈ X) (hT : Tri w X b L) (k : Fr [b] w w') (h2 : Tri w' X b L2) : Row w' base b L2 v l := ⟨own_tri h.row hT k, X, h2, hX⟩
theorem ext_take (s : ByteArray) (n : Nat) : s.extract 0 n = sB (s.data.toList.take n) := by
  apply ByteArray.ext
  apply Array.toList_inj.1
  simp only [ByteArray.data_extract, Array.toList_extract]
  simp [List.extract_eq_take_drop]
theorem hold_move (A B : List K) (i : Nat) (h : i < B.length) : A ++ B.drop i = (A ++ [B[i]]) ++ B.drop (i + 1) := by
  rw [List.drop_eq_getElem_cons h]; simp
theorem hold_split (A B : List K) (i : Nat) (h : i < B.length) : A ++ B.drop i = A ++ B[i] :: B.drop (i + 1) := by
  rw [List.drop_eq_getElem_cons h]
end Go.Proofs.YtheeicjoblkfnaaGreatDoor.Rf
