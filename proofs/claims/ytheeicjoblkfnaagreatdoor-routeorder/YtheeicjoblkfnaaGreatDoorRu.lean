/- RouteOrder, plain: what is laid, by its prefixes alone. -/
import Derived.Test.YtheeicjoblkfnaaGreatDoorRj
import Derived.Test.YtheeicjoblkfnaaGreatDoorRd
namespace Go.Proofs.YtheeicjoblkfnaaGreatDoor.Ru
set_option linter.unusedVariables false
set_option linter.unusedSimpArgs false
open Go.RowKit Go.Shelf Lib0 Kb Rp Rw Rs Li Mj Tj Sr Kq Ra Rj
abbrev ln (k : K) : Int := (k.length : Int)
/-- just these prefixes are laid, each with its length -/
def Mem (L : LT) (S : List K) : Prop := ∀ k, lkp L k = if k ∈ S then some (ln k) else none
theorem Mem.at {L : LT} {S : List K} (h : Mem L S) (k : K) : isAt L k = decide (k ∈ S) := by
  rw [isAt, h]; split <;> simp_all
theorem Mem.put {L : LT} {S S2 : List K} (h : Mem L S) (hs : Srt L) {p : K} (hp : okK p = true) (h2 : ∀ k, k ∈ S2 ↔ k = p ∨ k ∈ S) : Mem (putL L p (ln p)) S2 := by
  intro k
  unfold putL putE
  rw [h.at, hp]
  by_cases hm : p ∈ S
  · rw [if_neg (by simp [hm]), h]
    by_cases hk : k ∈ S
    · rw [if_pos hk, if_pos ((h2 k).2 (.inr hk))]
    · rw [if_neg hk, if_neg (fun h3 => ((h2 k).1 h3).elim (fun e => hk (by rw [e]; exact hm)) hk)]
  · rw [if_pos (by simp [hm]), ins_look hs (by rw [h.at]; simp [hm]), h]
    by_cases hk : k = p
    · rw [if_pos hk, if_pos ((h2 k).2 (.inl hk)), hk]
    · rw [if_neg hk]
      by_cases hk2 : k ∈ S
      · rw [if_pos hk2, if_pos ((h2 k).2 (.inr hk2))]
      · rw [if_neg hk2, if_neg (fun h3 => ((h2 k).1 h3).elim hk hk2)]
theorem Mem.eq {L M : LT} {S : List K} (h : Mem L S) (k : Mem M S) (hs : Srt L) (ks : Srt M) : L = M := by
  refine srt_ext hs ks fun x => ?_
  obtain ⟨a, b⟩ := x
  constructor
  · intro hx
    have := mem_look hs hx
    rw [h a, ← k a] at this
    exact look_mem this
  · intro hx
    have := mem_look ks hx
    rw [k a, ← h a] at this
    exact look_mem this
theorem putL_len (L : LT) (p : K) (n : Int) : (putL L p n).length ≤ L.length + 1 := by
  unfold putL
  split
  · rw [ins_len]; exact Nat.le_refl _
  · omega
/-- nothing is laid but under these -/
def Sub (L : LT) (S : List K) : Prop := ∀ k, isAt L k = true → k ∈ S
theorem Sub.put {L : LT} {S : List K} (h : Sub L S) (hs : Srt L) {p : K} (hp : p ∈ S) (n : Int) : Sub (putL L p n) S := by
  intro k hk
  unfold putL putE at hk
  split at hk
  · rename_i he
    simp only [Bool.and_eq_true, Bool.not_eq_true'] at he
    rw [isAt, ins_look hs he.2] at hk
    by_cases e : k = p
    · rw [e]; exact hp
    · rw [if_neg e] at hk; exact h k hk
  · exact h k hk
theorem Sub.drop {L : LT} {S S2 : List K} (h : Sub L S) (hs : Srt L) {p : K} (h2 : ∀ k, k ∈ S → k = p ∨ k ∈ S2) : Sub (if isAt L p then del L p else L) S2 := by
  intro k hk
  split at hk
  · rename_i he
    rw [isAt, del_look hs he] at hk
    by_cases e : k = p
    · rw [if_pos e] at hk; cases hk
    · rw [if_neg e] at hk; exact (h2 k (h k hk)).elim (fun e2 => absurd e2 e) id
  · rename_i he
    exact (h2 k (h k hk)).elim (fun e2 => by rw [e2] at hk; exact absurd hk he) id
theorem Sub.nil {L : LT} (h : Sub L []) (hs : Srt L) : L = [] := by
  cases L with
  | nil => rfl
  | cons x L =>
    obtain ⟨k, v⟩ := x
    have := h k (by rw [isAt, mem_look hs (List.mem_cons_self ..)]; rfl)
    cases this
theorem del_le (L : LT) (p : K) : (if isAt L p then del L p else L).length ≤ L.length := by
  split
  · exact (del_sub L p).length_le
  · exact Nat.le_refl _
theorem tri_empty {w : World} {X : List Nat} {b : Nat} (hb : b ∈ X) (ha : ∀ x ∈ X, x < w.heap.size) (h : w.heap[b]? = some (.cells #[.pointer none, .int .i64 0] tR)) : Tri w X b [] :=
  ⟨hb, ha, List.Pairwise.nil, fun x hx => by simp at hx, .nil, h, trivial, (fun k => by rw [mp_nil]; rfl), dp_nil 20⟩
/-- the keys of a row of texts -/
def ks (z : List ByteArray) : List K := z.map fun x => Rd.dgL x.data.toList
theorem ks_at (z : List ByteArray) (i : Nat) (h : i < z.length) : (ks z)[i]'(by simpa [ks] using h) = Rd.dgL (z[i]).data.toList := by simp [ks]
theorem take_mem (z : List ByteArray) (n i : Nat) (h : i < z.length) (hn : i < n) (k : K) : k ∈ ks (z.take (i + 1)) ↔ k = Rd.dgL (z[i]).data.toList ∨ k ∈ ks (z.take i) := by
  rw [List.take_succ_eq_append_getElem h]
  simp only [ks, List.map_append, List.mem_append, List.map_cons, List.map_nil, List.mem_singleton]
  exact Or.comm
theorem drop_mem (z : List ByteArray) (i : Nat) (h : i < z.length) (k : K) : k ∈ ks (z.drop i) ↔ k = Rd.dgL (z[i]).data.toList ∨ k ∈ ks (z.drop (i + 1)) := by
  rw [List.drop_eq_getElem_cons h]
  simp only [ks, List.map_cons, List.mem_cons]
/-- the last key -/
def lastK (pre : LT) : K := match pre.getLast? with
  | some x => x.1
  | none => []
theorem lastK_snoc (pre : LT) (x : K × Int) : lastK (pre ++ [x]) = x.1 := by simp [lastK]
theorem lastK_lt {L pre : LT} {x : K × Int} (hs : Srt L) (hk : ∀ x ∈ L, okK x.1 = true) (h : pre ++ [x] <+: L) : lt (lastK pre) x.1 = true := by
  unfold lastK
  have hx : x ∈ L := by obtain ⟨t, rfl⟩ := h; simp
  cases e : pre.getLast? with
  | none =>
    have := hk x hx
    simp only [okK, Bool.and_eq_true, decide_eq_true_eq] at this
    cases hx1 : x.1 with
    | nil => rw [hx1] at this; simp at this
    | cons c r => rfl
  | some y =>
    obtain ⟨t, rfl⟩ := h
    obtain ⟨q, rfl⟩ : ∃ q, pre = q ++ [y] := by
      have := List.getLast?_eq_some_iff.1 e
      obtain ⟨q, hq⟩ := this
      exact ⟨q, hq⟩
    simp only [Srt, List.append_assoc, List.pairwise_append] at hs
    exact hs.2.1.2.2 y (by simp) x (by simp)
abbrev tSl : TypeId := 73
abbrev tS : TypeId := 9
/-- between the rounds over the first trie -/
def I1 (w y6 : World) (lb : Nat) (pre : LT) (W : World) : Prop := ∃ lv, W.heap[lb]? = some (.cells #[lv] tSl) ∧ W.ownsRow y6.heap.size tS 1 lv pre.length (pre.map fun x => sv x.1) ∧ W.heap[lb + 1]? = some (.cells #[sv (lastK pre)] tS) ∧ KT [lb, lb + 1] y6 W ∧ Below w.heap.size w W
theorem own_keep {w w' : World} {base e n : Nat} {v : Value} {xs : List Value} (h : w.ownsRow base e 1 v n xs) (k : ∀ g cur, v.ownBlock = some g → w.heap[g]? = some (.cells cur e (0, 0)) → w'.heap[g]? = some (.cells cur e (0, 0))) : w'.ownsRow base e 1 v n xs := by
  obtain ⟨h1, h2 | ⟨g, cap, cur, rfl, h3, h4, h5⟩⟩ := h
  · exact ⟨h1, .inl h2⟩
  · exact ⟨h1, .inr ⟨g, cap, cur, rfl, h3, k g cur rfl h4, h5⟩⟩
theorem I1_own {w y6 : World} {lb : Nat} (hw : w.heap.size ≤ y6.heap.size) : OwnFrom y6.heap.size (fun pre W => I1 w y6 lb pre W) := fun s A B row hs hg hr =>
  let ⟨lv, a1, a2, a3, a4, a5⟩ := hs
  ⟨lv, cells_grown hg (fun r e => (hr r e).2) a1, own_keep a2 (fun g cur _ e => cells_grown hg (fun r e => (hr r e).2) e), cells_grown hg (fun r e => (hr r e).2) a3, a4.trans (KT.grown hg fun r e => (hr r e).2), a5.grown hg a5.size (fun k e => by have := (hr k e).1; omega)⟩
theorem gk {A B : World} {row : Option Nat} {b : Nat} {o : Obj} (h : A.grownBy B row) (e : A.heap[b]? = some o) (hne : row ≠ some b) : B.heap[b]? = some o := (h.block b (Array.getElem?_eq_some_iff.1 e).1 (fun e2 => hne e2.symm)).trans e
theorem KT.grownNew {X : List Nat} {Y A B : World} {row : Option Nat} (k : KT X Y A) (h : A.grownBy B row) (hr : ∀ r, row = some r → Y.heap.size ≤ r) : KT X Y B :=
  ⟨Nat.le_trans k.size h.size, fun b c t fr hb e => gk h (k.cells b c t fr hb e) (fun e2 => by have := hr b e2; have := (Array.getElem?_eq_some_iff.1 e).1; omega)⟩
theorem kf_set {n : Nat} {A : World} {g : Nat} {c : Array Value} {t : TypeId} (h : A.heap[g]? = some (.cells c t)) (o : Nat) (v : Value) : KeepsFrom n A (A.setCell ⟨g, o, none⟩ v) :=
  ⟨by rw [setCell_size]; exact Nat.le_refl _, fun k ob _ e ho => (setCell_ne (fun e2 : g = k => by subst e2; rw [h] at e; cases e; cases ho) o v).trans e⟩
theorem kf_below {n : Nat} {A B : World} (h : Below A.heap.size A B) : KeepsFrom n A B := ⟨h.size, fun k ob _ e _ => kept h e⟩
theorem kf_grown {n : Nat} {A B : World} {row : Option Nat} (h : A.grownBy B row) (hr : ∀ r, row = some r → ∃ c t fr, A.heap[r]? = some (.cells c t fr)) : KeepsFrom n A B :=
  ⟨h.size, fun k ob _ e ho => gk h e (fun e2 => by obtain ⟨c, t, fr, h1⟩ := hr k e2; rw [e] at h1; cases h1; cases ho)⟩
theorem own_from {w : World} {base e n : Nat} {v : Value} {xs : List Value} (h : w.ownsRow base e 1 v n xs) : ∀ g, v.ownBlock = some g → base ≤ g ∧ ∃ cur, w.heap[g]? = some (.cells cur e (0, 0)) := by
  obtain ⟨_, h2 | ⟨g, cap, cur, rfl, h3, h4, _⟩⟩ := h
  · intro g e; rw [h2.1] at e; cases e
  · intro g' e; simp only [Value.ownBlock, Option.some.injEq] at e; subst e; exact ⟨h3, cur, h4⟩
theorem nokS : ¬ tOk tS := by unfold tOk; decide
theorem nokL : ¬ tOk tSl := by unfold tOk; decide
/-- one round over the first trie -/
theorem I1_step {w y6 W w1 : World} {lb : Nat} {X : List Nat} {pre : LT} {x : K × Int} {lv v' : Value} {LK : K} (hw : w.heap.size ≤ lb) (hlb : lb + 1 < y6.heap.size)
    (a1 : W.heap[lb]? = some (.cells #[lv] tSl)) (a2 : W.ownsRow y6.heap.size tS 1 lv pre.length (pre.map fun x => sv x.1)) (a3 : W.heap[lb + 1]? = some (.cells #[sv LK] tS)) (a4 : KT [lb, lb + 1] y6 W) (a5 : Below w.heap.size w W) {o : Obj}
    (hown : w1.ownsRow y6.heap.size tS 1 v' (pre.length + 1) ((pre.map fun x => sv x.1) ++ [sv x.1])) (hgrow : ((W.setCell ⟨lb + 1, 0, none⟩ (sv x.1)).alloc o).grownBy w1 lv.ownBlock) :
    KeepsFrom y6.heap.size W (w1.setCell ⟨lb, 0, none⟩ v') ∧ KQ X W (w1.setCell ⟨lb, 0, none⟩ v') ∧ I1 w y6 lb (pre ++ [x]) (w1.setCell ⟨lb, 0, none⟩ v') := by
  have hf := own_from a2
  have s1 : (W.setCell ⟨lb + 1, 0, none⟩ (sv x.1)).heap[lb]? = some (.cells #[lv] tSl) := (setCell_ne (by omega) _ _).trans a1
  have s2 : (W.setCell ⟨lb + 1, 0, none⟩ (sv x.1)).heap[lb + 1]? = some (.cells #[sv x.1] tS) := setCell_heap a3 0 _
  have t1 := kept (below_one _ o) s1
  have t2 := kept (below_one _ o) s2
  have n1 : ∀ b, b < y6.heap.size → lv.ownBlock ≠ some b := fun b hb e => by have := (hf b e).1; omega
  have u1 := gk hgrow t1 (n1 lb (by omega))
  have u2 := gk hgrow t2 (n1 (lb + 1) hlb)
  have v1 : (w1.setCell ⟨lb, 0, none⟩ v').heap[lb]? = some (.cells #[v'] tSl) := setCell_heap u1 0 _
  have v2 : (w1.setCell ⟨lb, 0, none⟩ v').heap[lb + 1]? = some (.cells #[sv x.1] tS) := (setCell_ne (by omega) _ _).trans u2
  have hrow : ∀ r, lv.ownBlock = some r → ∃ c, ((W.setCell ⟨lb + 1, 0, none⟩ (sv x.1)).alloc o).heap[r]? = some (.cells c tS (0, 0)) := fun r e => by
    obtain ⟨h1, cur, h2⟩ := hf r e
    exact ⟨cur, kept (below_one _ o) ((setCell_ne (by omega) _ _).trans h2)⟩
  refine ⟨(kf_set a3 _ _).trans ((kf_below (below_one _ o)).trans ((kf_grown hgrow fun r e => let ⟨c, h⟩ := hrow r e; ⟨c, _, _, h⟩).trans (kf_set u1 _ _))),
    (KQ.set a3 nokS _ _).trans ((KQ.of (below_one _ o)).trans ((KQ.grown hgrow fun r e => let ⟨c, h⟩ := hrow r e; ⟨c, _, _, h, nokS⟩).trans (KQ.set u1 nokL _ _))), v', v1, ?_, ?_, ?_, ?_⟩
  · rw [List.length_append, List.map_append]
    exact own_keep hown fun g cur e h => (setCell_ne (fun e2 : lb = g => by have := (own_from hown g e).1; omega) _ _).trans h
  · rw [lastK_snoc]; exact v2
  · exact ((KT.grownNew ((a4.trans (KT.set (by simp) _ _)).trans (KT.of (below_one _ o))) hgrow (fun r e => (hf r e).1))).trans (KT.set (by simp) _ _)
  · have b1 := (a5.setCell (p := ⟨lb + 1, 0, none⟩) (by simp; omega) (sv x.1)).alloc (by rw [setCell_size]; exact a5.size) o
    have hy := a4.size
    have h6 : w.heap.size ≤ y6.heap.size := by omega
    exact (b1.grown hgrow b1.size (fun k e => by have := (hf k e).1; omega)).setCell (p := ⟨lb, 0, none⟩) hw v'
theorem KTb {X Y : List Nat} {w w' : World} {b : Nat} {L : LT} (k : KT Y w w') (h : Tri w X b L) (hb : b ∉ Y) : w'.heap[b]? = w.heap[b]? := by
  obtain ⟨T, h1, _⟩ := h.tree
  rw [h1]; exact k.cells _ _ _ _ hb h1
/-- between the rounds over the second trie -/
def I2 (w y8 : World) (kb D : Nat) (pre : LT) (W : World) : Prop := W.heap[kb]? = some (.cells #[.int .i64 (pre.length : Int)] 3) ∧ KT [kb] y8 W ∧ Below w.heap.size w W ∧ W.heap[D]? = some (.deferred (some []))
theorem I2_own {w y8 : World} {kb D : Nat} (hw : w.heap.size ≤ y8.heap.size) (hD : D < y8.heap.size) : OwnFrom y8.heap.size (fun pre W => I2 w y8 kb D pre W) := fun s A B row hs hg hr =>
  let ⟨a1, a4, a5, a6⟩ := hs
  ⟨cells_grown hg (fun r e => (hr r e).2) a1, a4.trans (KT.grown hg fun r e => (hr r e).2), a5.grown hg a5.size (fun k e => by have := (hr k e).1; omega), gk hg a6 (fun e => by have := (hr D e).1; omega)⟩
theorem own_cell2 {w : World} {base : Nat} {v : Value} {L : LT} (h : w.ownsRow base tS 1 v L.length (L.map fun x => sv x.1)) : ∃ o cap, v = .slice o L.length cap ∧ ∀ i (hi : i < L.length), ∃ g, o = some ⟨g, 0, none⟩ ∧ w.cell? ⟨g, i, none⟩ = some (sv (L[i]).1) := by
  obtain ⟨h1, h2 | ⟨g, cap, cur, e, h3, h4, h5, h6, h7, h8⟩⟩ := h
  · refine ⟨none, 0, by rw [h2.1, h2.2], fun i hi => by omega⟩
  · refine ⟨_, cap, e, fun i hi => ⟨g, rfl, ?_⟩⟩
    simp only [World.cell?, h4]
    have : (L.map fun x => sv x.1)[i]? = some (sv (L[i]).1) := by simp [hi]
    rw [← h8, List.getElem?_take, if_pos (by omega), Array.getElem?_toList] at this
    exact this
end Go.Proofs.YtheeicjoblkfnaaGreatDoor.Ru
