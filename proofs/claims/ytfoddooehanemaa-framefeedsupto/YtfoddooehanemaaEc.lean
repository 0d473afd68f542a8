/- Frames: lists that came out stay apart. -/
import Derived.Test.YtfoddooehanemaaEb
namespace Go.Proofs.Ytfoddooehanemaa.Ec
set_option linter.unusedVariables false
set_option linter.unusedSimpArgs false
open Go.RowKit Lib0 Kb Fa Fb Fc Fm Fe Ff Fg Fk Fu Fv Eb
theorem run_append_keeps {P : Program} (w : World) (t ty : TypeId) (base : Nat) (e : TypeId) (i : TypeInfo) (z : Value) (size bytes : Nat) (ht : P.underlying t = some (.slice e)) (hi : P.info? e = some i) (hz : i.zero = some z)
    (hsize : i.size = size) (hby : i.bytes = bytes)
    (v : Value) (n : Nat) (xs : List Value) (hown : w.ownsRow base e size v n xs)
    (ad : Addr) (m c : Nat) (news : List Value) (hl : news.length = m * size) (hnews : ∀ j u, news[j]? = some u → w.cell? (ad.add j) = some u) (h1 : ∀ u ∈ news, u.oneCell' = true)
    (h63 : n + m ≤ maxLen) (hbytes : (n + m) * bytes ≤ 140737488355328) (v' : Value) (w' : World)
    (hr : (Builtin.append_ #[t, t] ty #[v, .slice (some ad) m c]).run P w = .ok v' w') : w'.ownsRow base e size v n xs := by
  subst hsize
  subst hby
  have h63' := h63
  unfold maxLen at h63'
  refine ⟨hown.1, ?_⟩
  rcases hown.2 with ⟨rfl, rfl⟩ | ⟨g, cap, cur, rfl, hbg, hg, hnc, hcm, hcs, htake⟩
  · exact .inl ⟨rfl, rfl⟩
  · by_cases hroom : n + m ≤ cap
    · have hfit : n * i.size + news.length ≤ cur.size := by rw [hl, hcs, ← Nat.add_mul]; exact Nat.mul_le_mul_right _ hroom
      have hr2 := run_append_room (P := P) w t ty e i ht hi g n cap cur hg ad m c news hl hnews h1 hroom hfit
      rw [hr] at hr2
      injection hr2 with _ hw
      subst hw
      refine .inr ⟨g, cap, _, rfl, hbg, setRow_heap w g cur _ e _ hg, hnc, hcm, ?_, ?_⟩
      · simp only [List.size_toArray, List.length_append, List.length_take, List.length_drop, Array.length_toList]
        omega
      · rw [htake]
        show List.take (n * i.size) (xs ++ news ++ _) = xs
        rw [List.append_assoc, ← hown.1]
        exact List.take_left
    · have holds : ∀ j u, xs[j]? = some u → w.cell? ((⟨g, 0, none⟩ : Addr).add j) = some u := hown.cells (g := g) rfl
      have hr2 := run_append_grow (P := P) w t ty e i z ht hi hz ⟨g, 0, none⟩ n cap xs hown.1 holds ad m c news hl hnews (by omega) (by omega) (growslice_fits (by omega) hbytes)
      rw [hr] at hr2
      injection hr2 with _ hw
      subst hw
      exact .inr ⟨g, cap, cur, rfl, hbg, (show (w.drew.alloc _).heap[g]? = w.drew.heap[g]? from heap_alloc_old _ _ (Array.getElem?_eq_some_iff.1 hg).1).trans hg, hnc, hcm, hcs, htake⟩
theorem wp_append_keeps {P : Program} (w : World) {o : Oper} {a : Act} {K : Act → World → Prop} {Q : Exit → Act → World → Prop} (s x : Operand) (t : TypeId)
    (ho : o.op = .call { callee := .builtin .append, args := #[s, x], argTypes := #[t, t] })
    (base : Nat) (e : TypeId) (i : TypeInfo) (z : Value) (size bytes : Nat) (ht : P.underlying t = some (.slice e)) (hi : P.info? e = some i) (hz : i.zero = some z)
    (hsize : i.size = size) (hby : i.bytes = bytes) (hzs : z.cells.size = size) (hsz : 0 < size)
    (v : Value) (n : Nat) (xs : List Value) (hs : a.eval s = v) (hown : w.ownsRow base e size v n xs)
    (ad : Addr) (m c : Nat) (news : List Value) (hx : a.eval x = .slice (some ad) m c) (hl : news.length = m * size) (hnews : ∀ j u, news[j]? = some u → w.cell? (ad.add j) = some u) (h1 : ∀ u ∈ news, u.oneCell' = true)
    (hm : 0 < m) (h63 : n + m ≤ maxLen) (hbytes : (n + m) * bytes ≤ 140737488355328) (hbase : base ≤ w.heap.size) (H : Nat) (hH : w.heap.size = H)
    (h : ∀ g cap w', w'.ownsRow base e size (.slice (some ⟨g, 0, none⟩) (n + m) cap) (n + m) (xs ++ news) → w'.ownsRow base e size v n xs → w.grownBy w' v.ownBlock → (v.ownBlock = some g ∨ g = H) → g < w'.heap.size → K (a.put o.dst (.slice (some ⟨g, 0, none⟩) (n + m) cap)) w') : o.wp P a w K Q := by
  obtain ⟨g, cap, w', hr, h2, h3, h4, h5⟩ := run_append_lies (P := P) w t o.type base e i z size bytes ht hi hz hsize hby hzs hsz v n xs hown ad m c news hl hnews h1 hm h63 hbytes hbase H hH
  have hk := run_append_keeps (P := P) w t o.type base e i z size bytes ht hi hz hsize hby v n xs hown ad m c news hl hnews h1 h63 hbytes _ _ hr
  unfold Oper.wp execOp
  simp only [ho, resolve, invoke, builtin, Sem.run_bind, Sem.run_pure, Result.andThen_ok, List.map_toArray, List.map_cons, List.map_nil, hs, hx, hr]
  exact h g cap w' h2 hk h3 h4 h5
theorem wpList_append_keeps {P : Program} (w : World) {ops : Array Oper} {rest : List Oper} {o : Oper} {a : Act} {Q : Exit → Act → World → Prop} (hgd : o.guard = none) (s x : Operand) (t : TypeId)
    (ho : o.op = .call { callee := .builtin .append, args := #[s, x], argTypes := #[t, t] })
    (base : Nat) (e : TypeId) (i : TypeInfo) (z : Value) (size bytes : Nat) (ht : P.underlying t = some (.slice e)) (hi : P.info? e = some i) (hz : i.zero = some z)
    (hsize : i.size = size) (hby : i.bytes = bytes) (hzs : z.cells.size = size) (hsz : 0 < size)
    (v : Value) (n : Nat) (xs : List Value) (hs : a.eval s = v) (hown : w.ownsRow base e size v n xs)
    (ad : Addr) (m c : Nat) (news : List Value) (hx : a.eval x = .slice (some ad) m c) (hl : news.length = m * size) (hnews : ∀ j u, news[j]? = some u → w.cell? (ad.add j) = some u) (h1 : ∀ u ∈ news, u.oneCell' = true)
    (hm : 0 < m) (h63 : n + m ≤ maxLen) (hbytes : (n + m) * bytes ≤ 140737488355328) (hbase : base ≤ w.heap.size) (H : Nat) (hH : w.heap.size = H)
    (h : ∀ g cap w', w'.ownsRow base e size (.slice (some ⟨g, 0, none⟩) (n + m) cap) (n + m) (xs ++ news) → w'.ownsRow base e size v n xs → w.grownBy w' v.ownBlock → (v.ownBlock = some g ∨ g = H) → g < w'.heap.size → wpList P ops Q rest (a.put o.dst (.slice (some ⟨g, 0, none⟩) (n + m) cap)) w') : wpList P ops Q (o :: rest) a w :=
  wpList_plain hgd fun _ hK => wp_append_keeps w s x t ho base e i z size bytes ht hi hz hsize hby hzs hsz v n xs hs hown ad m c news hx hl hnews h1 hm h63 hbytes hbase H hH fun g cap w' h2 h3 h4 h5 h6 => hK _ _ (h g cap w' h2 h3 h4 h5 h6)
theorem row_cells {w : World} {B N : Nat} {ba : Option Addr} {bc : Nat} {E : List En} (r : w.ownsRow B 78 2 (.slice ba N bc) N (flat E)) (hN : N = E.length) (k : Nat) (hk : k < E.length) : ∃ gB, ba = some ⟨gB, 0, none⟩ ∧ w.cell? ⟨gB, k * 2, none⟩ = some E[k].1 ∧ w.cell? ⟨gB, k * 2 + 1, none⟩ = some E[k].2.1 ∧ gB < w.heap.size := by
  rcases r.2 with ⟨h1, h2⟩ | ⟨gB, cap, cur, h1, h2, h3, _⟩
  · omega
  · injection h1 with h1 _ h4
    subst h1 h4
    have hc := r.cells (g := gB) rfl
    have e1 : ∀ j, (⟨gB, 0, none⟩ : Addr).add j = ⟨gB, j, none⟩ := fun j => by unfold Addr.add; split <;> simp_all
    refine ⟨gB, rfl, ?_, ?_, (Array.getElem?_eq_some_iff.1 h3).1⟩
    · rw [← e1]; exact hc _ _ (flat_at E k hk).1
    · rw [← e1]; exact hc _ _ (flat_at E k hk).2
theorem own_set {w : World} {B g n c : Nat} {xs : List Value} {i : Nat} (h : w.ownsRow B 9 1 (.slice (some ⟨g, 0, none⟩) n c) n xs) (hi : i < n) (v : Value) : (w.setCell ⟨g, i, none⟩ v).ownsRow B 9 1 (.slice (some ⟨g, 0, none⟩) n c) n (xs.set i v) := by
  refine ⟨by rw [List.length_set]; exact h.1, ?_⟩
  rcases h.2 with ⟨h1, _⟩ | ⟨g2, cap, cur, h1, h2, h3, h4, h5, h6, h7⟩
  · cases h1
  · injection h1 with h1 _ h8
    injection h1 with h1
    injection h1 with h1 _ _
    subst h1 h8
    refine .inr ⟨g, c, cur.setIfInBounds i v, rfl, h2, setCell_heap h3 i v, h4, h5, by rw [Array.size_setIfInBounds]; exact h6, ?_⟩
    rw [← h7, Array.toList_setIfInBounds, List.take_set]
theorem own_froz {w : World} {B g n c : Nat} {xs : List Value} (h : w.ownsRow B 9 1 (.slice (some ⟨g, 0, none⟩) n c) n xs) (i : Nat) : w.frozen? ⟨g, i, none⟩ = false := by
  rcases h.2 with ⟨h1, _⟩ | ⟨g2, cap, cur, h1, h2, h3, _⟩
  · cases h1
  · injection h1 with h1 _ h8
    injection h1 with h1
    injection h1 with h1 _ _
    subst h1
    unfold World.frozen?; rw [h3]; simp
theorem own_cell {w : World} {B g n c : Nat} {xs : List Value} (h : w.ownsRow B 9 1 (.slice (some ⟨g, 0, none⟩) n c) n xs) (i : Nat) (u : Value) (hu : xs[i]? = some u) : w.cell? ⟨g, i, none⟩ = some u := by
  have e1 : (⟨g, 0, none⟩ : Addr).add i = ⟨g, i, none⟩ := by unfold Addr.add; split <;> simp_all
  rw [← e1]
  exact h.cells rfl i u hu
theorem own_other {w : World} {B n g i : Nat} {v : Value} {xs : List Value} (h : w.ownsRow B 9 1 v n xs) (hne : v.ownBlock ≠ some g) (u : Value) : (w.setCell ⟨g, i, none⟩ u).ownsRow B 9 1 v n xs :=
  own_keep h fun p cur hp _ _ => setCell_ne (fun e : g = p => hne (e ▸ hp)) _ _
abbrev obs (E : List En) : List Nat := E.filterMap (·.1.ownBlock)
theorem mem_obs {E : List En} {k g : Nat} (hk : k < E.length) (h : E[k].1.ownBlock = some g) : g ∈ obs E := List.mem_filterMap.2 ⟨E[k], List.getElem_mem hk, h⟩
/-- while the lists are written over -/
structure M2 (w y : World) (B g0 : Nat) (bv : Value) (E : List En) (n i : Nat) : Prop where
  book : y.heap[g0]? = some (.cells #[bv] 34)
  row : y.ownsRow B 78 2 bv E.length (flat E)
  own : ∀ j (hj : j < E.length), ∃ xs, y.ownsRow B 9 1 E[j].1 E[j].2.2.length xs ∧ (j < n → xs = List.replicate E[j].2.2.length (str (mkL j))) ∧ (j = n → xs.take i = List.replicate i (str (mkL n)))
  fr : Fr (obs E) w y
section
variable {w y y1 : World} {B g0 : Nat} {bv : Value} {E : List En} {n i : Nat}
theorem M2.start (K : Bk w B g0 bv E) (h : Below w.heap.size w y) : M2 w y B g0 bv E 0 0 := by
  have K2 := K.below h
  exact ⟨K2.book, K2.row, fun j hj => ⟨_, K2.own _ (List.getElem_mem hj), fun h => absurd h (Nat.not_lt_zero _), fun _ => rfl⟩, Fr.of h⟩
theorem M2.below (M : M2 w y B g0 bv E n i) (h : Below y.heap.size y y1) : M2 w y1 B g0 bv E n i :=
  ⟨Kb.kept h M.book, own_below M.row h, fun j hj => by
    obtain ⟨xs, h1, h2⟩ := M.own j hj
    exact ⟨xs, own_below h1 h, h2⟩, M.fr.trans (Fr.of h)⟩
theorem M2.next (M : M2 w y B g0 bv E n i) (hn : n < E.length) (hi : i = E[n].2.2.length) : M2 w y B g0 bv E (n + 1) 0 := by
  refine ⟨M.book, M.row, fun j hj => ?_, M.fr⟩
  obtain ⟨xs, h1, h2, h3⟩ := M.own j hj
  refine ⟨xs, h1, fun h => ?_, fun _ => rfl⟩
  by_cases hjn : j < n
  · exact h2 hjn
  · obtain rfl : j = n := by omega
    have h4 := h3 rfl
    rw [hi] at h4
    rwa [List.take_of_length_le (by rw [h1.1]; omega)] at h4
theorem M2.store (M : M2 w y B g0 bv E n i) (sep : ∀ i j (hi : i < E.length) (hj : j < E.length), i ≠ j → ∀ g, E[i].1.ownBlock = some g → E[j].1.ownBlock ≠ some g) (hn : n < E.length) (hi : i < E[n].2.2.length) {gl c : Nat} (e : E[n].1 = .slice (some ⟨gl, 0, none⟩) E[n].2.2.length c) : M2 w (y.setCell ⟨gl, i, none⟩ (str (mkL n))) B g0 bv E n (i + 1) := by
  obtain ⟨xn, hx1, hx2, hx3⟩ := M.own n hn
  have hgl : E[n].1.ownBlock = some gl := by rw [e]; rfl
  obtain ⟨cs, hcs⟩ := own_cells hx1 gl hgl
  refine ⟨(setCell_ne (fun h : gl = g0 => by subst h; rw [M.book] at hcs; injection hcs with hcs; injection hcs with _ hcs; exact absurd hcs (by decide)) _ _).trans M.book, own_setg M.row hcs (by decide) _, fun j hj => ?_, M.fr.set (.inl (mem_obs hn hgl)) _ _⟩
  by_cases hjn : j = n
  · subst hjn
    rw [e] at hx1
    have h9 := own_set hx1 hi (str (mkL j))
    rw [← e] at h9
    refine ⟨_, h9, fun h => absurd h (Nat.lt_irrefl _), fun _ => ?_⟩
    have hl : i < xn.length := by rw [hx1.1]; omega
    rw [List.replicate_succ', ← hx3 rfl]
    apply List.ext_getElem?
    intro k
    simp only [List.getElem?_take, List.getElem?_set, List.getElem?_append, List.length_take]
    have hm : min i xn.length = i := by omega
    rw [hm]
    by_cases h1 : k < i
    · simp [h1, show ¬ i = k by omega, show k < i + 1 by omega]
    · by_cases h2 : k = i
      · subst h2; simp [hl]
      · simp [show ¬ k < i + 1 by omega, show ¬ k < i by omega]
        omega
  · obtain ⟨xs, h1, h2, h3⟩ := M.own j hj
    exact ⟨xs, own_other h1 (sep n j hn hj (Ne.symm hjn) gl hgl) _, h2, fun h => absurd h hjn⟩
end
def ln : Value → Nat
  | .slice _ n _ => n
  | _ => 0
/-- while the lists are grown: those from q on are as they were -/
structure T3 (w y : World) (B g0 : Nat) (bv : Value) (E : List En) (q m : Nat) (x : Value) (nx : Nat) (L : List (Value × Nat)) (av : Value) : Prop where
  book : y.heap[g0]? = some (.cells #[bv] 34)
  row : y.ownsRow B 78 2 bv E.length (flat E)
  arow : y.ownsRow w.heap.size 39 1 av L.length (L.map (·.1))
  ent : ∀ p ∈ L, y.ownsRow B 9 1 p.1 (ln p.1) (List.replicate (ln p.1) (str (mkL p.2)))
  xrow : y.ownsRow B 9 1 x nx (List.replicate nx (str (mkL m)))
  cur : ∀ p ∈ L, ∀ g, p.1.ownBlock = some g → x.ownBlock = some g → ln p.1 ≤ nx
  rest : ∀ j (hj : j < E.length), q ≤ j → y.ownsRow B 9 1 E[j].1 E[j].2.2.length (List.replicate E[j].2.2.length (str (mkL j)))
  sepE : ∀ p ∈ L, ∀ j (hj : j < E.length), q ≤ j → ∀ g, p.1.ownBlock = some g → E[j].1.ownBlock ≠ some g
  sepX : ∀ j (hj : j < E.length), q ≤ j → ∀ g, x.ownBlock = some g → E[j].1.ownBlock ≠ some g
  idx : ∀ k (hk : k < L.length), L[k].2 = k / 20
  fr : Fr (obs E) w y
  xin : ∀ g, x.ownBlock = some g → g ∈ obs E ∨ w.heap.size ≤ g
section
variable {w y y1 y2 : World} {B g0 : Nat} {bv : Value} {E : List En} {q m nx : Nat} {x av : Value} {L : List (Value × Nat)}
theorem T3.start (M : M2 w y B g0 bv E E.length 0) : T3 w y B g0 bv E 0 0 (.slice none 0 0) 0 [] (.slice none 0 0) :=
  ⟨M.book, M.row, ⟨rfl, .inl ⟨rfl, rfl⟩⟩, (by intro p hp; cases hp), ⟨rfl, .inl ⟨rfl, rfl⟩⟩, (by intro p hp; cases hp), fun j hj _ => by
    obtain ⟨xs, h1, h2, _⟩ := M.own j hj
    rw [← h2 hj]; exact h1, (by intro p hp; cases hp), (by intro j hj _ g hg; cases hg), (by intro k hk; simp at hk), M.fr, (by intro g hg; cases hg)⟩
theorem T3.below (T : T3 w y B g0 bv E q m x nx L av) (h : Below y.heap.size y y1) : T3 w y1 B g0 bv E q m x nx L av :=
  ⟨Kb.kept h T.book, own_below T.row h, own_below T.arow h, fun p hp => own_below (T.ent p hp) h, own_below T.xrow h, T.cur, fun j hj hq => own_below (T.rest j hj hq) h, T.sepE, T.sepX, T.idx, T.fr.trans (Fr.of h), T.xin⟩
theorem T3.drop (T : T3 w y B g0 bv E q m x nx L av) : T3 w y B g0 bv E q 0 (.slice none 0 0) 0 L av :=
  ⟨T.book, T.row, T.arow, T.ent, ⟨rfl, .inl ⟨rfl, rfl⟩⟩, (by intro p _ g _ hg; cases hg), T.rest, T.sepE, (by intro j hj _ g hg; cases hg), T.idx, T.fr, (by intro g hg; cases hg)⟩
theorem T3.take (T : T3 w y B g0 bv E q m x nx L av) (sep : ∀ i j (hi : i < E.length) (hj : j < E.length), i ≠ j → ∀ g, E[i].1.ownBlock = some g → E[j].1.ownBlock ≠ some g) (hq : q < E.length) : T3 w y B g0 bv E (q + 1) q E[q].1 E[q].2.2.length L av :=
  ⟨T.book, T.row, T.arow, T.ent, T.rest q hq (Nat.le_refl _), fun p hp g h1 h2 => absurd h2 (T.sepE p hp q hq (Nat.le_refl _) g h1), fun j hj h => T.rest j hj (by omega), fun p hp j hj h => T.sepE p hp j hj (by omega), fun j hj h g hg => sep q j hq hj (by omega) g hg, T.idx, T.fr, fun g hg => .inl (mem_obs hq hg)⟩
theorem ln_of {w : World} {B e n : Nat} {v : Value} {xs : List Value} (h : w.ownsRow B e 1 v n xs) : ln v = n := by
  rcases h.2 with ⟨rfl, rfl⟩ | ⟨g, cap, cur, rfl, _⟩ <;> rfl
theorem T3.push (T : T3 w y B g0 bv E q m x nx L av) {o : Obj} {av' : Value} (own : y2.ownsRow w.heap.size 39 1 av' (L.length + 1) (L.map (·.1) ++ [x])) (gr : (y.alloc o).grownBy y2 av.ownBlock) (hm : m = L.length / 20) : T3 w y2 B g0 bv E q m x nx (L ++ [(x, m)]) av' := by
  have hy := Kb.below_one y o
  have ar := own_below T.arow hy
  have kS : ∀ {B' n' : Nat} {v' : Value} {xs' : List Value}, y.ownsRow B' 9 1 v' n' xs' → y2.ownsRow B' 9 1 v' n' xs' := fun h => own_grown (own_below h hy) ar (by decide) gr
  have hx := kS T.xrow
  have hlx := ln_of T.xrow
  refine ⟨?_, own_grown (own_below T.row hy) ar (by decide) gr, by rw [List.map_append, List.length_append]; exact own, ?_, hx, ?_, fun j hj h => kS (T.rest j hj h), ?_, T.sepX, ?_, (T.fr.behind ((Below.refl _ _).alloc T.fr.size o)).grown gr (fun p hp => .inr (own_lo T.arow p hp).1), T.xin⟩
  · exact (grown_g gr g0 (Array.getElem?_eq_some_iff.1 T.book).1 (fun p hp he => own_ne T.arow T.book (by decide) (he ▸ hp))).trans T.book
  · intro p hp
    rcases List.mem_append.1 hp with h | h
    · exact kS (T.ent p h)
    · rw [List.mem_singleton.1 h, hlx]; exact hx
  · intro p hp g h1 h2
    rcases List.mem_append.1 hp with h | h
    · exact T.cur p h g h1 h2
    · rw [List.mem_singleton.1 h, hlx]; exact Nat.le_refl _
  · intro p hp j hj h g h1
    rcases List.mem_append.1 hp with h2 | h2
    · exact T.sepE p h2 j hj h g h1
    · rw [List.mem_singleton.1 h2] at h1; exact T.sepX j hj h g h1
  · intro k hk
    by_cases h : k < L.length
    · rw [List.getElem_append_left h]; exact T.idx k h
    · have : k = L.length := by simp at hk; omega
      subst this
      simp only [List.getElem_concat_length]
      exact hm
/-- a shorter view of a row that stays -/
theorem own_sub {w y : World} {B n1 n2 : Nat} {v x : Value} {a b : Value} (hv : w.ownsRow B 9 1 v n1 (List.replicate n1 a)) (hx : w.ownsRow B 9 1 x n2 (List.replicate n2 b)) (hy : y.ownsRow B 9 1 x n2 (List.replicate n2 b)) {g : Nat} (e1 : v.ownBlock = some g) (e2 : x.ownBlock = some g) (hle : n1 ≤ n2) : y.ownsRow B 9 1 v n1 (List.replicate n1 a) := by
  refine ⟨by simp, ?_⟩
  rcases hv.2 with ⟨rfl, _⟩ | ⟨gv, cv, curv, rfl, v1, v2, v3, v4, v5, v6⟩
  · cases e1
  · cases e1
    rcases hx.2 with ⟨rfl, _⟩ | ⟨gx, cx, curx, rfl, x1, x2, x3, x4, x5, x6⟩
    · cases e2
    · cases e2
      rcases hy.2 with ⟨h, _⟩ | ⟨gy, cy, cury, h, y1, y2, y3, y4, y5, y6⟩
      · cases h
      · injection h with h1 h2 h3
        injection h1 with h1
        injection h1 with h1 _ _
        subst h1 h3
        rw [v2] at x2
        injection x2 with x2
        injection x2 with x2
        subst x2
        refine .inr ⟨_, cv, cury, rfl, v1, y2, v3, v4, by omega, ?_⟩
        rw [Nat.mul_one] at *
        have t1 : cury.toList.take n1 = (List.replicate n2 b).take n1 := by rw [← y6, List.take_take, Nat.min_eq_left hle]
        have t2 : curv.toList.take n1 = (List.replicate n2 b).take n1 := by rw [← x6, List.take_take, Nat.min_eq_left hle]
        rw [t1, ← t2]
        exact v6
theorem T3.grow (T : T3 w y B g0 bv E q m x nx L av) {o : Obj} {g c : Nat} (own : y2.ownsRow B 9 1 (.slice (some ⟨g, 0, none⟩) (nx + 1) c) (nx + 1) (List.replicate nx (str (mkL m)) ++ [str (mkL m)])) (kp : y2.ownsRow B 9 1 x nx (List.replicate nx (str (mkL m)))) (gr : (y.alloc o).grownBy y2 x.ownBlock) (at_ : x.ownBlock = some g ∨ g = (y.alloc o).heap.size) : T3 w y2 B g0 bv E q m (.slice (some ⟨g, 0, none⟩) (nx + 1) c) (nx + 1) L av := by
  have hy := Kb.below_one y o
  have xr := own_below T.xrow hy
  have hsz : (y.alloc o).heap.size = y.heap.size + 1 := by simp
  have kO : ∀ {B' n' : Nat} {v' : Value} {xs' : List Value}, y.ownsRow B' 9 1 v' n' xs' → (∀ p, v'.ownBlock = some p → x.ownBlock ≠ some p) → y2.ownsRow B' 9 1 v' n' xs' := fun h hne => own_keep (own_below h hy) fun p cur hp _ hc => gr.block p (Array.getElem?_eq_some_iff.1 hc).1 (fun e => hne p hp e.symm)
  refine ⟨?_, own_grown (own_below T.row hy) xr (by decide) gr, own_grown (own_below T.arow hy) xr (by decide) gr, ?_, by rw [List.replicate_succ']; exact own, ?_, fun j hj h => kO (T.rest j hj h) (fun p hp hx => T.sepX j hj h p hx hp), T.sepE, ?_, T.idx, (T.fr.behind ((Below.refl _ _).alloc T.fr.size o)).grown gr (fun p hp => T.xin p hp), ?_⟩
  · exact (grown_g gr g0 (Array.getElem?_eq_some_iff.1 T.book).1 (fun p hp he => own_ne T.xrow T.book (by decide) (he ▸ hp))).trans T.book
  · intro p hp
    have hpr := T.ent p hp
    cases hb : p.1.ownBlock with
    | none => exact kO hpr (fun q hq => by rw [hb] at hq; cases hq)
    | some gp =>
      by_cases hxb : x.ownBlock = some gp
      · exact own_sub (own_below hpr hy) xr kp hb hxb (T.cur p hp gp hb hxb)
      · exact kO hpr (fun q hq => by rw [hb] at hq; cases hq; exact hxb)
  · intro p hp g' h1 h2
    cases h2
    rcases at_ with h | h
    · exact Nat.le_succ_of_le (T.cur p hp g h1 h)
    · have := (own_lo (T.ent p hp) g h1).2
      omega
  · intro j hj h g' h1 h2
    cases h1
    rcases at_ with h3 | h3
    · exact T.sepX j hj h g h3 h2
    · have := (own_lo (T.rest j hj h) g h2).2
      omega
  · intro g' h1
    cases h1
    rcases at_ with h3 | h3
    · exact T.xin g h3
    · have := T.fr.size
      exact .inr (show w.heap.size ≤ g by omega)
end
end Go.Proofs.Ytfoddooehanemaa.Ec
