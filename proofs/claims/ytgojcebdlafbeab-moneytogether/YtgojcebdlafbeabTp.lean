/- MoneyTogether: sums of parts; an append that keeps its argument's row. -/
import Derived.Test.YtgojcebdlafbeabBq
import Derived.Test.YtgojcebdlafbeabSj
import Derived.Test.YtgojcebdlafbeabOw
import Derived.Test.YtgojcebdlafbeabPick
namespace Go.Proofs.Ytgojcebdlafbeab.Tp
set_option linter.unusedVariables false
open Go.RowKit Sl Kb Mp Sa Sf Ow
def pf (x : Int) : Int := Pick.pickOf x 2000000000
def pl (z : List Int) (j : Nat) : List Int := (z.take j).map pf
theorem pl_succ (z : List Int) (j : Nat) (h : j < z.length) : pl z (j + 1) = pl z j ++ [pf z[j]] := by
  rw [pl, pl, take_snoc z j h, List.map_append]; rfl
theorem pl_len (z : List Int) (j : Nat) (h : j ≤ z.length) : (pl z j).length = j := by simp [pl, h]
theorem pf_in (x : Int) : 0 ≤ pf x ∧ pf x ≤ 1999999999 := by
  have h1 := Pick.pick_lo x 2000000000 (by decide)
  have h2 := Pick.pick_hi x 2000000000 (by decide)
  unfold pf; omega
theorem pl_in (z : List Int) (j : Nat) : ∀ x ∈ pl z j, 0 ≤ x ∧ x ≤ 1999999999 := by
  intro x hx
  obtain ⟨y, _, rfl⟩ := List.mem_map.1 hx
  exact pf_in y
theorem sm_le (L : List Int) (h : ∀ x ∈ L, 0 ≤ x ∧ x ≤ 1999999999) : 0 ≤ sm L ∧ sm L ≤ 1999999999 * L.length := by
  induction L with
  | nil => simp [sm]
  | cons x l ih =>
    have h1 := ih (fun y hy => h y (List.mem_cons_of_mem _ hy))
    have h2 := h x List.mem_cons_self
    simp only [sm, List.length_cons]; omega
theorem all_A (L : List Int) (h : ∀ x ∈ L, 0 ≤ x ∧ x ≤ 1999999999) : L.all isA = true :=
  List.all_eq_true.2 fun x hx => (isA_iff x).2 (by have := h x hx; omega)
theorem sm_rev (L : List Int) : sm L.reverse = sm L := by
  induction L with
  | nil => rfl
  | cons x l ih => rw [List.reverse_cons, sm_append, ih]; simp [sm]; omega
theorem sm_cut (L : List Int) (k : Nat) : sm (L.take k) + sm (L.drop k) = sm L := by
  rw [← sm_append, List.take_append_drop]
theorem wf_in {L : List Int} (h : ∀ x ∈ L, 0 ≤ x ∧ x ≤ 1999999999) : ∀ x ∈ L, (Lit.int .i64 x).wf = true := by
  intro x hx
  have := h x hx
  have m1 : IntKind.i64.min = -9223372036854775808 := rfl
  have m2 : IntKind.i64.max = 9223372036854775807 := rfl
  simp only [Lit.wf, Bool.and_eq_true, decide_eq_true_eq, m1, m2]
  omega
theorem good {L : List Int} (h : ∀ x ∈ L, 0 ≤ x ∧ x ≤ 1999999999) (hl : L.length ≤ 100) : sumV L = sm L ∧ sumE L = 0 := by
  have := sm_le L h
  have h2 : sm L ≤ 999999999999 := by omega
  simp [sumV, sumE, all_A L h, h2]
theorem two {x y : Int} (hx : 0 ≤ x) (hy : 0 ≤ y) (h : x + y ≤ 999999999999) : sumV [x, y] = x + y ∧ sumE [x, y] = 0 := by
  have a1 : isA x = true := (isA_iff x).2 (by omega)
  have a2 : isA y = true := (isA_iff y).2 (by omega)
  simp [sumV, sumE, sm, a1, a2, h]
theorem over {L : List Int} (h : ∀ x ∈ L, 0 ≤ x ∧ x ≤ 1999999999) : sumE (L ++ [999999999999, 1]) = 13 := by
  have h1 := (sm_le L h).1
  have h2 : ¬ sm (L ++ [999999999999, 1]) ≤ 999999999999 := by rw [sm_append]; simp [sm]; omega
  have h3 : (L ++ [999999999999, 1]).all isA = true := by rw [List.all_append, all_A L h]; decide
  rw [sumE, if_pos h3, if_neg h2]
theorem bad (L : List Int) : sumE (L ++ [-1]) = 71 := by
  have h3 : (L ++ [-1]).all isA = false := by rw [List.all_append]; simp [isA]
  rw [sumE, h3]; rfl
theorem revs {L : List Int} {m : Nat} (h : m < L.length) : (L.drop m).reverse = (L.drop (m + 1)).reverse ++ [L[m]] := by
  rw [List.drop_eq_getElem_cons h, List.reverse_cons]
/-- what was dealt out, as a list -/
def fl (f : Nat → Int) (n : Nat) : List Int := (List.range n).map f
theorem fl_len (f : Nat → Int) (n : Nat) : (fl f n).length = n := by simp [fl]
theorem fl_sm (f : Nat → Int) (n : Nat) : sm (fl f n) = smF f n := by
  induction n with
  | zero => rfl
  | succ n ih => rw [fl, List.range_succ, List.map_append, sm_append, ← fl, ih, smF]; simp [sm]
theorem fl_good {f : Nat → Int} {n : Nat} {u : Int} (h0 : ∀ i, i < n → 0 ≤ f i) (hs : smF f n = u) (hu : u ≤ 999999999999) : sumV (fl f n) = u ∧ sumE (fl f n) = 0 ∧ ∀ x ∈ fl f n, (Lit.int .i64 x).wf = true := by
  have hin : ∀ x ∈ fl f n, 0 ≤ x ∧ x ≤ 999999999999 := by
    intro x hx
    obtain ⟨i, hi, rfl⟩ := List.mem_map.1 hx
    have hi := List.mem_range.1 hi
    have := smF_part f i n h0 hi
    have := h0 i hi
    omega
  have ha : (fl f n).all isA = true := List.all_eq_true.2 fun x hx => (isA_iff x).2 (hin x hx)
  have e := fl_sm f n
  rw [hs] at e
  refine ⟨?_, ?_, ?_⟩
  · rw [sumV, if_pos ha, e, if_pos hu]
  · rw [sumE, if_pos ha, e, if_pos hu]
  · intro x hx
    have := hin x hx
    have m1 : IntKind.i64.min = -9223372036854775808 := rfl
    have m2 : IntKind.i64.max = 9223372036854775807 := rfl
    simp only [Lit.wf, Bool.and_eq_true, decide_eq_true_eq, m1, m2]
    omega
theorem fl_lies {w : World} {f : Nat → Int} {n g : Nat} (hn : n ≤ 1000) (hg : w.heap[g]? = some (.cells (inC n f) 3 (0, 0))) (hw : ∀ x ∈ fl f n, (Lit.int .i64 x).wf = true) : Lies w (.slice (some ⟨g, 0, none⟩) n n) (fl f n) := by
  refine Or.inr ⟨⟨g, 0, none⟩, n, by rw [fl_len], by rw [fl_len]; exact Nat.le_refl _, by unfold maxLen; omega, fun i hi => ?_, hw⟩
  rw [fl_len] at hi
  rw [add0, Sc.cell_row hg (inC_get _ _ _ hi)]
  simp [fl]
/-- a part of a row that lies -/
theorem cut_lies {w : World} {a : Addr} {cap : Nat} {L : List Int} (h : Lies w (.slice (some a) L.length cap) L) (k : Nat) (hk : k ≤ L.length) :
    Lies w (.slice (some a) k cap) (L.take k) ∧ Lies w (.slice (some (a.add k)) (L.length - k) (cap - k)) (L.drop k) := by
  rcases h with ⟨e, _⟩ | ⟨a', cap', e, h1, h2, hc, hw⟩
  · cases e
  · injection e with e1 e2 e3
    injection e1 with e1
    subst e1; subst e3
    refine ⟨Or.inr ⟨a, cap, by simp [hk], by simp; omega, h2, fun i hi => ?_, fun x hx => hw x (List.mem_of_mem_take hx)⟩, Or.inr ⟨a.add k, cap - k, by simp, by simp; omega, by omega, fun i hi => ?_, fun x hx => hw x (List.mem_of_mem_drop hx)⟩⟩
    · simp at hi
      rw [hc i (by omega)]; simp
    · simp at hi
      have e : (a.add k).add i = a.add (k + i) := by
        unfold Addr.add
        by_cases hk0 : k = 0
        · subst hk0; simp
        · by_cases hi0 : i = 0
          · subst hi0; simp
          · rw [if_neg hi0, if_neg hk0, if_neg (by omega)]; simp [Nat.add_assoc]
      rw [e, hc (k + i) (by omega)]; simp
theorem pair_lies {w : World} {g : Nat} {x y : Int} (hg : w.heap[g]? = some (.cells #[.int .i64 x, .int .i64 y] 3 (0, 0))) (hx : (Lit.int .i64 x).wf = true) (hy : (Lit.int .i64 y).wf = true) : Lies w (.slice (some ⟨g, 0, none⟩) 2 2) [x, y] := by
  refine Or.inr ⟨⟨g, 0, none⟩, 2, rfl, Nat.le_refl _, by unfold maxLen; omega, fun i hi => ?_, ?_⟩
  · rw [add0]
    match i, hi with
    | 0, _ => exact Sc.cell_row hg rfl
    | 1, _ => exact Sc.cell_row hg rfl
  · intro u hu
    simp only [List.mem_cons, List.not_mem_nil, or_false] at hu
    rcases hu with rfl | rfl
    · exact hx
    · exact hy
theorem wf_one {n : Int} (h0 : -2 ≤ n) (h1 : n ≤ 999999999999) : (Lit.int .i64 n).wf = true := by
  have m1 : IntKind.i64.min = -9223372036854775808 := rfl
  have m2 : IntKind.i64.max = 9223372036854775807 := rfl
  simp only [Lit.wf, Bool.and_eq_true, decide_eq_true_eq, m1, m2]
  omega
theorem wf_most : ∀ x ∈ [(999999999999 : Int), 1], (Lit.int .i64 x).wf = true := by
  intro x hx
  simp only [List.mem_cons, List.not_mem_nil, or_false] at hx
  rcases hx with rfl | rfl <;> exact wf_one (by omega) (by omega)
theorem wf_neg : ∀ x ∈ [(-1 : Int)], (Lit.int .i64 x).wf = true := by
  intro x hx
  simp only [List.mem_cons, List.not_mem_nil, or_false] at hx
  subst hx; exact wf_one (by omega) (by omega)
theorem wf_uno : ∀ x ∈ [(1 : Int)], (Lit.int .i64 x).wf = true := by
  intro x hx
  simp only [List.mem_cons, List.not_mem_nil, or_false] at hx
  subst hx; exact wf_one (by omega) (by omega)
theorem own_below {w w' : World} {base e size n : Nat} {v : Value} {xs : List Value} (h : w.ownsRow base e size v n xs) (b : Below w.heap.size w w') : w'.ownsRow base e size v n xs := by
  refine ⟨h.1, ?_⟩
  rcases h.2 with hn | ⟨g, cap, cur, rfl, hb, hgg, rest⟩
  · exact .inl hn
  · exact .inr ⟨g, cap, cur, rfl, hb, Kb.kept b hgg, rest⟩
theorem iv_one' (x : Int) : iv [x] = [.int .i64 x] := rfl
theorem own_snoc {w : World} {base n m : Nat} {v : Value} {z y : List Int} (hn : n + m = (z ++ y).length) (h : w.ownsRow base 3 1 v (n + m) (iv z ++ iv y)) (hz : ∀ x ∈ z ++ y, (Lit.int .i64 x).wf = true) : Lies w v (z ++ y) := by
  rw [← iv_append] at h
  exact own_lies hn h hz
theorem wf_app {z y : List Int} (hz : ∀ x ∈ z, (Lit.int .i64 x).wf = true) (hy : ∀ x ∈ y, (Lit.int .i64 x).wf = true) : ∀ x ∈ z ++ y, (Lit.int .i64 x).wf = true := by
  intro x hx
  rcases List.mem_append.1 hx with h | h
  · exact hz x h
  · exact hy x h
theorem below_grown {w x y : World} {v : Value} {base n e : Nat} {xs : List Value} (hb : Below w.heap.size w x) (hg : x.grownBy y v.ownBlock) (ho : x.ownsRow base e 1 v n xs) (hbase : w.heap.size ≤ base) : Below w.heap.size w y :=
  hb.grown hg hb.size fun k hk => by have := ho.lt k hk; omega
theorem own_drew {w : World} {base e size n : Nat} {v : Value} {xs : List Value} (h : w.ownsRow base e size v n xs) : w.drew.ownsRow base e size v n xs := h
theorem run_append_keeps {P : Program} (w : World) (t ty : TypeId) (base : Nat) (e : TypeId) (i : TypeInfo) (z : Value) (size bytes : Nat) (ht : P.underlying t = some (.slice e)) (hi : P.info? e = some i) (hz : i.zero = some z)
    (hsize : i.size = size) (hby : i.bytes = bytes)
    (v : Value) (n : Nat) (xs : List Value) (hown : w.ownsRow base e size v n xs)
    (ad : Addr) (m c : Nat) (news : List Value) (hl : news.length = m * size) (hnews : ∀ j u, news[j]? = some u → w.cell? (ad.add j) = some u) (h1 : ∀ u ∈ news, u.oneCell' = true)
    (h63 : n + m ≤ maxLen) (hbytes : (n + m) * bytes ≤ 140737488355328) (v' : Value) (w' : World)
    (hr : (Builtin.append_ #[t, t] ty #[v, .slice (some ad) m c]).run P w = .ok v' w') : w'.ownsRow base e size v n xs := by
  subst hsize
  subst hby
  have h63' := h63
  unfold maxLen at h63'
  refine ⟨hown.1, ?_⟩
  rcases hown.2 with ⟨rfl, rfl⟩ | ⟨g, cap, cur, rfl, hbg, hg, hnc, hcm, hcs, htake⟩
  · exact .inl ⟨rfl, rfl⟩
  · by_cases hroom : n + m ≤ cap
    · have hfit : n * i.size + news.length ≤ cur.size := by rw [hl, hcs, ← Nat.add_mul]; exact Nat.mul_le_mul_right _ hroom
      have hr2 := run_append_room (P := P) w t ty e i ht hi g n cap cur hg ad m c news hl hnews h1 hroom hfit
      rw [hr] at hr2
      injection hr2 with _ hw
      subst hw
      refine .inr ⟨g, cap, _, rfl, hbg, setRow_heap w g cur _ e _ hg, hnc, hcm, ?_, ?_⟩
      · simp only [List.size_toArray, List.length_append, List.length_take, List.length_drop, Array.length_toList]
        omega
      · rw [htake]
        show List.take (n * i.size) (xs ++ news ++ _) = xs
        rw [List.append_assoc, ← hown.1]
        exact List.take_left
    · have holds : ∀ j u, xs[j]? = some u → w.cell? ((⟨g, 0, none⟩ : Addr).add j) = some u := hown.cells (g := g) rfl
      have hr2 := run_append_grow (P := P) w t ty e i z ht hi hz ⟨g, 0, none⟩ n cap xs hown.1 holds ad m c news hl hnews (by omega) (by omega) (growslice_fits (by omega) hbytes)
      rw [hr] at hr2
      injection hr2 with _ hw
      subst hw
      exact .inr ⟨g, cap, cur, rfl, hbg, (show (w.drew.alloc _).heap[g]? = w.drew.heap[g]? from heap_alloc_old _ _ (Array.getElem?_eq_some_iff.1 hg).1).trans hg, hnc, hcm, hcs, htake⟩
theorem wp_append_keeps {P : Program} (w : World) {o : Oper} {a : Act} {K : Act → World → Prop} {Q : Exit → Act → World → Prop} (s x : Operand) (t : TypeId)
    (ho : o.op = .call { callee := .builtin .append, args := #[s, x], argTypes := #[t, t] })
    (base : Nat) (e : TypeId) (i : TypeInfo) (z : Value) (size bytes : Nat) (ht : P.underlying t = some (.slice e)) (hi : P.info? e = some i) (hz : i.zero = some z)
    (hsize : i.size = size) (hby : i.bytes = bytes) (hzs : z.cells.size = size) (hsz : 0 < size)
    (v : Value) (n : Nat) (xs : List Value) (hs : a.eval s = v) (hown : w.ownsRow base e size v n xs)
    (ad : Addr) (m c : Nat) (news : List Value) (hx : a.eval x = .slice (some ad) m c) (hl : news.length = m * size) (hnews : ∀ j u, news[j]? = some u → w.cell? (ad.add j) = some u) (h1 : ∀ u ∈ news, u.oneCell' = true)
    (hm : 0 < m) (h63 : n + m ≤ maxLen) (hbytes : (n + m) * bytes ≤ 140737488355328) (hbase : base ≤ w.heap.size) (H : Nat) (hH : w.heap.size = H)
    (h : ∀ g cap w', w'.ownsRow base e size (.slice (some ⟨g, 0, none⟩) (n + m) cap) (n + m) (xs ++ news) → w'.ownsRow base e size v n xs → w.grownBy w' v.ownBlock → (v.ownBlock = some g ∨ g = H) → g < w'.heap.size → K (a.put o.dst (.slice (some ⟨g, 0, none⟩) (n + m) cap)) w') : o.wp P a w K Q := by
  obtain ⟨g, cap, w', hr, h2, h3, h4, h5⟩ := run_append_lies (P := P) w t o.type base e i z size bytes ht hi hz hsize hby hzs hsz v n xs hown ad m c news hl hnews h1 hm h63 hbytes hbase H hH
  have hk := run_append_keeps (P := P) w t o.type base e i z size bytes ht hi hz hsize hby v n xs hown ad m c news hl hnews h1 h63 hbytes _ _ hr
  unfold Oper.wp execOp
  simp only [ho, resolve, invoke, builtin, Sem.run_bind, Sem.run_pure, Result.andThen_ok, List.map_toArray, List.map_cons, List.map_nil, hs, hx, hr]
  exact h g cap w' h2 hk h3 h4 h5
theorem wpList_append_keeps {P : Program} (w : World) {ops : Array Oper} {rest : List Oper} {o : Oper} {a : Act} {Q : Exit → Act → World → Prop} (hgd : o.guard = none) (s x : Operand) (t : TypeId)
    (ho : o.op = .call { callee := .builtin .append, args := #[s, x], argTypes := #[t, t] })
    (base : Nat) (e : TypeId) (i : TypeInfo) (z : Value) (size bytes : Nat) (ht : P.underlying t = some (.slice e)) (hi : P.info? e = some i) (hz : i.zero = some z)
    (hsize : i.size = size) (hby : i.bytes = bytes) (hzs : z.cells.size = size) (hsz : 0 < size)
    (v : Value) (n : Nat) (xs : List Value) (hs : a.eval s = v) (hown : w.ownsRow base e size v n xs)
    (ad : Addr) (m c : Nat) (news : List Value) (hx : a.eval x = .slice (some ad) m c) (hl : news.length = m * size) (hnews : ∀ j u, news[j]? = some u → w.cell? (ad.add j) = some u) (h1 : ∀ u ∈ news, u.oneCell' = true)
    (hm : 0 < m) (h63 : n + m ≤ maxLen) (hbytes : (n + m) * bytes ≤ 140737488355328) (hbase : base ≤ w.heap.size) (H : Nat) (hH : w.heap.size = H)
    (h : ∀ g cap w', w'.ownsRow base e size (.slice (some ⟨g, 0, none⟩) (n + m) cap) (n + m) (xs ++ news) → w'.ownsRow base e size v n xs → w.grownBy w' v.ownBlock → (v.ownBlock = some g ∨ g = H) → g < w'.heap.size → wpList P ops Q rest (a.put o.dst (.slice (some ⟨g, 0, none⟩) (n + m) cap)) w') : wpList P ops Q (o :: rest) a w :=
  wpList_plain hgd fun _ hK => wp_append_keeps w s x t ho base e i z size bytes ht hi hz hsize hby hzs hsz v n xs hs hown ad m c news hx hl hnews h1 hm h63 hbytes hbase H hH fun g cap w' h2 h3 h4 h5 h6 => hK _ _ (h g cap w' h2 h3 h4 h5 h6)
end Go.Proofs.Ytgojcebdlafbeab.Tp
