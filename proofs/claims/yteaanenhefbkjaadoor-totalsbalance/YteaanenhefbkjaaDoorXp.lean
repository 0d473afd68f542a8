/- Wheels, plain: lists of what is laid down (timer, tick, thing); rows of three cells; what stays. -/
import Derived.Test.YteaanenhefbkjaaDoorKb
import Derived.Deep.WholeRow
import Derived.Maps.OwnSet
namespace Go.Proofs.YteaanenhefbkjaaDoor.Xp
set_option linter.unusedVariables false
set_option linter.unusedSimpArgs false
open Go.RowKit Lib0 Kb
abbrev XT := Int × Int × Value
abbrev LT := List XT
def agv (x : XT) : Value := .agg #[.int .i64 x.1, .int .i64 x.2.1, x.2.2]
def gc (L : LT) : List Value := L.flatMap fun x => [.int .i64 x.1, .int .i64 x.2.1, x.2.2]
def One (L : LT) : Prop := ∀ x ∈ L, x.2.2.oneCell' = true
theorem gc_nil : gc [] = [] := rfl
theorem gc_cons (x : XT) (L : LT) : gc (x :: L) = .int .i64 x.1 :: .int .i64 x.2.1 :: x.2.2 :: gc L := by simp [gc]
theorem gc_len : ∀ L : LT, (gc L).length = L.length * 3
  | [] => rfl
  | x :: L => by
    have := gc_len L
    rw [gc_cons]
    simp only [List.length_cons, this]
    omega
theorem gc_append (L M : LT) : gc (L ++ M) = gc L ++ gc M := by simp [gc]
theorem gc_at : ∀ (L : LT) (i : Nat) (h : i < L.length), (gc L)[i * 3]? = some (.int .i64 L[i].1) ∧ (gc L)[i * 3 + 1]? = some (.int .i64 L[i].2.1) ∧ (gc L)[i * 3 + 2]? = some L[i].2.2
  | [], i, h => by simp at h
  | x :: L, 0, h => by simp [gc]
  | x :: L, i + 1, h => by
    have := gc_at L i (by simpa using h)
    rw [gc_cons, show (i + 1) * 3 = i * 3 + 1 + 1 + 1 by omega, show i * 3 + 1 + 1 + 1 + 1 = (i * 3 + 1) + 1 + 1 + 1 by omega, show i * 3 + 1 + 1 + 1 + 2 = (i * 3 + 2) + 1 + 1 + 1 by omega]
    simpa using this
theorem gc_set : ∀ (L : LT) (i : Nat) (x : XT) (h : i < L.length), gc (L.set i x) = (((gc L).set (i * 3) (.int .i64 x.1)).set (i * 3 + 1) (.int .i64 x.2.1)).set (i * 3 + 2) x.2.2
  | [], i, x, h => by simp at h
  | y :: L, 0, x, h => by simp [gc]
  | y :: L, i + 1, x, h => by
    have := gc_set L i x (by simpa using h)
    rw [List.set_cons_succ, gc_cons, gc_cons, this, show (i + 1) * 3 = i * 3 + 1 + 1 + 1 by omega, show i * 3 + 1 + 1 + 1 + 1 = (i * 3 + 1) + 1 + 1 + 1 by omega, show i * 3 + 1 + 1 + 1 + 2 = (i * 3 + 2) + 1 + 1 + 1 by omega]
    simp only [List.set_cons_succ]
theorem gc_one {L : LT} (h : One L) : ∀ u ∈ gc L, u.oneCell' = true := by
  intro u hu
  simp only [gc, List.mem_flatMap] at hu
  obtain ⟨x, hx, hu⟩ := hu
  simp at hu
  rcases hu with rfl | rfl | rfl
  · simp [Value.oneCell']
  · simp [Value.oneCell']
  · exact h x hx
theorem gc_take (L : LT) (i : Nat) : (gc L).take (i * 3) = gc (L.take i) := by
  rcases Nat.lt_or_ge i L.length with h | h
  · have e : gc L = gc (L.take i) ++ gc (L.drop i) := by rw [← gc_append, List.take_append_drop]
    rw [e, List.take_append_of_le_length (by rw [gc_len, List.length_take]; omega), List.take_of_length_le (by rw [gc_len, List.length_take]; omega)]
  · rw [List.take_of_length_le (by rw [gc_len]; omega), List.take_of_length_le h]
theorem One.filter {L : LT} (h : One L) (p : XT → Bool) : One (L.filter p) := fun x hx => h x (List.mem_filter.1 hx).1
theorem One.append {L M : LT} (h : One L) (k : One M) : One (L ++ M) := fun x hx => (List.mem_append.1 hx).elim (h x) (k x)
/-- the cells of a row that can be read -/
def RowG (w : World) (v : Value) (L : LT) : Prop :=
  ∃ (o : Option Addr) (cap : Nat), v = .slice o L.length cap ∧ ∀ i (h : i < L.length), ∃ a : Addr, o = some a ∧ w.cell? (a.add (i * 3)) = some (.int .i64 L[i].1) ∧ w.cell? (a.add (i * 3 + 1)) = some (.int .i64 L[i].2.1) ∧ w.cell? (a.add (i * 3 + 2)) = some L[i].2.2
theorem add_field (a : Addr) (m j : Nat) (hj : 0 < j) : a.add (m + j) = ⟨(a.add m).block, (a.add m).off + j, Option.none⟩ := by
  unfold Addr.add
  rw [if_neg (by omega)]
  split
  · next h => subst h; simp
  · simp [Nat.add_assoc]
theorem add_zero (g j : Nat) : (⟨g, 0, none⟩ : Addr).add j = ⟨g, j, none⟩ := by unfold Addr.add; split <;> simp_all
theorem rowg_own {w : World} {base : Nat} {t : TypeId} {v : Value} {L : LT} (h : w.ownsRow base t 3 v L.length (gc L)) : RowG w v L := by
  rcases h.2 with ⟨rfl, h0⟩ | ⟨g, cap, cur, rfl, r⟩
  · have e : L = [] := List.eq_nil_of_length_eq_zero h0
    subst e
    exact ⟨none, 0, rfl, fun i hi => by simp at hi⟩
  · exact ⟨some ⟨g, 0, none⟩, cap, rfl, fun i hi => ⟨⟨g, 0, none⟩, rfl, h.cells (g := g) rfl _ _ (gc_at L i hi).1, h.cells (g := g) rfl _ _ (gc_at L i hi).2.1, h.cells (g := g) rfl _ _ (gc_at L i hi).2.2⟩⟩
theorem rowg_below {w x : World} {v : Value} {L : LT} (h : RowG w v L) (k : Below w.heap.size w x) : RowG x v L := by
  obtain ⟨o, cap, e, hc⟩ := h
  refine ⟨o, cap, e, fun i hi => ?_⟩
  obtain ⟨a, ea, c0, c1, c2⟩ := hc i hi
  have kk : ∀ p u, w.cell? p = some u → x.cell? p = some u := fun p u hp => (k.cell (World.block_lt_of_cell? w _ hp)).trans hp
  exact ⟨a, ea, kk _ _ c0, kk _ _ c1, kk _ _ c2⟩
theorem own_form {w : World} {base e size n : Nat} {v : Value} {xs : List Value} (h : w.ownsRow base e size v n xs) : ∃ o c, v = .slice o n c ∧ n ≤ c ∧ c ≤ maxLen ∧ (o = none → n = 0 ∧ c = 0) := by
  rcases h.2 with ⟨rfl, h0⟩ | ⟨g, cap, cur, rfl, h1, h2, h3, h4, h5⟩
  · subst h0; exact ⟨_, _, rfl, Nat.le_refl _, Nat.zero_le _, fun _ => ⟨rfl, rfl⟩⟩
  · exact ⟨_, _, rfl, h3, h4, fun h => by simp at h⟩
/-- what stays: all blocks but these -/
structure FrP (B : Nat → Prop) (w w' : World) : Prop where
  os : w'.os = w.os
  tape : w'.tape = w.tape
  output : w'.output = w.output
  size : w.heap.size ≤ w'.heap.size
  block : ∀ b, b < w.heap.size → ¬ B b → w'.heap[b]? = w.heap[b]?
theorem FrP.refl (B : Nat → Prop) (w : World) : FrP B w w := ⟨rfl, rfl, rfl, Nat.le_refl _, fun _ _ _ => rfl⟩
theorem FrP.trans {B C : Nat → Prop} {w x y : World} (h : FrP B w x) (k : FrP C x y) (hc : ∀ b, C b → B b ∨ w.heap.size ≤ b) : FrP B w y :=
  ⟨k.os.trans h.os, k.tape.trans h.tape, k.output.trans h.output, Nat.le_trans h.size k.size, fun b hb hn => (k.block b (Nat.lt_of_lt_of_le hb h.size) (fun h2 => (hc b h2).elim hn (fun h3 => by omega))).trans (h.block b hb hn)⟩
theorem FrP.of {B : Nat → Prop} {w x : World} (h : Below w.heap.size w x) : FrP B w x := ⟨h.os, h.tape, h.output, h.size, fun b hb _ => h.block b hb⟩
theorem FrP.below {B : Nat → Prop} {w x : World} (h : FrP B w x) (hb : ∀ b, B b → w.heap.size ≤ b) : Below w.heap.size w x := ⟨h.os, h.tape, h.output, h.size, fun b hb2 => h.block b hb2 (fun h2 => by have := hb b h2; omega)⟩
theorem FrP.behind {B : Nat → Prop} {w x y : World} (h : FrP B w x) (k : Below x.heap.size x y) : FrP B w y := h.trans (FrP.of (B := fun _ => False) k) (fun _ h => h.elim)
theorem FrP.mono {B C : Nat → Prop} {w x : World} (h : FrP B w x) (hc : ∀ b, B b → C b) : FrP C w x := ⟨h.os, h.tape, h.output, h.size, fun b hb hn => h.block b hb fun h2 => hn (hc b h2)⟩
theorem FrP.grown {B : Nat → Prop} {w x y : World} {r : Option Nat} (h : FrP B w x) (k : x.grownBy y r) (hr : ∀ g, r = some g → B g ∨ w.heap.size ≤ g) : FrP B w y :=
  ⟨k.os.trans h.os, k.tape.trans h.tape, k.output.trans h.output, Nat.le_trans h.size k.size, fun b hb hn => (k.block b (Nat.lt_of_lt_of_le hb h.size) (fun e => (hr b e.symm).elim hn (fun h3 => by omega))).trans (h.block b hb hn)⟩
theorem setCell_heap {w : World} {g : Nat} {c : Array Value} {t : TypeId} {fr : Nat × Nat} (h : w.heap[g]? = some (.cells c t fr)) (o : Nat) (v : Value) : (w.setCell ⟨g, o, none⟩ v).heap[g]? = some (.cells (c.setIfInBounds o v) t fr) := by
  show (w.heap.modify g _)[g]? = _
  rw [Array.getElem?_modify]; simp [h]
theorem setCell_ne {w : World} {p : Addr} {k : Nat} (h : p.block ≠ k) (v : Value) : (w.setCell p v).heap[k]? = w.heap[k]? := by
  show (w.heap.modify p.block _)[k]? = _
  rw [Array.getElem?_modify]; simp [h]
theorem setCell_size (w : World) (p : Addr) (v : Value) : (w.setCell p v).heap.size = w.heap.size := by
  show (w.heap.modify p.block _).size = _
  simp
theorem FrP.set {B : Nat → Prop} {w x : World} {p : Addr} (h : FrP B w x) (hg : B p.block ∨ w.heap.size ≤ p.block) (v : Value) : FrP B w (x.setCell p v) :=
  ⟨h.os, h.tape, h.output, by rw [setCell_size]; exact h.size, fun b hb hn => (setCell_ne (fun e : p.block = b => hg.elim (fun h2 => hn (e ▸ h2)) (fun h3 => by omega)) v).trans (h.block b hb hn)⟩
theorem own_keep {w x : World} {base e size n : Nat} {v : Value} {xs : List Value} (h : w.ownsRow base e size v n xs) (k : ∀ g, v.ownBlock = some g → x.heap[g]? = w.heap[g]?) : x.ownsRow base e size v n xs := by
  obtain ⟨h1, h2 | ⟨g, cap, cur, rfl, h3, h4, h5⟩⟩ := h
  · exact ⟨h1, .inl h2⟩
  · exact ⟨h1, .inr ⟨g, cap, cur, rfl, h3, (k g rfl).trans h4, h5⟩⟩
theorem own_ty {w : World} {base e size n : Nat} {v : Value} {xs : List Value} (h : w.ownsRow base e size v n xs) {g : Nat} (hg : v.ownBlock = some g) : ∃ c, w.heap[g]? = some (.cells c e (0, 0)) := by
  rcases h.2 with ⟨rfl, _⟩ | ⟨g', cap, cur, rfl, _, hh, _⟩
  · simp [Value.ownBlock] at hg
  · have : g' = g := by simpa [Value.ownBlock] using hg
    subst this
    exact ⟨_, hh⟩
theorem own_base {w : World} {base base' e size n : Nat} {v : Value} {xs : List Value} (h : w.ownsRow base e size v n xs) (k : ∀ g, v.ownBlock = some g → base' ≤ g) : w.ownsRow base' e size v n xs := by
  obtain ⟨h1, h2 | ⟨g, cap, cur, rfl, h3, h4, h5⟩⟩ := h
  · exact ⟨h1, .inl h2⟩
  · exact ⟨h1, .inr ⟨g, cap, cur, rfl, k g rfl, h4, h5⟩⟩
/-- the map's ticks: of each timer on the list its tick -/
def lkG (L : LT) (n : Int) : Option XT := L.find? fun x => x.1 == n
structure Mp (D : DataW Unit) (L : LT) : Prop where
  tidy : Maps.Tidy D
  has : ∀ t : Int, Maps.has D (.int .i64 t) = (lkG L t).isSome
  at_ : ∀ (t : Int) (x : XT), lkG L t = some x → ∀ z, D.atKey (.int .i64 t) z = .lit (.int .i64 x.2.1)
  size : Maps.size D = L.length
theorem lkG_mem {L : LT} {t : Int} {x : XT} (h : lkG L t = some x) : x ∈ L ∧ x.1 = t := by
  rw [lkG] at h
  exact ⟨List.mem_of_find?_eq_some h, by simpa using List.find?_some h⟩
theorem lkG_none {L : LT} {t : Int} : lkG L t = none ↔ ∀ x ∈ L, x.1 ≠ t := by
  rw [lkG, List.find?_eq_none]; simp
/-- timers rise -/
def Inc (L : LT) : Prop := L.Pairwise fun x y => x.1 < y.1
theorem Inc.filter {L : LT} (h : Inc L) (p : XT → Bool) : Inc (L.filter p) := List.Pairwise.filter _ h
theorem Inc.inj {L : LT} (h : Inc L) {x y : XT} (hx : x ∈ L) (hy : y ∈ L) (e : x.1 = y.1) : x = y := by
  induction L with
  | nil => cases hx
  | cons z L ih =>
    rw [Inc, List.pairwise_cons] at h
    rcases List.mem_cons.1 hx with ex | hx2
    · rcases List.mem_cons.1 hy with ey | hy2
      · rw [ex, ey]
      · have := h.1 y hy2; rw [ex] at e; omega
    · rcases List.mem_cons.1 hy with ey | hy2
      · have := h.1 x hx2; rw [ey] at e; omega
      · exact ih h.2 hx2 hy2
theorem lkG_of_mem {L : LT} (h : Inc L) {x : XT} (hx : x ∈ L) : lkG L x.1 = some x := by
  cases e : lkG L x.1 with
  | none => exact absurd rfl (lkG_none.1 e x hx)
  | some y => rw [h.inj (lkG_mem e).1 hx (lkG_mem e).2]
theorem isKey (t : Int) : WideAt.IsKeyLit (.int .i64 t) := by simp [WideAt.IsKeyLit]
theorem lit_ne {s t : Int} (h : s ≠ t) : (Lit.int .i64 s) ≠ (Lit.int .i64 t) := fun e => h (by injection e)
theorem mp_nil : Mp (.map []) [] := ⟨Maps.tidy_empty, fun t => rfl, fun t x h => by simp [lkG] at h, rfl⟩
theorem Mp.put {D : DataW Unit} {L : LT} (h : Mp D L) {x : XT} (hx : lkG L x.1 = none) : Mp (D.put (.int .i64 x.1) (.lit (.int .i64 x.2.1))) (L ++ [x]) := by
  have hh : Maps.has D (.int .i64 x.1) = false := by rw [h.has, hx]; rfl
  have lk : ∀ t, lkG (L ++ [x]) t = if t = x.1 then some x else lkG L t := by
    intro t
    rw [lkG, List.find?_append]
    by_cases e : t = x.1
    · subst e
      rw [if_pos rfl, show List.find? (fun y : XT => y.1 == x.1) L = none from hx]
      simp
    · rw [if_neg e]
      have : (x.1 == t) = false := by simpa using fun h : x.1 = t => e h.symm
      simp [List.find?, this]
      rfl
  refine ⟨h.tidy.put (isKey _) _, fun t => ?_, fun t y hy z => ?_, ?_⟩
  · rw [lk]
    by_cases e : t = x.1
    · subst e; rw [if_pos rfl, Maps.has_put_same h.tidy.isMap (isKey _)]; rfl
    · rw [if_neg e, Maps.has_put_other (lit_ne e), h.has]
  · rw [lk] at hy
    by_cases e : t = x.1
    · subst e
      rw [if_pos rfl] at hy
      cases hy
      exact Maps.atKey_put_same h.tidy.isMap (isKey _) _ _
    · rw [if_neg e] at hy
      rw [Maps.atKey_put_other (lit_ne e)]
      exact h.at_ t y hy z
  · rw [Maps.size_put h.tidy, hh, List.length_append]
    simp [h.size]
theorem Mp.del {D : DataW Unit} {L : LT} (h : Mp D L) (hi : Inc L) {x : XT} (hx : x ∈ L) : Mp (D.del (.int .i64 x.1)) (L.filter fun y => y.1 != x.1) := by
  have hh : Maps.has D (.int .i64 x.1) = true := by rw [h.has, lkG_of_mem hi hx]; rfl
  have lk : ∀ t, lkG (L.filter fun y => y.1 != x.1) t = if t = x.1 then none else lkG L t := by
    intro t
    by_cases e : t = x.1
    · subst e
      rw [if_pos rfl, lkG_none]
      intro y hy
      simpa using (List.mem_filter.1 hy).2
    · rw [if_neg e]
      refine Maps.find_filter_keep (fun p hp => ?_) L
      have : p.1 = t := by simpa using hp
      simp [this, e]
  have hl : (L.filter fun y => y.1 != x.1).length + 1 = L.length := by
    clear hh lk h
    induction L with
    | nil => cases hx
    | cons z L ih =>
      have hi2 := hi
      rw [Inc, List.pairwise_cons] at hi
      rcases List.mem_cons.1 hx with rfl | hx2
      · have : L.filter (fun y => y.1 != x.1) = L := List.filter_eq_self.2 fun y hy => by have := hi.1 y hy; simp; omega
        rw [List.filter_cons, if_neg (by simp), this]; rfl
      · have := hi.1 x hx2
        rw [List.filter_cons, if_pos (by simp; omega)]
        simp only [List.length_cons, ih hi.2 hx2]
  refine ⟨h.tidy.del _, fun t => ?_, fun t y hy z => ?_, ?_⟩
  · rw [lk]
    by_cases e : t = x.1
    · subst e; rw [if_pos rfl, Maps.has_del_same]; rfl
    · rw [if_neg e, Maps.has_del_other (lit_ne e), h.has]
  · rw [lk] at hy
    by_cases e : t = x.1
    · rw [if_pos e] at hy; cases hy
    · rw [if_neg e] at hy
      rw [Maps.atKey_del_other (lit_ne e)]
      exact h.at_ t y hy z
  · have := Maps.size_del h.tidy (k := .int .i64 x.1)
    rw [hh] at this
    have h2 := h.size
    simp at this
    omega
/-- those of one slot -/
def slotL (L : LT) (n j : Nat) : LT := L.filter fun x => x.2.1.toNat % n == j
theorem slotL_one {L : LT} (h : One L) (n j : Nat) : One (slotL L n j) := h.filter _
theorem slotL_inc {L : LT} (h : Inc L) (n j : Nat) : Inc (slotL L n j) := h.filter _
theorem slotL_add (L : LT) (n j : Nat) (x : XT) : slotL (L ++ [x]) n j = if x.2.1.toNat % n = j then slotL L n j ++ [x] else slotL L n j := by
  rw [slotL, List.filter_append]
  by_cases e : x.2.1.toNat % n = j
  · rw [if_pos e]; simp [e, slotL]
  · rw [if_neg e]; simp [e, slotL]
theorem slotL_filter (L : LT) (n j : Nat) (p : XT → Bool) : slotL (L.filter p) n j = (slotL L n j).filter p := by
  rw [slotL, slotL, List.filter_filter, List.filter_filter]
  congr 1
  funext x
  rw [Bool.and_comm]
/-- what is meant lies in one slot -/
theorem slotL_all {L : LT} {n : Nat} {tick : Int} {p : XT → Bool} (h : ∀ x ∈ L, p x = true → x.2.1 = tick) : (slotL L n (tick.toNat % n)).filter p = L.filter p := by
  rw [slotL, List.filter_filter]
  apply List.filter_congr
  intro x hx
  cases e : p x with
  | false => simp
  | true => simp [h x hx e]
theorem slotL_stay {L : LT} {n j : Nat} {tick : Int} {p : XT → Bool} (h : ∀ x ∈ L, p x = true → x.2.1 = tick) (hj : j ≠ tick.toNat % n) : slotL (L.filter fun x => !p x) n j = slotL L n j := by
  rw [slotL_filter]
  apply List.filter_eq_self.2
  intro x hx
  have hx2 := List.mem_filter.1 hx
  cases e : p x with
  | false => rfl
  | true =>
    have := h x hx2.1 e
    rw [this] at hx2
    simp at hx2
    exact absurd hx2.2.symm hj
end Go.Proofs.YteaanenhefbkjaaDoor.Xp
