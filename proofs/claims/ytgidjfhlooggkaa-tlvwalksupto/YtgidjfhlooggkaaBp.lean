/- The laws' book, plain: what stands in it while it is written. -/
import Derived.Test.YtgidjfhlooggkaaBo
namespace Go.Proofs.Ytgidjfhlooggkaa.Bp
set_option linter.unusedVariables false
set_option linter.unusedSimpArgs false
open Go.RowKit Kb Nt Li Bo
abbrev bookT : TypeId := 32
structure S5 (g0 : Nat) (A : List Value) (va : Value) (w2 wr : World) (r : Nat) (x : Value) (m : Int) (E : List (Value × Int)) (L Mk : List Value) (lv mv : Value) : Prop where
  book : wr.heap[g0]? = some (.cells #[lv, mv] 32)
  lrow : wr.ownsRow w2.heap.size 23 1 lv L.length L
  mrow : wr.ownsRow w2.heap.size 3 1 mv Mk.length Mk
  arow : wr.ownsRow 0 23 1 va A.length A
  alow : ∀ b, va.ownBlock = some b → b < w2.heap.size
  ent : ∀ p ∈ E, wr.ownsRow 0 40 3 p.1 (ln p.1) (mkC p.2 (ln p.1))
  xrow : wr.ownsRow 0 40 3 x (ln x) (mkC m (ln x))
  cur : ∀ p ∈ E, ∀ g, p.1.ownBlock = some g → x.ownBlock = some g → p.2 = m ∧ ln p.1 ≤ ln x
  rest : ∀ j (h : j < A.length), r ≤ j → wr.ownsRow 0 40 3 A[j] (ln A[j]) (mkC (-100 - (j : Int)) (ln A[j]))
  sep : ∀ p ∈ E, ∀ j (h : j < A.length), r ≤ j → ∀ g, p.1.ownBlock = some g → A[j].ownBlock ≠ some g
  xsep : ∀ j (h : j < A.length), r ≤ j → ∀ g, x.ownBlock = some g → A[j].ownBlock ≠ some g
  xin : ∀ g, x.ownBlock = some g → g ∈ obs A ∨ w2.heap.size ≤ g
  fr : Fr (g0 :: obs A) w2 wr
theorem bk_ne {w : World} {g0 : Nat} {c : Array Value} {b e s n : Nat} {v : Value} {xs : List Value} (hb : w.heap[g0]? = some (.cells c 32)) (h : w.ownsRow b e s v n xs) (he : e ≠ 32) : v.ownBlock ≠ some g0 := by
  intro hg
  rcases h.2 with ⟨rfl, _⟩ | ⟨g, cap, cur, rfl, _, hgg, _⟩
  · simp [Value.ownBlock] at hg
  · simp only [Value.ownBlock, Option.some.injEq] at hg
    subst hg
    rw [hb] at hgg
    injection hgg with hgg
    injection hgg with _ hgg
    exact he hgg.symm
theorem run_append_keeps {P : Program} (w : World) (t ty : TypeId) (base : Nat) (e : TypeId) (i : TypeInfo) (z : Value) (size bytes : Nat) (ht : P.underlying t = some (.slice e)) (hi : P.info? e = some i) (hz : i.zero = some z)
    (hsize : i.size = size) (hby : i.bytes = bytes)
    (v : Value) (n : Nat) (xs : List Value) (hown : w.ownsRow base e size v n xs)
    (ad : Addr) (m c : Nat) (news : List Value) (hl : news.length = m * size) (hnews : ∀ j u, news[j]? = some u → w.cell? (ad.add j) = some u) (h1 : ∀ u ∈ news, u.oneCell' = true)
    (h63 : n + m ≤ maxLen) (hbytes : (n + m) * bytes ≤ 140737488355328) (v' : Value) (w' : World)
    (hr : (Builtin.append_ #[t, t] ty #[v, .slice (some ad) m c]).run P w = .ok v' w') : w'.ownsRow base e size v n xs := by
  subst hsize
  subst hby
  have h63' := h63
  unfold maxLen at h63'
  refine ⟨hown.1, ?_⟩
  rcases hown.2 with ⟨rfl, rfl⟩ | ⟨g, cap, cur, rfl, hbg, hg, hnc, hcm, hcs, htake⟩
  · exact .inl ⟨rfl, rfl⟩
  · by_cases hroom : n + m ≤ cap
    · have hfit : n * i.size + news.length ≤ cur.size := by rw [hl, hcs, ← Nat.add_mul]; exact Nat.mul_le_mul_right _ hroom
      have hr2 := run_append_room (P := P) w t ty e i ht hi g n cap cur hg ad m c news hl hnews h1 hroom hfit
      rw [hr] at hr2
      injection hr2 with _ hw
      subst hw
      refine .inr ⟨g, cap, _, rfl, hbg, setRow_heap w g cur _ e _ hg, hnc, hcm, ?_, ?_⟩
      · simp only [List.size_toArray, List.length_append, List.length_take, List.length_drop, Array.length_toList]
        omega
      · rw [htake]
        show List.take (n * i.size) (xs ++ news ++ _) = xs
        rw [List.append_assoc, ← hown.1]
        exact List.take_left
    · have holds : ∀ j u, xs[j]? = some u → w.cell? ((⟨g, 0, none⟩ : Addr).add j) = some u := hown.cells (g := g) rfl
      have hr2 := run_append_grow (P := P) w t ty e i z ht hi hz ⟨g, 0, none⟩ n cap xs hown.1 holds ad m c news hl hnews (by omega) (by omega) (growslice_fits (by omega) hbytes)
      rw [hr] at hr2
      injection hr2 with _ hw
      subst hw
      exact .inr ⟨g, cap, cur, rfl, hbg, (show (w.drew.alloc _).heap[g]? = w.drew.heap[g]? from heap_alloc_old _ _ (Array.getElem?_eq_some_iff.1 hg).1).trans hg, hnc, hcm, hcs, htake⟩
theorem wp_append_keeps {P : Program} (w : World) {o : Oper} {a : Act} {K : Act → World → Prop} {Q : Exit → Act → World → Prop} (s x : Operand) (t : TypeId)
    (ho : o.op = .call { callee := .builtin .append, args := #[s, x], argTypes := #[t, t] })
    (base : Nat) (e : TypeId) (i : TypeInfo) (z : Value) (size bytes : Nat) (ht : P.underlying t = some (.slice e)) (hi : P.info? e = some i) (hz : i.zero = some z)
    (hsize : i.size = size) (hby : i.bytes = bytes) (hzs : z.cells.size = size) (hsz : 0 < size)
    (v : Value) (n : Nat) (xs : List Value) (hs : a.eval s = v) (hown : w.ownsRow base e size v n xs)
    (ad : Addr) (m c : Nat) (news : List Value) (hx : a.eval x = .slice (some ad) m c) (hl : news.length = m * size) (hnews : ∀ j u, news[j]? = some u → w.cell? (ad.add j) = some u) (h1 : ∀ u ∈ news, u.oneCell' = true)
    (hm : 0 < m) (h63 : n + m ≤ maxLen) (hbytes : (n + m) * bytes ≤ 140737488355328) (hbase : base ≤ w.heap.size) (H : Nat) (hH : w.heap.size = H)
    (h : ∀ g cap w', w'.ownsRow base e size (.slice (some ⟨g, 0, none⟩) (n + m) cap) (n + m) (xs ++ news) → w'.ownsRow base e size v n xs → w.grownBy w' v.ownBlock → (v.ownBlock = some g ∨ g = H) → g < w'.heap.size → K (a.put o.dst (.slice (some ⟨g, 0, none⟩) (n + m) cap)) w') : o.wp P a w K Q := by
  obtain ⟨g, cap, w', hr, h2, h3, h4, h5⟩ := run_append_lies (P := P) w t o.type base e i z size bytes ht hi hz hsize hby hzs hsz v n xs hown ad m c news hl hnews h1 hm h63 hbytes hbase H hH
  have hk := run_append_keeps (P := P) w t o.type base e i z size bytes ht hi hz hsize hby v n xs hown ad m c news hl hnews h1 h63 hbytes _ _ hr
  unfold Oper.wp execOp
  simp only [ho, resolve, invoke, builtin, Sem.run_bind, Sem.run_pure, Result.andThen_ok, List.map_toArray, List.map_cons, List.map_nil, hs, hx, hr]
  exact h g cap w' h2 hk h3 h4 h5
theorem wpList_append_keeps {P : Program} (w : World) {ops : Array Oper} {rest : List Oper} {o : Oper} {a : Act} {Q : Exit → Act → World → Prop} (hgd : o.guard = none) (s x : Operand) (t : TypeId)
    (ho : o.op = .call { callee := .builtin .append, args := #[s, x], argTypes := #[t, t] })
    (base : Nat) (e : TypeId) (i : TypeInfo) (z : Value) (size bytes : Nat) (ht : P.underlying t = some (.slice e)) (hi : P.info? e = some i) (hz : i.zero = some z)
    (hsize : i.size = size) (hby : i.bytes = bytes) (hzs : z.cells.size = size) (hsz : 0 < size)
    (v : Value) (n : Nat) (xs : List Value) (hs : a.eval s = v) (hown : w.ownsRow base e size v n xs)
    (ad : Addr) (m c : Nat) (news : List Value) (hx : a.eval x = .slice (some ad) m c) (hl : news.length = m * size) (hnews : ∀ j u, news[j]? = some u → w.cell? (ad.add j) = some u) (h1 : ∀ u ∈ news, u.oneCell' = true)
    (hm : 0 < m) (h63 : n + m ≤ maxLen) (hbytes : (n + m) * bytes ≤ 140737488355328) (hbase : base ≤ w.heap.size) (H : Nat) (hH : w.heap.size = H)
    (h : ∀ g cap w', w'.ownsRow base e size (.slice (some ⟨g, 0, none⟩) (n + m) cap) (n + m) (xs ++ news) → w'.ownsRow base e size v n xs → w.grownBy w' v.ownBlock → (v.ownBlock = some g ∨ g = H) → g < w'.heap.size → wpList P ops Q rest (a.put o.dst (.slice (some ⟨g, 0, none⟩) (n + m) cap)) w') : wpList P ops Q (o :: rest) a w :=
  wpList_plain hgd fun _ hK => wp_append_keeps w s x t ho base e i z size bytes ht hi hz hsize hby hzs hsz v n xs hs hown ad m c news hx hl hnews h1 hm h63 hbytes hbase H hH fun g cap w' h2 h3 h4 h5 h6 => hK _ _ (h g cap w' h2 h3 h4 h5 h6)
section
variable {g0 : Nat} {A : List Value} {va : Value} {w2 wr y : World} {r : Nat} {x : Value} {m : Int} {E : List (Value × Int)} {L Mk : List Value} {lv mv : Value}
theorem al_block {w y : World} {o : Obj} {q : Option Nat} (gr : (w.alloc o).grownBy y q) (b : Nat) (hb : b < w.heap.size) (hn : q ≠ some b) : y.heap[b]? = w.heap[b]? := by
  rw [gr.block b (by simp; omega) (fun e => hn e.symm)]
  exact Below.heap_alloc w o b hb
theorem keepK {q : Option Nat} {cc : Array Value} (hbook : wr.heap[g0]? = some (.cells cc 32)) (hk : ∀ b, b < wr.heap.size → b ≠ g0 → q ≠ some b → y.heap[b]? = wr.heap[b]?) {b e s n : Nat} {v : Value} {xs : List Value} (h : wr.ownsRow b e s v n xs) (he : e ≠ 32) (hne : ∀ p, v.ownBlock = some p → q ≠ some p) : y.ownsRow b e s v n xs :=
  owns_keep h fun p hp => hk p (h.lt p hp).2 (fun e2 => bk_ne hbook h he (e2 ▸ hp)) (hne p hp)
theorem cells2 {w : World} {g : Nat} {a b : Value} {t : TypeId} (h : w.heap[g]? = some (.cells #[a, b] t)) :
    (w.cell? ⟨g, 0, none⟩ = some a ∧ w.cell? ⟨g, 1, none⟩ = some b) ∧ (w.frozen? ⟨g, 0, none⟩ = false ∧ w.frozen? ⟨g, 1, none⟩ = false) := by
  refine ⟨⟨?_, ?_⟩, ?_, ?_⟩ <;> simp [World.cell?, World.frozen?, h]
theorem S5.atl (S : S5 g0 A va w2 wr r x m E L Mk lv mv) {o : Obj} (gr : (wr.alloc o).grownBy y lv.ownBlock) : y.heap[g0]? = some (.cells #[lv, mv] 32) :=
  (al_block gr g0 (Array.getElem?_eq_some_iff.1 S.book).1 (bk_ne S.book S.lrow (by decide))).trans S.book
theorem S5.atm (S : S5 g0 A va w2 wr r x m E L Mk lv mv) {o : Obj} (gr : (wr.alloc o).grownBy y mv.ownBlock) : y.heap[g0]? = some (.cells #[lv, mv] 32) :=
  (al_block gr g0 (Array.getElem?_eq_some_iff.1 S.book).1 (bk_ne S.book S.mrow (by decide))).trans S.book
theorem S5.lpush (S : S5 g0 A va w2 wr r x m E L Mk lv mv) {o : Obj} {g n c : Nat} {u : Value} (hn : n = (L ++ [u]).length) (gr : (wr.alloc o).grownBy y lv.ownBlock) (own : y.ownsRow w2.heap.size 23 1 (.slice (some ⟨g, 0, none⟩) n c) n (L ++ [u])) (hat : lv.ownBlock = some g ∨ g = wr.heap.size + 1) :
    S5 g0 A va w2 (y.setCell ⟨g0, 0, none⟩ (.slice (some ⟨g, 0, none⟩) n c)) r x m E (L ++ [u]) Mk (.slice (some ⟨g, 0, none⟩) n c) mv := by
  have hg0 : g0 < wr.heap.size := (Array.getElem?_eq_some_iff.1 S.book).1
  have hyb : y.heap[g0]? = some (.cells #[lv, mv] 32) := (al_block gr g0 hg0 (bk_ne S.book S.lrow (by decide))).trans S.book
  have hk : ∀ b, b < wr.heap.size → b ≠ g0 → lv.ownBlock ≠ some b → (y.setCell ⟨g0, 0, none⟩ (.slice (some ⟨g, 0, none⟩) n c)).heap[b]? = wr.heap[b]? := fun b h1 h2 h3 => (sc_ne (Ne.symm h2) _ _).trans (al_block gr b h1 h3)
  have hal : ∀ p, va.ownBlock = some p → lv.ownBlock ≠ some p := fun p hp hp2 => by have := (S.lrow.lt p hp2).1; have := S.alow p hp; omega
  have hf : Fr (g0 :: obs A) w2 y := (S.fr.below (((Below.refl _ wr).alloc S.fr.size o))).grown gr fun q hq => .inr (S.lrow.lt q hq).1
  refine ⟨?_, ?_, keepK S.book hk S.mrow (by decide) fun p hp => ty_ne S.mrow S.lrow (by decide) hp, keepK S.book hk S.arow (by decide) hal, S.alow, fun p hp => keepK S.book hk (S.ent p hp) (by decide) fun q hq => ty_ne (S.ent p hp) S.lrow (by decide) hq,
    keepK S.book hk S.xrow (by decide) fun q hq => ty_ne S.xrow S.lrow (by decide) hq, S.cur, fun j h hr => keepK S.book hk (S.rest j h hr) (by decide) fun q hq => ty_ne (S.rest j h hr) S.lrow (by decide) hq, S.sep, S.xsep, S.xin, hf.cells (.inl (by simp)) 0 [.slice (some ⟨g, 0, none⟩) n c]⟩
  · rw [sc_heap hyb]; rfl
  · rw [← hn]
    exact owns_keep own fun p hp => sc_ne (fun e : g0 = p => bk_ne hyb own (by decide) (by rw [e]; exact hp)) _ _
theorem S5.mpush (S : S5 g0 A va w2 wr r x m E L Mk lv mv) {o : Obj} {g n c : Nat} {u : Value} (hn : n = (Mk ++ [u]).length) (gr : (wr.alloc o).grownBy y mv.ownBlock) (own : y.ownsRow w2.heap.size 3 1 (.slice (some ⟨g, 0, none⟩) n c) n (Mk ++ [u])) (hat : mv.ownBlock = some g ∨ g = wr.heap.size + 1) :
    S5 g0 A va w2 (y.setCell ⟨g0, 1, none⟩ (.slice (some ⟨g, 0, none⟩) n c)) r x m E L (Mk ++ [u]) lv (.slice (some ⟨g, 0, none⟩) n c) := by
  have hg0 : g0 < wr.heap.size := (Array.getElem?_eq_some_iff.1 S.book).1
  have hyb : y.heap[g0]? = some (.cells #[lv, mv] 32) := (al_block gr g0 hg0 (bk_ne S.book S.mrow (by decide))).trans S.book
  have hk : ∀ b, b < wr.heap.size → b ≠ g0 → mv.ownBlock ≠ some b → (y.setCell ⟨g0, 1, none⟩ (.slice (some ⟨g, 0, none⟩) n c)).heap[b]? = wr.heap[b]? := fun b h1 h2 h3 => (sc_ne (Ne.symm h2) _ _).trans (al_block gr b h1 h3)
  have hf : Fr (g0 :: obs A) w2 y := (S.fr.below (((Below.refl _ wr).alloc S.fr.size o))).grown gr fun q hq => .inr (S.mrow.lt q hq).1
  refine ⟨?_, keepK S.book hk S.lrow (by decide) fun p hp => ty_ne S.lrow S.mrow (by decide) hp, ?_, keepK S.book hk S.arow (by decide) fun p hp => ty_ne S.arow S.mrow (by decide) hp, S.alow, fun p hp => keepK S.book hk (S.ent p hp) (by decide) fun q hq => ty_ne (S.ent p hp) S.mrow (by decide) hq,
    keepK S.book hk S.xrow (by decide) fun q hq => ty_ne S.xrow S.mrow (by decide) hq, S.cur, fun j h hr => keepK S.book hk (S.rest j h hr) (by decide) fun q hq => ty_ne (S.rest j h hr) S.mrow (by decide) hq, S.sep, S.xsep, S.xin, hf.cells (.inl (by simp)) 1 [.slice (some ⟨g, 0, none⟩) n c]⟩
  · rw [sc_heap hyb]; rfl
  · rw [← hn]
    exact owns_keep own fun p hp => sc_ne (fun e : g0 = p => bk_ne hyb own (by decide) (by rw [e]; exact hp)) _ _
theorem S5.xpush (S : S5 g0 A va w2 wr r x m E L Mk lv mv) {o : Obj} {g n c : Nat} (hn : n = ln x + 1) (gr : (wr.alloc o).grownBy y x.ownBlock) (own : y.ownsRow 0 40 3 (.slice (some ⟨g, 0, none⟩) n c) n (mkC m (ln x) ++ nod m)) (old : y.ownsRow 0 40 3 x (ln x) (mkC m (ln x))) (hat : x.ownBlock = some g ∨ g = wr.heap.size + 1) :
    S5 g0 A va w2 y r (.slice (some ⟨g, 0, none⟩) n c) m E L Mk lv mv := by
  have hg0 : g0 < wr.heap.size := (Array.getElem?_eq_some_iff.1 S.book).1
  have hk : ∀ b, b < wr.heap.size → b ≠ g0 → x.ownBlock ≠ some b → y.heap[b]? = wr.heap[b]? := fun b h1 h2 h3 => al_block gr b h1 h3
  have hf : Fr (g0 :: obs A) w2 y := (S.fr.below (((Below.refl _ wr).alloc S.fr.size o))).grown gr fun q hq => (S.xin q hq).imp (fun h => List.mem_cons_of_mem _ h) id
  subst hn
  refine ⟨(al_block gr g0 hg0 (bk_ne S.book S.xrow (by decide))).trans S.book, keepK S.book hk S.lrow (by decide) fun p hp => ty_ne S.lrow S.xrow (by decide) hp, keepK S.book hk S.mrow (by decide) fun p hp => ty_ne S.mrow S.xrow (by decide) hp, keepK S.book hk S.arow (by decide) fun p hp => ty_ne S.arow S.xrow (by decide) hp, S.alow,
    fun p hp => ?_, own, fun p hp q h1 h2 => ?_, fun j h hr => keepK S.book hk (S.rest j h hr) (by decide) fun q hq hx => S.xsep j h hr q hx hq, S.sep, fun j h hr q hq => ?_, fun q hq => ?_, hf⟩
  · by_cases e : ∃ q, p.1.ownBlock = some q ∧ x.ownBlock = some q
    · obtain ⟨q, e1, e2⟩ := e
      obtain ⟨c1, c2⟩ := S.cur p hp q e1 e2
      have h1 := S.ent p hp
      rw [c1] at h1 ⊢
      exact sub_row h1 S.xrow old e1 e2 c2
    · exact keepK S.book hk (S.ent p hp) (by decide) fun q hq hx => e ⟨q, hq, hx⟩
  · simp only [Value.ownBlock, Option.some.injEq] at h2
    subst h2
    rcases hat with hat | hat
    · obtain ⟨c1, c2⟩ := S.cur p hp g h1 hat
      exact ⟨c1, Nat.le_succ_of_le c2⟩
    · have := ((S.ent p hp).lt g h1).2
      omega
  · simp only [Value.ownBlock, Option.some.injEq] at hq
    subst hq
    rcases hat with hat | hat
    · exact S.xsep j h hr g hat
    · intro h2
      have := ((S.rest j h hr).lt g h2).2
      omega
  · simp only [Value.ownBlock, Option.some.injEq] at hq
    subst hq
    rcases hat with hat | hat
    · exact S.xin g hat
    · have := S.fr.size
      exact .inr (by omega)
theorem S5.epush (S : S5 g0 A va w2 wr r x m E L Mk lv mv) : S5 g0 A va w2 wr r x m (E ++ [(x, m)]) L Mk lv mv := by
  refine ⟨S.book, S.lrow, S.mrow, S.arow, S.alow, fun p hp => ?_, S.xrow, fun p hp => ?_, S.rest, fun p hp => ?_, S.xsep, S.xin, S.fr⟩
  · rcases List.mem_append.1 hp with hp | hp
    · exact S.ent p hp
    · obtain rfl := List.mem_singleton.1 hp
      exact S.xrow
  · rcases List.mem_append.1 hp with hp | hp
    · exact S.cur p hp
    · obtain rfl := List.mem_singleton.1 hp
      exact fun _ _ _ => ⟨rfl, Nat.le_refl _⟩
  · rcases List.mem_append.1 hp with hp | hp
    · exact S.sep p hp
    · obtain rfl := List.mem_singleton.1 hp
      exact S.xsep
theorem S5.take {m' : Int} (pa : PA A) (S : S5 g0 A va w2 wr r (.slice none 0 0) m E L Mk lv mv) (hr : r < A.length) (hm : m' = -100 - (r : Int)) : S5 g0 A va w2 wr (r + 1) A[r] m' E L Mk lv mv := by
  subst hm
  refine ⟨S.book, S.lrow, S.mrow, S.arow, S.alow, S.ent, S.rest r hr (Nat.le_refl _), fun p hp g h1 h2 => absurd h2 (S.sep p hp r hr (Nat.le_refl _) g h1), fun j h hj => S.rest j h (by omega), fun p hp j h hj => S.sep p hp j h (by omega), fun j h hj => pa r j hr h (by omega), fun g hg => .inl (obs_mem hr hg), S.fr⟩
theorem S5.drop {m' : Int} (S : S5 g0 A va w2 wr r x m E L Mk lv mv) : S5 g0 A va w2 wr r (.slice none 0 0) m' E L Mk lv mv := by
  refine ⟨S.book, S.lrow, S.mrow, S.arow, S.alow, S.ent, World.ownsRow_nil _ _ _ _, fun p hp g h1 h2 => ?_, S.rest, S.sep, fun j h hj g hg => ?_, fun g hg => ?_, S.fr⟩
  · simp [Value.ownBlock] at h2
  · simp [Value.ownBlock] at hg
  · simp [Value.ownBlock] at hg
end
end Go.Proofs.Ytgidjfhlooggkaa.Bp
