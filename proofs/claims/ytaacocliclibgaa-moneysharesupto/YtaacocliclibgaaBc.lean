/- The book of lists, while its lists are marked and kept at all lengths. -/
import Derived.Test.YtaacocliclibgaaBb
namespace Go.Proofs.Ytaacocliclibgaa.Bc
set_option linter.unusedVariables false
set_option linter.unusedSimpArgs false
open Go.RowKit Sl Kb Ow Ds Bb
/-- what is left alone -/
abbrev Kp (w : World) (Pr : List (Nat × Obj)) : Prop := ∀ q ∈ Pr, w.heap[q.1]? = some q.2
/-- the block is none of those that are left alone -/
abbrev Fre (Pr : List (Nat × Obj)) (v : Value) : Prop := ∀ q ∈ Pr, v.ownBlock ≠ some q.1
structure T5 (w0 w : World) (base gB : Nat) (Pr : List (Nat × Obj)) (A : List Value) (vf vw : Value) (m0 : Int) (r : Nat) (x : Value) (m : Int) (L : List (Value × Int)) (vl : Value) : Prop where
  blk : w.heap[gB]? = some (.cells #[vf, vw, vl] 37)
  arow : w.ownsRow base 32 1 vf A.length A
  lrow : w.ownsRow base 32 1 vl L.length (L.map (·.1))
  lne : ∀ b, vf.ownBlock = some b → vl.ownBlock ≠ some b
  ent : ∀ p ∈ L, Own w base p.1 (mkI p.2 (ln p.1))
  xrow : Own w base x (mkI m (ln x))
  cur : ∀ p ∈ L, ∀ g, p.1.ownBlock = some g → x.ownBlock = some g → p.2 = m ∧ ln p.1 ≤ ln x
  rest : ∀ j (h : j < A.length), r ≤ j → Own w base A[j] (mkI (m0 - (j : Int)) (ln A[j]))
  sep : ∀ p ∈ L, ∀ j (h : j < A.length), r ≤ j → ∀ g, p.1.ownBlock = some g → A[j].ownBlock ≠ some g
  xsep : ∀ j (h : j < A.length), r ≤ j → ∀ g, x.ownBlock = some g → A[j].ownBlock ≠ some g
  kp : Kp w Pr
  kx : Fre Pr x
  kl : ∀ p ∈ L, Fre Pr p.1
  ka : ∀ j (h : j < A.length), r ≤ j → Fre Pr A[j]
  kb : ∀ q ∈ Pr, ∃ c fr, q.2 = .cells c 3 fr
  gb : base ≤ gB
  low : base ≤ w0.heap.size
  fr : Below base w0 w
section
variable {w0 w y : World} {base gB r : Nat} {Pr : List (Nat × Obj)} {A : List Value} {vf vw vl x : Value} {m0 m : Int} {L : List (Value × Int)}
theorem al_block {w y : World} {o : Obj} {q : Option Nat} (gr : (w.alloc o).grownBy y q) (b : Nat) (hb : b < w.heap.size) (hn : q ≠ some b) : y.heap[b]? = w.heap[b]? := by
  rw [gr.block b (by simp; omega) (fun e => hn e.symm)]
  exact Below.heap_alloc w o b hb
theorem keepK {w y : World} {gB : Nat} {q : Option Nat} {cc : Array Value} (hbook : w.heap[gB]? = some (.cells cc 37)) (hk : ∀ b, b < w.heap.size → b ≠ gB → q ≠ some b → y.heap[b]? = w.heap[b]?) {b e s n : Nat} {v : Value} {xs : List Value} (h : w.ownsRow b e s v n xs) (he : e ≠ 37) (hne : ∀ p, v.ownBlock = some p → q ≠ some p) : y.ownsRow b e s v n xs :=
  owns_keep h fun p hp => hk p (h.lt p hp).2 (fun e2 => bk_ne hbook h he (e2 ▸ hp)) (hne p hp)
theorem kp_ne {w y : World} {gB : Nat} {q : Option Nat} {cc : Array Value} {Pr : List (Nat × Obj)} (hbook : w.heap[gB]? = some (.cells cc 37)) (hk : ∀ b, b < w.heap.size → b ≠ gB → q ≠ some b → y.heap[b]? = w.heap[b]?) (h : Kp w Pr) (hb : ∀ q ∈ Pr, ∃ c fr, q.2 = .cells c 3 fr) (hq : ∀ p ∈ Pr, q ≠ some p.1) : Kp y Pr := fun p hp => by
  refine (hk p.1 (Array.getElem?_eq_some_iff.1 (h p hp)).1 (fun e => ?_) (hq p hp)).trans (h p hp)
  obtain ⟨c, fr, hc⟩ := hb p hp
  have := h p hp
  rw [e, hbook, hc] at this
  cases this
theorem fre_row {w : World} {Pr : List (Nat × Obj)} {b e s n : Nat} {v : Value} {xs : List Value} (h : Kp w Pr) (hb : ∀ q ∈ Pr, ∃ c fr, q.2 = .cells c 3 fr) (hr : w.ownsRow b e s v n xs) (he : e ≠ 3) : Fre Pr v := fun q hq hg => by
  obtain ⟨c, fr, hc⟩ := hb q hq
  have h1 := h q hq
  rcases hr.2 with ⟨rfl, _⟩ | ⟨g, cap, cur, rfl, _, hgg, _⟩
  · simp [Value.ownBlock] at hg
  · simp only [Value.ownBlock, Option.some.injEq] at hg
    rw [← hg, hgg, hc] at h1
    cases h1
    exact he rfl
theorem T5.lpush (S : T5 w0 w base gB Pr A vf vw m0 r x m L vl) {o : Obj} {g n c : Nat} (hn : n = L.length + 1) (gr : (w.alloc o).grownBy y vl.ownBlock) (own : y.ownsRow base 32 1 (.slice (some ⟨g, 0, none⟩) n c) n (L.map (·.1) ++ [x])) (hat : vl.ownBlock = some g ∨ g = w.heap.size + 1) :
    T5 w0 (y.setCell ⟨gB, 2, none⟩ (.slice (some ⟨g, 0, none⟩) n c)) base gB Pr A vf vw m0 r x m (L ++ [(x, m)]) (.slice (some ⟨g, 0, none⟩) n c) := by
  have hg0 : gB < w.heap.size := (Array.getElem?_eq_some_iff.1 S.blk).1
  have hyb : y.heap[gB]? = some (.cells #[vf, vw, vl] 37) := (al_block gr gB hg0 (bk_ne S.blk S.lrow (by decide))).trans S.blk
  have hk : ∀ b, b < w.heap.size → b ≠ gB → vl.ownBlock ≠ some b → (y.setCell ⟨gB, 2, none⟩ (.slice (some ⟨g, 0, none⟩) n c)).heap[b]? = w.heap[b]? := fun b h1 h2 h3 => (sc_ne (Ne.symm h2) _ _).trans (al_block gr b h1 h3)
  have kx : ∀ {v : Value} {z : List Int}, Own w base v z → Own (y.setCell ⟨gB, 2, none⟩ (.slice (some ⟨g, 0, none⟩) n c)) base v z := fun h => keepK S.blk hk h (by decide) fun p hp => ty_ne h S.lrow (by decide) hp
  have hs : base ≤ w.heap.size := Nat.le_trans S.low S.fr.size
  refine ⟨by rw [sc_heap hyb]; rfl, keepK S.blk hk S.arow (by decide) fun p hp => S.lne p hp, ?_, ?_, ?_, kx S.xrow, ?_, fun j h hr => kx (S.rest j h hr), ?_, S.xsep, kp_ne S.blk hk S.kp S.kb fun p hp => fre_row S.kp S.kb S.lrow (by decide) p hp, S.kx, fun p hp => (List.mem_append.1 hp).elim (S.kl p) (fun h => by obtain rfl := List.mem_singleton.1 h; exact S.kx), S.ka, S.kb, S.gb, S.low, ?_⟩
  · rw [List.length_append, List.length_singleton, ← hn, List.map_append]
    exact owns_keep own fun p hp => sc_ne (fun e : gB = p => bk_ne hyb own (by decide) (by rw [e]; exact hp)) _ _
  · intro b hb hb2
    simp only [Value.ownBlock, Option.some.injEq] at hb2
    subst hb2
    rcases hat with h | h
    · exact S.lne _ hb h
    · have := (S.arow.lt _ hb).2; omega
  · intro p hp
    rcases List.mem_append.1 hp with hp | hp
    · exact kx (S.ent p hp)
    · obtain rfl := List.mem_singleton.1 hp
      exact kx S.xrow
  · intro p hp
    rcases List.mem_append.1 hp with hp | hp
    · exact S.cur p hp
    · obtain rfl := List.mem_singleton.1 hp
      exact fun _ _ _ => ⟨rfl, Nat.le_refl _⟩
  · intro p hp
    rcases List.mem_append.1 hp with hp | hp
    · exact S.sep p hp
    · obtain rfl := List.mem_singleton.1 hp
      exact S.xsep
  · exact (((S.fr.alloc hs o).grown gr (by simp; omega) (fun q hq => (S.lrow.lt q hq).1)).setCell (p := ⟨gB, 2, none⟩) S.gb _)
theorem T5.xpush (S : T5 w0 w base gB Pr A vf vw m0 r x m L vl) {o : Obj} {g n c : Nat} (hn : n = ln x + 1) (gr : (w.alloc o).grownBy y x.ownBlock) (own : y.ownsRow base 3 1 (.slice (some ⟨g, 0, none⟩) n c) n (iv (mkI m (ln x)) ++ [.int .i64 m])) (old : Own y base x (mkI m (ln x))) (hat : x.ownBlock = some g ∨ g = w.heap.size + 1) :
    T5 w0 y base gB Pr A vf vw m0 r (.slice (some ⟨g, 0, none⟩) n c) m L vl := by
  have hg0 : gB < w.heap.size := (Array.getElem?_eq_some_iff.1 S.blk).1
  have hk : ∀ b, b < w.heap.size → b ≠ gB → x.ownBlock ≠ some b → y.heap[b]? = w.heap[b]? := fun b h1 h2 h3 => al_block gr b h1 h3
  have hs : base ≤ w.heap.size := Nat.le_trans S.low S.fr.size
  have own' : Own y base (.slice (some ⟨g, 0, none⟩) n c) (mkI m n) := by
    unfold Own
    rw [mkI_len]
    have e : iv (mkI m n) = iv (mkI m (ln x)) ++ [.int .i64 m] := by
      rw [hn, mkI, List.replicate_succ', iv_append]; rfl
    rw [e]; exact own
  refine ⟨(al_block gr gB hg0 (bk_ne S.blk S.xrow (by decide))).trans S.blk, keepK S.blk hk S.arow (by decide) fun p hp => ty_ne S.arow S.xrow (by decide) hp, keepK S.blk hk S.lrow (by decide) fun p hp => ty_ne S.lrow S.xrow (by decide) hp, S.lne, ?_, own', ?_, fun j h hr => keepK S.blk hk (S.rest j h hr) (by decide) fun q hq hx => S.xsep j h hr q hx hq, S.sep, ?_, kp_ne S.blk hk S.kp S.kb fun p hp => S.kx p hp, ?_, S.kl, S.ka, S.kb, S.gb, S.low, ?_⟩
  · intro p hp
    by_cases e : ∃ q, p.1.ownBlock = some q ∧ x.ownBlock = some q
    · obtain ⟨q, e1, e2⟩ := e
      obtain ⟨c1, c2⟩ := S.cur p hp q e1 e2
      have h1 := S.ent p hp
      rw [c1] at h1 ⊢
      exact sub_row h1 S.xrow old e1 e2 c2
    · exact keepK S.blk hk (S.ent p hp) (by decide) fun q hq hx => e ⟨q, hq, hx⟩
  · intro p hp q h1 h2
    simp only [Value.ownBlock, Option.some.injEq] at h2
    subst h2
    rcases hat with hat | hat
    · obtain ⟨c1, c2⟩ := S.cur p hp g h1 hat
      exact ⟨c1, by rw [ln, hn]; exact Nat.le_succ_of_le c2⟩
    · have := ((S.ent p hp).lt g h1).2
      omega
  · intro j h hr q hq
    simp only [Value.ownBlock, Option.some.injEq] at hq
    subst hq
    rcases hat with hat | hat
    · exact S.xsep j h hr g hat
    · intro h2
      have := ((S.rest j h hr).lt g h2).2
      omega
  · intro q hq h2
    simp only [Value.ownBlock, Option.some.injEq] at h2
    rcases hat with hat | hat
    · exact S.kx q hq (by rw [hat, h2])
    · have := (Array.getElem?_eq_some_iff.1 (S.kp q hq)).1
      omega
  · exact (S.fr.alloc hs o).grown gr (by simp; omega) (fun q hq => (S.xrow.lt q hq).1)
/-- the next list -/
theorem T5.take {m' : Int} (pa : ∀ i j (hi : i < A.length) (hj : j < A.length), i < j → ∀ g, A[i].ownBlock = some g → A[j].ownBlock ≠ some g) (S : T5 w0 w base gB Pr A vf vw m0 r x m L vl) (hr : r < A.length) (hm : m' = m0 - (r : Int)) : T5 w0 w base gB Pr A vf vw m0 (r + 1) A[r] m' L vl := by
  subst hm
  exact ⟨S.blk, S.arow, S.lrow, S.lne, S.ent, S.rest r hr (Nat.le_refl _), fun p hp g h1 h2 => absurd h2 (S.sep p hp r hr (Nat.le_refl _) g h1), fun j h hj => S.rest j h (by omega), fun p hp j h hj => S.sep p hp j h (by omega), fun j h hj => pa r j hr h (by omega), S.kp, S.ka r hr (Nat.le_refl _), S.kl, fun j h hj => S.ka j h (by omega), S.kb, S.gb, S.low, S.fr⟩
end
end Go.Proofs.Ytaacocliclibgaa.Bc
