/- same; the book. -/
import Derived.Test.YtaacocliclibgaaBc
import Derived.BigQuiet
namespace Go.Proofs.Ytaacocliclibgaa.Bd
set_option linter.unusedVariables false
set_option linter.unusedSimpArgs false
open Go.RowKit Sl Kb Ow Ds Bb Bc
theorem iv_at (z : List Int) (j : Nat) (h : j < z.length) : (iv z)[j]? = some (.int .i64 z[j]) := by simp [iv, h]
set_option maxRecDepth 100000 in
set_option maxHeartbeats 800000 in
theorem same_at (z : List Int) (g1 c1 g2 c2 b1 b2 : Nat) (w : World) (hl : z.length ≤ 1048700) (h1 : Own w b1 (.slice (some ⟨g1, 0, none⟩) z.length c1) z) (h2 : Own w b2 (.slice (some ⟨g2, 0, none⟩) z.length c2) z) :
    Calls Try.prog 23 #[.slice (some ⟨g1, 0, none⟩) z.length c1, .slice (some ⟨g2, 0, none⟩) z.length c2] w fun e w' => e = .returned (.bool true) ∧ ∃ m, w' = w.drewN m := by
  have HC : Hid (∀ j (h : j < z.length), w.cell? ⟨g1, j, none⟩ = some (.int .i64 z[j]) ∧ w.cell? ⟨g2, j, none⟩ = some (.int .i64 z[j])) := fun j h => ⟨(own_cell h1 (iv_at z j h)).1, (own_cell h2 (iv_at z j h)).1⟩
  obtain ⟨N, hN⟩ : ∃ N, N = z.length := ⟨_, rfl⟩
  rw [← hN]
  have HN : Hid (N = z.length) := hN
  have n1 : (N : Int) ≤ 1048700 := by omega
  clear h1 h2 hN hl
  go_enter Try.func23, Try.ntmps23
  go_wp2_with fail
  go_loopw [5] (fun vi wr => ∃ (j m : Nat), j ≤ N ∧ vi = .int .i64 (j : Int) ∧ Hid (wr = w.drewN m)) (fun vi _ => N + 1 - (intOf vi).toNat)
  case atStart => exact ⟨0, 0, Nat.zero_le _, rfl, rfl⟩
  case round =>
    obtain ⟨j, m, hj, rfl, HW⟩ := hrel
    rename World => wr
    by_cases hlt : j < N
    · have q : (j : Int) < (N : Int) := by omega
      have hjl : j < z.length := by have := HN.out; omega
      obtain ⟨a1, a2⟩ := HC.out j hjl
      have cc1 : wr.cell? ⟨g1, j, none⟩ = some (.int .i64 z[j]) := by rw [HW.out]; exact a1
      have cc2 : wr.cell? ⟨g2, j, none⟩ = some (.int .i64 z[j]) := by rw [HW.out]; exact a2
      generalize z[j] = x at *
      clear a1 a2 hjl
      go_wp2_with fail
      go_quiet (fail)
      go_wp2_with fail
      exact ⟨⟨j + 1, m + nq, by omega, by go_num, by show _ = _; rw [HW.out, World.drewN_drewN]⟩, by simp only [intOf]; omega⟩
    · have nq : ¬ (j : Int) < (N : Int) := by omega
      go_wp2_with fail
      go_ret
      exact ⟨rfl, m, HW.out⟩
set_option maxRecDepth 100000 in
set_option maxHeartbeats 400000 in
theorem same_nil (w : World) : Calls Try.prog 23 #[.slice none 0 0, .slice none 0 0] w fun e w' => e = .returned (.bool true) ∧ ∃ m, w' = w.drewN m := by
  go_enter Try.func23, Try.ntmps23
  go_wp2_with fail
  refine wp_loop_rounds 1 ?_
  rw [rounds_succ]
  go_wp2
  go_ret
  exact ⟨rfl, 0, rfl⟩
set_option maxRecDepth 100000 in
set_option maxHeartbeats 400000 in
theorem same_zero (v1 v2 : Value) (w : World) (o1 o2 : Option Addr) (c1 c2 : Nat) (e1 : v1 = .slice o1 0 c1) (e2 : v2 = .slice o2 0 c2) : Calls Try.prog 23 #[v1, v2] w fun e w' => e = .returned (.bool true) ∧ ∃ m, w' = w.drewN m := by
  subst e1; subst e2
  go_enter Try.func23, Try.ntmps23
  go_wp2_with fail
  refine wp_loop_rounds 1 ?_
  rw [rounds_succ]
  go_wp2
  go_ret
  exact ⟨rfl, 0, rfl⟩
theorem same_any (z : List Int) (v1 v2 : Value) (b1 b2 : Nat) (w : World) (hl : z.length ≤ 1048700) (h1 : Own w b1 v1 z) (h2 : Own w b2 v2 z) :
    Calls Try.prog 23 #[v1, v2] w fun e w' => e = .returned (.bool true) ∧ ∃ m, w' = w.drewN m := by
  rcases owns_form h1 with ⟨rfl, hz⟩ | ⟨g1, c1, rfl, _⟩ <;> rcases owns_form h2 with ⟨rfl, hz'⟩ | ⟨g2, c2, rfl, _⟩
  · exact same_nil w
  · exact same_zero _ _ w none _ _ _ rfl (by rw [hz])
  · exact same_zero _ _ w _ none _ _ (by rw [hz']) rfl
  · exact same_at z g1 c1 g2 c2 b1 b2 w hl h1 h2
/-- the book between two calls -/
structure Bk (w0 w : World) (base gB : Nat) (Pr : List (Nat × Obj)) (F W : List (Value × List Int)) (L : List (Value × Int)) (vf vw vl : Value) : Prop where
  blk : w.heap[gB]? = some (.cells #[vf, vw, vl] 37)
  frow : w.ownsRow base 32 1 vf F.length (F.map (·.1))
  wrow : w.ownsRow base 32 1 vw W.length (W.map (·.1))
  lrow : w.ownsRow base 32 1 vl L.length (L.map (·.1))
  nfw : ∀ b, vf.ownBlock = some b → vw.ownBlock ≠ some b
  nfl : ∀ b, vf.ownBlock = some b → vl.ownBlock ≠ some b
  nwl : ∀ b, vw.ownBlock = some b → vl.ownBlock ≠ some b
  fo : ∀ p ∈ F, Own w base p.1 p.2
  wo : ∀ p ∈ W, Own w base p.1 p.2
  lo : ∀ p ∈ L, Own w base p.1 (mkI p.2 (ln p.1))
  fsep : ∀ i j (hi : i < F.length) (hj : j < F.length), i < j → ∀ g, F[i].1.ownBlock = some g → F[j].1.ownBlock ≠ some g
  flsep : ∀ p ∈ F, ∀ q ∈ L, ∀ g, q.1.ownBlock = some g → p.1.ownBlock ≠ some g
  kf : ∀ p ∈ F, Fre Pr p.1
  kl : ∀ p ∈ L, Fre Pr p.1
  kp : Kp w Pr
  kb : ∀ q ∈ Pr, ∃ c fr, q.2 = .cells c 3 fr
  gb : base ≤ gB
  low : base ≤ w0.heap.size
  fr : Below base w0 w
  sm1 : F.length ≤ 8
  sm2 : ∀ p ∈ F, p.2.length ≤ 100
  sm3 : ∀ p ∈ L, ln p.1 ≤ 200
  l12 : ∃ t, t ≤ 8 ∧ L.length = 12 * t
  lm : ∀ k (h : k < L.length), L[k].2 = -100 - ((k / 12 : Nat) : Int)
theorem Bk.below {w0 w y : World} {base gB : Nat} {Pr : List (Nat × Obj)} {F W : List (Value × List Int)} {L : List (Value × Int)} {vf vw vl : Value} (S : Bk w0 w base gB Pr F W L vf vw vl) (h : Below w.heap.size w y) : Bk w0 y base gB Pr F W L vf vw vl := by
  have k : ∀ {b e s n : Nat} {v : Value} {xs : List Value}, w.ownsRow b e s v n xs → y.ownsRow b e s v n xs := fun r => owns_keep r fun p hp => h.block p (r.lt p hp).2
  exact ⟨kept h S.blk, k S.frow, k S.wrow, k S.lrow, S.nfw, S.nfl, S.nwl, fun p hp => k (S.fo p hp), fun p hp => k (S.wo p hp), fun p hp => k (S.lo p hp), S.fsep, S.flsep, S.kf, S.kl, fun q hq => kept h (S.kp q hq), S.kb, S.gb, S.low, S.fr.trans (h.mono (Nat.le_trans S.low S.fr.size)), S.sm1, S.sm2, S.sm3, S.l12, S.lm⟩
theorem Bk.dn {w0 w : World} {base gB : Nat} {Pr : List (Nat × Obj)} {F W : List (Value × List Int)} {L : List (Value × Int)} {vf vw vl : Value} (S : Bk w0 w base gB Pr F W L vf vw vl) (m : Nat) : Bk w0 (w.drewN m) base gB Pr F W L vf vw vl := S.below (below_dn (Below.refl _ _) m)
section
variable {w0 w y : World} {base gB : Nat} {Pr : List (Nat × Obj)} {F W : List (Value × List Int)} {L : List (Value × Int)} {vf vw vl : Value}
theorem Bk.fpush (S : Bk w0 w base gB Pr F W L vf vw vl) {o : Obj} {g n c : Nat} {va : Value} {z : List Int} (hn : n = F.length + 1) (hF : F.length ≤ 7) (hz : z.length ≤ 100) (ha : Own w base va z) (hf1 : ∀ p ∈ F, ∀ g, p.1.ownBlock = some g → va.ownBlock ≠ some g) (hf2 : ∀ q ∈ L, ∀ g, q.1.ownBlock = some g → va.ownBlock ≠ some g) (hf3 : Fre Pr va)
    (gr : (w.alloc o).grownBy y vf.ownBlock) (own : y.ownsRow base 32 1 (.slice (some ⟨g, 0, none⟩) n c) n (F.map (·.1) ++ [va])) (hat : vf.ownBlock = some g ∨ g = w.heap.size + 1) :
    Bk w0 (y.setCell ⟨gB, 0, none⟩ (.slice (some ⟨g, 0, none⟩) n c)) base gB Pr (F ++ [(va, z)]) W L (.slice (some ⟨g, 0, none⟩) n c) vw vl := by
  have hg0 : gB < w.heap.size := (Array.getElem?_eq_some_iff.1 S.blk).1
  have hyb : y.heap[gB]? = some (.cells #[vf, vw, vl] 37) := (al_block gr gB hg0 (bk_ne S.blk S.frow (by decide))).trans S.blk
  have hk : ∀ b, b < w.heap.size → b ≠ gB → vf.ownBlock ≠ some b → (y.setCell ⟨gB, 0, none⟩ (.slice (some ⟨g, 0, none⟩) n c)).heap[b]? = w.heap[b]? := fun b h1 h2 h3 => (sc_ne (Ne.symm h2) _ _).trans (al_block gr b h1 h3)
  have kx : ∀ {v : Value} {z : List Int}, Own w base v z → Own (y.setCell ⟨gB, 0, none⟩ (.slice (some ⟨g, 0, none⟩) n c)) base v z := fun h => keepK S.blk hk h (by decide) fun p hp => ty_ne h S.frow (by decide) hp
  have hs : base ≤ w.heap.size := Nat.le_trans S.low S.fr.size
  refine ⟨by rw [sc_heap hyb]; rfl, ?_, keepK S.blk hk S.wrow (by decide) fun p hp hp2 => S.nfw p hp2 hp, keepK S.blk hk S.lrow (by decide) fun p hp hp2 => S.nfl p hp2 hp, ?_, ?_, S.nwl, ?_, fun p hp => kx (S.wo p hp), fun p hp => kx (S.lo p hp), ?_, ?_, ?_, S.kl, kp_ne S.blk hk S.kp S.kb fun p hp => fre_row S.kp S.kb S.frow (by decide) p hp, S.kb, S.gb, S.low, ?_, by rw [List.length_append, List.length_singleton]; omega, ?_, S.sm3, S.l12, S.lm⟩
  · rw [List.length_append, List.length_singleton, ← hn, List.map_append]
    exact owns_keep own fun p hp => sc_ne (fun e : gB = p => bk_ne hyb own (by decide) (by rw [e]; exact hp)) _ _
  · intro b hb hb2
    simp only [Value.ownBlock, Option.some.injEq] at hb
    subst hb
    rcases hat with h | h
    · exact S.nfw _ h hb2
    · have := (S.wrow.lt _ hb2).2; omega
  · intro b hb hb2
    simp only [Value.ownBlock, Option.some.injEq] at hb
    subst hb
    rcases hat with h | h
    · exact S.nfl _ h hb2
    · have := (S.lrow.lt _ hb2).2; omega
  · intro p hp
    rcases List.mem_append.1 hp with hp | hp
    · exact kx (S.fo p hp)
    · obtain rfl := List.mem_singleton.1 hp
      exact kx ha
  · intro i j hi hj hij g' h1
    rw [List.length_append, List.length_singleton] at hi hj
    have hiF : i < F.length := by omega
    rw [List.getElem_append_left hiF] at h1
    by_cases hjF : j < F.length
    · rw [List.getElem_append_left hjF]; exact S.fsep i j hiF hjF hij g' h1
    · have : j = F.length := by omega
      subst this
      rw [List.getElem_append_right (Nat.le_refl _)]
      simpa using hf1 _ (List.getElem_mem hiF) g' h1
  · intro p hp
    rcases List.mem_append.1 hp with hp | hp
    · exact S.flsep p hp
    · obtain rfl := List.mem_singleton.1 hp
      exact hf2
  · intro p hp
    rcases List.mem_append.1 hp with hp | hp
    · exact S.kf p hp
    · obtain rfl := List.mem_singleton.1 hp
      exact hf3
  · exact (((S.fr.alloc hs o).grown gr (by simp; omega) (fun q hq => (S.frow.lt q hq).1)).setCell (p := ⟨gB, 0, none⟩) S.gb _)
  · intro p hp
    rcases List.mem_append.1 hp with hp | hp
    · exact S.sm2 p hp
    · obtain rfl := List.mem_singleton.1 hp
      exact hz
theorem Bk.wpush (S : Bk w0 w base gB Pr F W L vf vw vl) {o : Obj} {g n c : Nat} {va : Value} {z : List Int} (hn : n = W.length + 1) (ha : Own w base va z)
    (gr : (w.alloc o).grownBy y vw.ownBlock) (own : y.ownsRow base 32 1 (.slice (some ⟨g, 0, none⟩) n c) n (W.map (·.1) ++ [va])) (hat : vw.ownBlock = some g ∨ g = w.heap.size + 1) :
    Bk w0 (y.setCell ⟨gB, 1, none⟩ (.slice (some ⟨g, 0, none⟩) n c)) base gB Pr F (W ++ [(va, z)]) L vf (.slice (some ⟨g, 0, none⟩) n c) vl := by
  have hg0 : gB < w.heap.size := (Array.getElem?_eq_some_iff.1 S.blk).1
  have hyb : y.heap[gB]? = some (.cells #[vf, vw, vl] 37) := (al_block gr gB hg0 (bk_ne S.blk S.wrow (by decide))).trans S.blk
  have hk : ∀ b, b < w.heap.size → b ≠ gB → vw.ownBlock ≠ some b → (y.setCell ⟨gB, 1, none⟩ (.slice (some ⟨g, 0, none⟩) n c)).heap[b]? = w.heap[b]? := fun b h1 h2 h3 => (sc_ne (Ne.symm h2) _ _).trans (al_block gr b h1 h3)
  have kx : ∀ {v : Value} {z : List Int}, Own w base v z → Own (y.setCell ⟨gB, 1, none⟩ (.slice (some ⟨g, 0, none⟩) n c)) base v z := fun h => keepK S.blk hk h (by decide) fun p hp => ty_ne h S.wrow (by decide) hp
  have hs : base ≤ w.heap.size := Nat.le_trans S.low S.fr.size
  refine ⟨by rw [sc_heap hyb]; rfl, keepK S.blk hk S.frow (by decide) fun p hp hp2 => S.nfw p hp hp2, ?_, keepK S.blk hk S.lrow (by decide) fun p hp hp2 => S.nwl p hp2 hp, ?_, S.nfl, ?_, fun p hp => kx (S.fo p hp), ?_, fun p hp => kx (S.lo p hp), S.fsep, S.flsep, S.kf, S.kl, kp_ne S.blk hk S.kp S.kb fun p hp => fre_row S.kp S.kb S.wrow (by decide) p hp, S.kb, S.gb, S.low, ?_, S.sm1, S.sm2, S.sm3, S.l12, S.lm⟩
  · rw [List.length_append, List.length_singleton, ← hn, List.map_append]
    exact owns_keep own fun p hp => sc_ne (fun e : gB = p => bk_ne hyb own (by decide) (by rw [e]; exact hp)) _ _
  · intro b hb hb2
    simp only [Value.ownBlock, Option.some.injEq] at hb2
    subst hb2
    rcases hat with h | h
    · exact S.nfw _ hb h
    · have := (S.frow.lt _ hb).2; omega
  · intro b hb hb2
    simp only [Value.ownBlock, Option.some.injEq] at hb
    subst hb
    rcases hat with h | h
    · exact S.nwl _ h hb2
    · have := (S.lrow.lt _ hb2).2; omega
  · intro p hp
    rcases List.mem_append.1 hp with hp | hp
    · exact kx (S.wo p hp)
    · obtain rfl := List.mem_singleton.1 hp
      exact kx ha
  · exact (((S.fr.alloc hs o).grown gr (by simp; omega) (fun q hq => (S.wrow.lt q hq).1)).setCell (p := ⟨gB, 1, none⟩) S.gb _)
end
end Go.Proofs.Ytaacocliclibgaa.Bd
