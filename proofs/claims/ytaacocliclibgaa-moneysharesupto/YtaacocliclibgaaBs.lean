/- The book settles: the lists marked. -/
import Derived.Test.YtaacocliclibgaaBe
namespace Go.Proofs.Ytaacocliclibgaa.Bs
set_option linter.unusedVariables false
set_option linter.unusedSimpArgs false
open Go.RowKit Sl Kb Ow Ds Bb Bc Bd Be
theorem T5.drop {w0 w : World} {base gB r : Nat} {Pr : List (Nat × Obj)} {A : List Value} {vf vw vl x : Value} {m0 m m' : Int} {L : List (Value × Int)} (S : T5 w0 w base gB Pr A vf vw m0 r x m L vl) : T5 w0 w base gB Pr A vf vw m0 r (.slice none 0 0) m' L vl := by
  refine ⟨S.blk, S.arow, S.lrow, S.lne, S.ent, own_nil _ _ _, fun p hp g h1 h2 => ?_, S.rest, S.sep, fun j h hj g hg => ?_, S.kp, fun q hq h => ?_, S.kl, S.ka, S.kb, S.gb, S.low, S.fr⟩
  · simp [Value.ownBlock] at h2
  · simp [Value.ownBlock] at hg
  · simp [Value.ownBlock] at h
structure M5 (w0 w : World) (base gB : Nat) (Pr : List (Nat × Obj)) (F : List (Value × List Int)) (L : List (Value × Int)) (vf vw vl : Value) (m0 : Int) (i k : Nat) : Prop where
  blk : w.heap[gB]? = some (.cells #[vf, vw, vl] 37)
  frow : w.ownsRow base 32 1 vf F.length (F.map (·.1))
  lrow : w.ownsRow base 32 1 vl L.length (L.map (·.1))
  nfl : ∀ b, vf.ownBlock = some b → vl.ownBlock ≠ some b
  mks : ∀ j (h : j < F.length), ∃ z, z.length = F[j].2.length ∧ Own w base F[j].1 z ∧ (j < i → z = mkI (m0 - (j : Int)) F[j].2.length) ∧ (j = i → ∀ t, t < k → t < F[j].2.length → z[t]? = some (m0 - (j : Int)))
  lo : ∀ p ∈ L, Own w base p.1 (mkI p.2 (ln p.1))
  fsep : ∀ i j (hi : i < F.length) (hj : j < F.length), i < j → ∀ g, F[i].1.ownBlock = some g → F[j].1.ownBlock ≠ some g
  flsep : ∀ p ∈ F, ∀ q ∈ L, ∀ g, q.1.ownBlock = some g → p.1.ownBlock ≠ some g
  kf : ∀ p ∈ F, Fre Pr p.1
  kl : ∀ p ∈ L, Fre Pr p.1
  kp : Kp w Pr
  kb : ∀ q ∈ Pr, ∃ c fr, q.2 = .cells c 3 fr
  gb : base ≤ gB
  low : base ≤ w0.heap.size
  fr : Below base w0 w
section
variable {w0 w y : World} {base gB i k : Nat} {Pr : List (Nat × Obj)} {F W : List (Value × List Int)} {L : List (Value × Int)} {vf vw vl : Value} {m0 : Int}
theorem M5.of (S : Bk w0 w base gB Pr F W L vf vw vl) (m0 : Int) : M5 w0 w base gB Pr F L vf vw vl m0 0 0 :=
  ⟨S.blk, S.frow, S.lrow, S.nfl, fun j h => ⟨F[j].2, rfl, S.fo _ (List.getElem_mem h), fun h => by omega, fun _ t h => by omega⟩, S.lo, S.fsep, S.flsep, S.kf, S.kl, S.kp, S.kb, S.gb, S.low, S.fr⟩
theorem M5.below (S : M5 w0 w base gB Pr F L vf vw vl m0 i k) (h : Below w.heap.size w y) : M5 w0 y base gB Pr F L vf vw vl m0 i k := by
  have k : ∀ {b e s n : Nat} {v : Value} {xs : List Value}, w.ownsRow b e s v n xs → y.ownsRow b e s v n xs := fun r => owns_keep r fun p hp => h.block p (r.lt p hp).2
  exact ⟨kept h S.blk, k S.frow, k S.lrow, S.nfl, fun j hj => by obtain ⟨z, a, b, c⟩ := S.mks j hj; exact ⟨z, a, k b, c⟩, fun p hp => k (S.lo p hp), S.fsep, S.flsep, S.kf, S.kl, fun q hq => kept h (S.kp q hq), S.kb, S.gb, S.low, S.fr.trans (h.mono (Nat.le_trans S.low S.fr.size))⟩
theorem M5.next (S : M5 w0 w base gB Pr F L vf vw vl m0 i k) (hi : i < F.length) (hk : F[i].2.length ≤ k) : M5 w0 w base gB Pr F L vf vw vl m0 (i + 1) 0 := by
  refine ⟨S.blk, S.frow, S.lrow, S.nfl, fun j hj => ?_, S.lo, S.fsep, S.flsep, S.kf, S.kl, S.kp, S.kb, S.gb, S.low, S.fr⟩
  obtain ⟨z, a, b, c, d⟩ := S.mks j hj
  refine ⟨z, a, b, fun h => ?_, fun h t ht => by omega⟩
  by_cases e : j = i
  · subst e
    apply List.ext_getElem?
    intro t
    by_cases ht : t < F[j].2.length
    · rw [d rfl t (by omega) ht, mkI, List.getElem?_replicate, if_pos ht]
    · rw [List.getElem?_eq_none (by omega), List.getElem?_eq_none (by rw [mkI_len]; omega)]
  · exact c (by omega)
/-- a row's number turned -/
theorem own_set {w : World} {base g n c : Nat} {z : List Int} {k : Nat} (h : w.ownsRow base 3 1 (.slice (some ⟨g, 0, none⟩) n c) n (iv z)) (hk : k < n) (v : Int) : (w.setCell ⟨g, k, none⟩ (.int .i64 v)).ownsRow base 3 1 (.slice (some ⟨g, 0, none⟩) n c) n (iv (z.set k v)) := by
  have hz : z.length = n := by have := h.1; rw [iv_length] at this; omega
  refine ⟨by rw [iv_length, List.length_set]; omega, ?_⟩
  rcases h.2 with ⟨e, _⟩ | ⟨g', c', cur, e, hb, hg, h1, h2, h3, h4⟩
  · cases e
  · injection e with e1 e2 e3
    injection e1 with e1
    injection e1 with e1
    subst e1; subst e3
    refine .inr ⟨g, c, _, rfl, hb, sc_heap hg k _, h1, h2, by simpa using h3, ?_⟩
    rw [Array.toList_setIfInBounds]
    have : (cur.toList.set k (.int .i64 v)).take (n * 1) = (cur.toList.take (n * 1)).set k (.int .i64 v) := by rw [List.take_set]
    rw [this, h4]
    simp [iv, List.map_set]
theorem M5.store (S : M5 w0 w base gB Pr F L vf vw vl m0 i k) (hi : i < F.length) {g c N : Nat} (hN : F[i].2.length = N) (e : F[i].1 = .slice (some ⟨g, 0, none⟩) N c) (hk : k < N) : M5 w0 (w.setCell ⟨g, k, none⟩ (.int .i64 (m0 - (i : Int)))) base gB Pr F L vf vw vl m0 i (k + 1) := by
  obtain ⟨zi, ai, bi, ci, di⟩ := S.mks i hi
  have bi' := bi
  unfold Own at bi
  rw [e, ai, hN] at bi
  have hob : F[i].1.ownBlock = some g := by rw [e]; rfl
  have hgB : g ≠ gB := fun e2 => bk_ne S.blk bi' (by decide) (by rw [hob, e2])
  have hkk : ∀ b, b ≠ g → (w.setCell ⟨g, k, none⟩ (.int .i64 (m0 - (i : Int)))).heap[b]? = w.heap[b]? := fun b hb => sc_ne (Ne.symm hb) _ _
  have kr : ∀ {b e s n : Nat} {v : Value} {xs : List Value}, w.ownsRow b e s v n xs → v.ownBlock ≠ some g → (w.setCell ⟨g, k, none⟩ (.int .i64 (m0 - (i : Int)))).ownsRow b e s v n xs := fun r hn => owns_keep r fun p hp => hkk p (fun e2 => hn (by rw [hp, e2]))
  have hgb : base ≤ g := (bi.lt g rfl).1
  refine ⟨(hkk gB (Ne.symm hgB)).trans S.blk, kr S.frow (ty_ne bi' S.frow (by decide) hob), kr S.lrow (ty_ne bi' S.lrow (by decide) hob), S.nfl, fun j hj => ?_, fun p hp => kr (S.lo p hp) (fun h => S.flsep _ (List.getElem_mem hi) p hp g h hob), S.fsep, S.flsep, S.kf, S.kl, fun q hq => (hkk q.1 (fun e2 => S.kf _ (List.getElem_mem hi) q hq (by rw [hob, e2]))).trans (S.kp q hq), S.kb, S.gb, S.low, S.fr.setCell (p := ⟨g, k, none⟩) hgb _⟩
  by_cases ej : j = i
  · subst ej
    refine ⟨zi.set k (m0 - (j : Int)), by rw [List.length_set]; exact ai, ?_, fun h => by omega, fun _ t ht ht2 => ?_⟩
    · have := own_set bi hk (m0 - (j : Int))
      unfold Own
      rw [List.length_set, e, ai, hN]
      exact this
    · by_cases et : t = k
      · subst et
        rw [List.getElem?_set_self (by omega)]
      · rw [List.getElem?_set_ne (by omega)]
        exact di rfl t (by omega) ht2
  · obtain ⟨z, a, b, c2, d⟩ := S.mks j hj
    refine ⟨z, a, kr b (fun h => ?_), c2, fun h => absurd h ej⟩
    rcases Nat.lt_or_gt_of_ne ej with h2 | h2
    · exact S.fsep j i hj hi h2 g h hob
    · exact S.fsep i j hi hj h2 g hob h
theorem M5.t5 (S : M5 w0 w base gB Pr F L vf vw vl m0 i k) (hi : i = F.length) : T5 w0 w base gB Pr (F.map (·.1)) vf vw m0 0 (.slice none 0 0) 0 L vl := by
  subst hi
  have hr : ∀ j (h : j < F.length), Own w base F[j].1 (mkI (m0 - (j : Int)) (ln F[j].1)) := fun j h => by
    obtain ⟨z, a, b, c, _⟩ := S.mks j h
    rw [c h] at b a
    have := owns_ln b (by decide)
    rw [this, mkI_len]
    exact b
  refine ⟨S.blk, by rw [List.length_map]; exact S.frow, S.lrow, S.nfl, S.lo, own_nil _ _ _, fun p hp g h1 h2 => ?_, fun j h _ => ?_, fun p hp j h _ g hg => ?_, fun j h _ g hg => ?_, S.kp, fun q hq h => ?_, S.kl, fun j h _ => ?_, S.kb, S.gb, S.low, S.fr⟩
  · simp [Value.ownBlock] at h2
  · rw [List.getElem_map]; exact hr j (by simpa using h)
  · rw [List.getElem_map]; exact S.flsep _ (List.getElem_mem _) p hp g hg
  · simp [Value.ownBlock] at hg
  · simp [Value.ownBlock] at h
  · rw [List.getElem_map]; exact S.kf _ (List.getElem_mem _)
end
end Go.Proofs.Ytaacocliclibgaa.Bs
