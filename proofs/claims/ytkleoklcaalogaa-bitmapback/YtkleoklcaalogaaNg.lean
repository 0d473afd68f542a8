/- goes: a loop over the map's iterator. -/
import Derived.Test.YtkleoklcaalogaaNi
import Derived.Test.YtkleoklcaalogaaNd
import Derived.RangeFuncFrom
namespace Go.Proofs.Ytkleoklcaalogaa.Ng
set_option linter.unusedVariables false
open Go.RowKit Go.Shelf Pla Bm Bn Nd Ni
attribute [local go_sem] Oper.semAt_some
theorem new_c (W : World) (v : Value) (t : TypeId) : (W.alloc (.cells #[v] t)).cell? ⟨W.heap.size, 0, Option.none⟩ = some v ∧ (W.alloc (.cells #[v] t)).frozen? ⟨W.heap.size, 0, Option.none⟩ = false := by
  have h := h1_0 W (.cells #[v] t)
  constructor <;> simp only [World.cell?, World.frozen?, h] <;> rfl
theorem alloc_c {W : World} {a : Addr} {v : Value} (o : Obj) (h : W.cell? a = some v) : (W.alloc o).cell? a = some v := cell_kept h (World.grownBy_alloc W o Option.none) (fun r e => by cases e)
theorem alloc_f {W : World} {a : Addr} {v : Value} (o : Obj) (h : W.cell? a = some v) (hf : W.frozen? a = false) : (W.alloc o).frozen? a = false := (frozen_kept h (World.grownBy_alloc W o Option.none) (fun r e => by cases e)).trans hf
theorem cell_ne {x : World} {g n : Nat} (v : Value) {p : Addr} (h : p.block ≠ g) : (x.setCell ⟨g, n, Option.none⟩ v).cell? p = x.cell? p := by
  unfold World.cell?
  rw [Below.heap_setCell x ⟨g, n, Option.none⟩ v p.block h]
theorem frozen_ne {x : World} {q : Addr} (v : Value) {p : Addr} (h : x.frozen? p = false) : (x.setCell q v).frozen? p = false := by
  rw [World.frozen?_setCell]; exact h
theorem cell_same {x : World} {q : Addr} {u : Value} (v : Value) (h : x.cell? q = some u) : (x.setCell q v).cell? q = some v := World.cell?_setCell_same' _ _ _ (by rw [h]; rfl)
set_option maxRecDepth 100000 in
set_option maxHeartbeats 1600000 in
theorem goes_any (F S : Nat) (hF : F < 18446744073709551616) (hS : S < 18446744073709551616) (b : Nat) (v : Value) (z : List Int) (hz : z = Np.L F S 128) (most : Int) (w : World)
    (hb : w.heap[b]? = some (.cells #[.int .u64 (F : Int), .int .u64 (S : Int)] 24)) (hl : LiesI w v z) :
    Calls Try.prog 14 #[fv b, v, .int .i64 most] w fun e w' => e = .returned (.bool true) ∧ Below w.heap.size w w' := by
  have hlen : z.length ≤ 128 := by rw [hz]; exact Np.L_len F S 128
  have HZ : Hid (z = Np.L F S 128) := hz
  obtain ⟨o, cap, rfl, hc⟩ := hl
  have HC : Hid (∀ i (h : i < z.length), ∃ g, o = some ⟨g, 0, Option.none⟩ ∧ w.cell? ⟨g, i, Option.none⟩ = some (.int .i64 z[i])) := hc
  clear hc hz
  refine (callsIn_wide (n := 5)).1 ?_
  refine callsIn_of_wp_marks Try.func14 rfl trivial ?_ rfl
  simp only [Try.ntmps14, List.size_toArray, List.length_cons, List.length_nil, Nat.reduceAdd, Nat.reduceSub, Array.replicate_succ, Array.replicate_zero, List.push_toArray, List.append_toArray, List.nil_append, List.cons_append]
  gi_wp2
  have c0 := new_c w (.slice o z.length cap) 35
  have c1 := new_c (w.alloc (.cells #[.slice o z.length cap] 35)) (.int .i64 most) 3
  have c2 := new_c ((w.alloc (.cells #[.slice o z.length cap] 35)).alloc (.cells #[.int .i64 most] 3)) (.bool false) 4
  have c3 := new_c (((w.alloc (.cells #[.slice o z.length cap] 35)).alloc (.cells #[.int .i64 most] 3)).alloc (.cells #[.bool false] 4)) (.int .i64 0) 3
  simp only [World.size_alloc] at c1 c2 c3
  have hB0 : Below w.heap.size w ((((w.alloc (.cells #[.slice o z.length cap] 35)).alloc (.cells #[.int .i64 most] 3)).alloc (.cells #[.bool false] 4)).alloc (.cells #[.int .i64 0] 3)) := (below_three w _ _ _).alloc (by simp; omega) _
  have d0 := alloc_c (.cells #[.int .i64 0] 3) (alloc_c (.cells #[.bool false] 4) (alloc_c (.cells #[.int .i64 most] 3) c0.1))
  have d1 := alloc_c (.cells #[.int .i64 0] 3) (alloc_c (.cells #[.bool false] 4) c1.1)
  have d2 := alloc_c (.cells #[.int .i64 0] 3) c2.1
  have e2 := alloc_f (.cells #[.int .i64 0] 3) c2.1 c2.2
  have hsz : ((((w.alloc (.cells #[.slice o z.length cap] 35)).alloc (.cells #[.int .i64 most] 3)).alloc (.cells #[.bool false] 4)).alloc (.cells #[.int .i64 0] 3)).heap.size = w.heap.size + 1 + 1 + 1 + 1 := by simp
  generalize ((((w.alloc (.cells #[.slice o z.length cap] 35)).alloc (.cells #[.int .i64 most] 3)).alloc (.cells #[.bool false] 4)).alloc (.cells #[.int .i64 0] 3)) = W0 at *
  clear c0 c1 c2
  refine wpIn_rangeFunc_ownF rfl (by omega) (gf := 25) (lb := #[.pointer (some ⟨b, 0, Option.none⟩)]) rfl trivial (enters_of Try.func25 (by kernel_rfl) rfl)
    (goes_over F S hF hS _ (by omega) b w.heap.size W0 (kept hB0 hb)) belowK_t (belowK_b (by omega)) (Below.refl _ _) (fun _ => rfl)
    (fun pre W => (pre <+: z ∧ W.cell? ⟨w.heap.size, 0, Option.none⟩ = some (.slice o z.length cap) ∧ W.cell? ⟨w.heap.size + 1, 0, Option.none⟩ = some (.int .i64 most) ∧ (W.cell? ⟨w.heap.size + 1 + 1, 0, Option.none⟩ = some (.bool false) ∧ W.frozen? ⟨w.heap.size + 1 + 1, 0, Option.none⟩ = false) ∧ (W.cell? ⟨w.heap.size + 1 + 1 + 1, 0, Option.none⟩ = some (.int .i64 (pre.length : Int)) ∧ W.frozen? ⟨w.heap.size + 1 + 1 + 1, 0, Option.none⟩ = false)) ∧ Below w.heap.size w W)
    (fun c pre W => (c = .ret ∧ (pre <+: z → W.cell? ⟨w.heap.size + 1 + 1, 0, Option.none⟩ = some (.bool true)) ∧ (W.cell? ⟨w.heap.size + 1 + 1, 0, Option.none⟩).isSome = true) ∧ Below w.heap.size w W)
    (OwnFrom.and (Own.from (fun s A B row hs hg hr => ⟨hs.1, cell_kept hs.2.1 hg hr, cell_kept hs.2.2.1 hg hr, ⟨cell_kept hs.2.2.2.1.1 hg hr, (frozen_kept hs.2.2.2.1.1 hg hr).trans hs.2.2.2.1.2⟩, cell_kept hs.2.2.2.2.1 hg hr, (frozen_kept hs.2.2.2.2.1 hg hr).trans hs.2.2.2.2.2⟩) _) (ownFrom_below (Nat.le_refl _) (by omega)))
    (fun c => OwnFrom.and (Own.from (fun s A B row hs hg hr => ⟨hs.1, fun h => cell_kept (hs.2.1 h) hg hr, by
      obtain ⟨u, hu⟩ := Option.isSome_iff_exists.1 hs.2.2
      rw [cell_kept hu hg hr]; rfl⟩) _) (ownFrom_below (Nat.le_refl _) (by omega)))
    ⟨⟨List.nil_prefix, d0, d1, ⟨d2, e2⟩, c3.1, c3.2⟩, hB0⟩
    (fun x => { tmps := #[fv b, .slice o z.length cap, .int .i64 most, undef, .pointer (some ⟨w.heap.size, 0, Option.none⟩), .pointer (some ⟨w.heap.size + 1, 0, Option.none⟩), .pointer (some ⟨w.heap.size + 1 + 1, 0, Option.none⟩), .pointer (some ⟨w.heap.size + 1 + 1 + 1, 0, Option.none⟩), .int .i64 x, fv b, .int .i64 x, undef, undef, undef, undef, undef, undef, undef, undef, undef, undef, undef, undef, undef, undef, undef, undef, undef, undef, undef, undef, undef], defers := [] }) ?assign ?body ?done ?stop
  case assign =>
    intro l x W K hK
    gi_wp2
    exact hK
  case body =>
    rintro l pre x W ⟨⟨hp, k0, k1, ⟨k2, f2⟩, k3, f3⟩, hB⟩ hN
    clear d0 d1 d2 e2 c3 hB0
    have HP : Hid (pre <+: z) := hp
    have hpl := hp.length_le
    have p0 : (0 : Int) ≤ (pre.length : Int) := by omega
    have z0 : (z.length : Int) ≤ 128 := by omega
    by_cases hlt : pre.length < z.length
    · obtain ⟨g, rfl, hg⟩ := HC.out pre.length hlt
      have hgW : W.cell? ⟨g, pre.length, Option.none⟩ = some (.int .i64 z[pre.length]) := (hB.cell (World.block_lt_of_cell? w _ hg)).trans hg
      have p1 : (pre.length : Int) < (z.length : Int) := by omega
      by_cases hx : x = z[pre.length]
      · have HX : Hid (pre ++ [x] <+: z) := by
          obtain ⟨t, rfl⟩ := hp
          cases t with
          | nil => simp at hlt
          | cons y t => simp at hx; subst hx; exact ⟨t, by simp⟩
        rw [← hx] at hgW
        clear hx hg hp hlt hpl
        have ce : (x != x) = false := by simp
        by_cases hm : (pre.length : Int) + 1 = most
        · have cm : ((pre.length : Int) + 1 == most) = true := by simp [hm]
          have Hm : Hid ((pre.length : Int) + 1 = most) := hm
          clear hm
          gi_wp2
          have k2' : (W.setCell ⟨w.heap.size + 1 + 1 + 1, 0, Option.none⟩ (.int .i64 ((pre.length : Int) + 1))).cell? ⟨w.heap.size + 1 + 1, 0, Option.none⟩ = some (.bool false) := by rw [cell_ne _ (by simp)]; exact k2
          exact ⟨(KeepsOthers.setCell _ _ _).trans (KeepsOthers.setCell _ _ _), ⟨rfl, fun _ => cell_same _ k2', by rw [cell_same _ k2']; rfl⟩, (hB.setCell (p := ⟨w.heap.size + 1 + 1 + 1, 0, Option.none⟩) (by simp; omega) _).setCell (p := ⟨w.heap.size + 1 + 1, 0, Option.none⟩) (by simp; omega) _⟩
        · have cm : ((pre.length : Int) + 1 == most) = false := by simp [hm]
          have Hm : Hid (¬ (pre.length : Int) + 1 = most) := hm
          clear hm
          gi_wp2
          refine ⟨KeepsOthers.setCell _ _ _, (Below.refl _ W).setCell (p := ⟨w.heap.size + 1 + 1 + 1, 0, Option.none⟩) (by simp; omega) _, ⟨HX.out, ?_, ?_, ⟨?_, ?_⟩, ?_, ?_⟩, hB.setCell (p := ⟨w.heap.size + 1 + 1 + 1, 0, Option.none⟩) (by simp; omega) _⟩
          · rw [cell_ne _ (by simp; omega)]; exact k0
          · rw [cell_ne _ (by simp)]; exact k1
          · rw [cell_ne _ (by simp)]; exact k2
          · exact frozen_ne _ f2
          · rw [cell_same _ k3]; simp
          · exact frozen_ne _ f3
      · have ce : (x != z[pre.length]) = true := by simp [hx]
        have HX : Hid (¬ pre ++ [x] <+: z) := by
          intro h
          obtain ⟨t, rfl⟩ := h
          simp at hx
        generalize z[pre.length] = zi at *
        clear hx hg hp hlt hpl
        gi_wp2
        exact ⟨KeepsOthers.setCell _ _ _, ⟨rfl, fun h => absurd h HX.out, by rw [cell_same _ k2]; rfl⟩, hB.setCell (p := ⟨w.heap.size + 1 + 1, 0, Option.none⟩) (by simp; omega) _⟩
    · have p1 : (z.length : Int) ≤ (pre.length : Int) := by omega
      have HX : Hid (¬ pre ++ [x] <+: z) := by
        intro h
        have := h.length_le
        simp at this; omega
      clear hlt hpl hp
      gi_wp2
      exact ⟨KeepsOthers.setCell _ _ _, ⟨rfl, fun h => absurd h HX.out, by rw [cell_same _ k2]; rfl⟩, hB.setCell (p := ⟨w.heap.size + 1 + 1, 0, Option.none⟩) (by simp; omega) _⟩
  case done =>
    rintro D ys W hD hS ⟨⟨hp, k0, k1, ⟨k2, f2⟩, k3, f3⟩, hB⟩ hK
    obtain rfl : ys = z := hS.trans HZ.out.symm
    have ce : ((ys.length : Int) == (ys.length : Int)) = true := by simp
    clear hp d0 d1 d2 e2 c3
    gi_wp2
    have hK' := (KeepsOthers.setCell W ⟨w.heap.size + 1 + 1, 0, Option.none⟩ (.bool true)).same D _ hK rfl
    refine ⟨by simp, .inl ⟨_, _, rfl, run_takeDeferred hK', ?_⟩⟩
    have hc5 := cell_kept (cell_same (.bool true) k2) (grownBy_putObj' _ D (.deferred Option.none)) (fun r e => by cases e; exact ⟨_, hK', rfl⟩)
    refine ⟨.bool true, ?_, rfl, (hB.setCell (p := ⟨w.heap.size + 1 + 1, 0, Option.none⟩) (by simp; omega) _).trans (belowK_b (w := w) (Nat.le_refl _) _ D _ _ (by omega) hK' rfl rfl)⟩
    simp [results, Try.f14, go_sem, hc5]
  case stop =>
    rintro D c pre W hD hpre ⟨⟨rfl, hin, hso⟩, hB⟩ hK
    have k2 := hin (by rw [HZ.out]; exact hpre)
    clear d0 d1 d2 e2 c3
    gi_wp2
    refine ⟨by simp, .inl ⟨_, _, rfl, run_takeDeferred hK, ?_⟩⟩
    have hc5 := cell_kept k2 (grownBy_putObj' _ D (.deferred Option.none)) (fun r e => by cases e; exact ⟨_, hK, rfl⟩)
    refine ⟨.bool true, ?_, rfl, hB.trans (belowK_b (w := w) (Nat.le_refl _) W D _ _ (by omega) hK rfl rfl)⟩
    simp [results, Try.f14, go_sem, hc5]
end Go.Proofs.Ytkleoklcaalogaa.Ng
