/- Going over a trie: All. -/
import Derived.Test.YtecboaocoobjgaaGreatDoorRa
import Derived.Test.YtecboaocoobjgaaGreatDoorQv
namespace Go.Proofs.YtecboaocoobjgaaGreatDoor.Rj
set_option linter.unusedVariables false
set_option linter.unusedSimpArgs false
open Go.RowKit Go.Shelf Lib0 Kb Rp Rw Rs Li Mj Tj Sr Kq Ra
attribute [local go_sem] Oper.semAt_some
abbrev e1 (y : K × Int) : K × Value := (y.1, enc y.2)
theorem e1_inj {a b : K × Int} (h : e1 a = e1 b) : a = b := by
  obtain ⟨a1, a2⟩ := a
  obtain ⟨b1, b2⟩ := b
  simp only [e1, Prod.mk.injEq] at h
  rw [h.1, enc_inj h.2]
theorem map_inj : ∀ {p q : LT}, p.map e1 = q.map e1 → p = q
  | [], [], _ => rfl
  | [], _ :: _, h => by simp at h
  | _ :: _, [], h => by simp at h
  | y :: p, z :: q, h => by
    simp only [List.map_cons, List.cons.injEq] at h
    rw [e1_inj h.1, map_inj h.2]
theorem laid_next {N pre : List El} {x : El} {L acc : LT} {c : Nat} {v : Value} (h : pre ++ [x] <+: N) (hN : laids N = L.map e1) (ha : acc.map e1 = laids pre) (hx : x.2.2 = some (c, v)) : ∃ a, v = enc a ∧ acc ++ [(x.1, a)] <+: L ∧ (acc ++ [(x.1, a)]).map e1 = laids (pre ++ [x]) := by
  have hs : laids (pre ++ [x]) = acc.map e1 ++ [(x.1, v)] := by
    rw [laids_append, ha]; simp [laids, hx]
  obtain ⟨t, ht⟩ := h
  have h2 : acc.map e1 ++ (x.1, v) :: laids t = L.map e1 := by
    rw [← hN, ← ht, laids_append, hs]; simp
  obtain ⟨A, B, hL, hA, hB⟩ := List.map_eq_append_iff.1 h2.symm
  have hAa : A = acc := map_inj hA
  subst hAa
  cases B with
  | nil => simp at hB
  | cons y B =>
    simp only [List.map_cons, List.cons.injEq] at hB
    obtain ⟨y1, y2⟩ := y
    have e := hB.1
    simp only [e1, Prod.mk.injEq] at e
    refine ⟨y2, e.2.symm, ⟨B, by rw [hL, ← e.1]; simp⟩, ?_⟩
    rw [hs, List.map_append, e.2.symm]; simp
theorem laid_skip {pre : List El} {x : El} (hx : x.2.2 = none) : laids (pre ++ [x]) = laids pre := by rw [laids_append]; simp [laids, hx]
theorem yes_no {A : Prop} {e : Ending} {B C D : Prop} (h : A ∧ ((e = .returned (.bool true) ∧ B ∧ C) ∨ (e = .returned (.bool false) ∧ D))) : A ∧ ∃ bb : Bool, e = .returned (.bool bb) ∧ (bb = true → B ∧ C) ∧ (bb = false → D) := by
  obtain ⟨h1, ⟨h2, h3⟩ | ⟨h2, h3⟩⟩ := h
  · exact ⟨h1, true, h2, fun _ => h3, fun h => (by cases h)⟩
  · exact ⟨h1, false, h2, fun h => (by cases h), fun _ => h3⟩
theorem KT.grown {X : List Nat} {A B : World} {row : Option Nat} (h : A.grownBy B row) (hr : ∀ r, row = some r → ∃ o : Obj, A.heap[r]? = some o ∧ o.isCells = false) : KT X A B :=
  ⟨h.size, fun b c t fr _ e => (h.block b (Array.getElem?_eq_some_iff.1 e).1 (fun e2 => by obtain ⟨o, h1, h2⟩ := hr b e2.symm; rw [e] at h1; cases h1; cases h2)).trans e⟩
theorem cells_grown {A B : World} {row : Option Nat} {b : Nat} {c : Array Value} {t : TypeId} (h : A.grownBy B row) (hr : ∀ r, row = some r → ∃ o : Obj, A.heap[r]? = some o ∧ o.isCells = false) (e : A.heap[b]? = some (.cells c t)) : B.heap[b]? = some (.cells c t) :=
  (KT.grown (X := []) h hr).cells b c t _ (by simp) e
theorem quiet_skip {F : Fence} {n : Nat} {P : Program} {ops : Array Oper} {C : World → Prop} {Q : Act → Prop} {a : Act} {o : Oper} {rest : List Oper} (ha : o.askedIn F P a C) (hw : Region.wanted o (yielded ops a.tmps) = false) (h : wpQuietIn F n P ops C Q rest (a.put o.dst undef)) : wpQuietIn F n P ops C Q (o :: rest) a :=
  wpQuietIn_step ha fun K hK => by rw [if_neg (by rw [hw]; exact Bool.false_ne_true)]; exact hK _ h
abbrev tPT : TypeId := 25
theorem cell1 {x : World} {u : Nat} {v : Value} {t : TypeId} (h : x.heap[u]? = some (.cells #[v] t)) : x.cell? ⟨u, 0, none⟩ = some v := by simp [World.cell?, h]
set_option maxRecDepth 100000 in
set_option maxHeartbeats 1600000 in
theorem goes_all {X : List Nat} {b bt : Nat} {L : LT} (n : Nat) (w : World) (hT : Tri w X b L) (hb : w.heap[bt]? = some (.cells #[.pointer (some ⟨b, 0, none⟩)] tPT)) :
    SeqL n Tryz.prog 12 #[.pointer (some ⟨bt, 0, none⟩)] (fun x : K × Int => #[sv x.1, .int .i64 x.2]) (KQ X) L w := fun l J Jx W hW hJ hJx hY h0 => by
  have hTW := hT.below hW
  obtain ⟨T, t1, t2, t3, t4⟩ := hTW.tree
  have hN : laids (T.nodes []) = L.map e1 := by
    refine laids_eq (L := L.map e1) ?_ (fun k => ?_)
    · have := hTW.srt
      simp only [Srt, List.pairwise_map] at this ⊢
      exact this
    · rw [t3]
      have : ∀ M : LT, (lkp M k).map enc = lkp (M.map e1) k := by
        intro M
        induction M with
        | nil => rfl
        | cons y M ih =>
          obtain ⟨y1, y2⟩ := y
          simp only [List.map_cons, lkp, e1]
          split
          · rfl
          · exact ih
      exact this L
  have hbW := kept hW hb
  have cT : (W.alloc (.cells #[.func (.yield l) #[] #[]] tY)).cell? ⟨bt, 0, none⟩ = some (.pointer (some ⟨b, 0, none⟩)) := cell1 (kept (below_one W _) hbW)
  have cR := (held2 (below_one W (.cells #[.func (.yield l) #[] #[]] tY)) t1).1
  simp only [ptr] at cR
  have pn := fun w => nodes_any T w
  simp only [ptr] at pn
  refine callsIn_wide.2 ((callsIn_wide (n := 8)).1 ?_)
  refine callsIn_of_wp_marks Tryz.func12 rfl trivial ?_ rfl
  simp only [Tryz.ntmps12, List.size_toArray, List.length_cons, List.length_nil, Nat.reduceAdd, Nat.reduceSub, Array.replicate_succ, Array.replicate_zero, List.push_toArray, List.append_toArray, List.nil_append, List.cons_append]
  gi_wp2
  refine ⟨trivial, (callsIn_wide.2 (pn _)).mono ?_⟩
  rintro e W2 ⟨rfl, hW2⟩
  have hs1 : (W.alloc (.cells #[.func (.yield l) #[] #[]] tY)).heap.size = W.heap.size + 1 := by simp
  rw [hs1]
  have B2 : Below W.heap.size W W2 := by rw [hW2]; exact below_two W _ _
  have hs2 : W2.heap.size = W.heap.size + 1 + 1 := by rw [hW2]; simp
  have hbx : W2.heap[W.heap.size + 1]? = some (.cells #[ptr T] tPN) := by rw [hW2]; exact h2_1 W _ _
  have hyb : W2.heap[W.heap.size]? = some (.cells #[.func (.yield l) #[] #[]] tY) := by rw [hW2]; exact h2_0 W _ _
  have h02 : J [] W2 := by rw [hW2]; exact hJ.alloc _ (hJ.alloc _ h0)
  clear hW2 pn cT cR hs1
  gi_wp2
  have hJ2 : OwnFrom W2.heap.size J := fun s A B row hs hg hr => hJ s A B row hs hg fun r e => ⟨by have := (hr r e).1; omega, (hr r e).2⟩
  have hJx2 : OwnFrom W2.heap.size Jx := fun s A B row hs hg hr => hJx s A B row hs hg fun r e => ⟨by have := (hr r e).1; omega, (hr r e).2⟩
  refine range2 (by omega) (gf := 32) (lb := #[.pointer (some ⟨W.heap.size + 1, 0, none⟩)]) rfl (enters_of Tryz.func32 (by kernel_rfl) rfl)
    (goes_nodes (X := X) (T := T) (bx := W.heap.size + 1) _ W2 (In.kept (KT.of B2) T t2) t4 hbx) (fun h k => h.trans k) (fun W l o o' _ h hc _ => KQ.put h hc o') (fun W => KQ.refl X W) (Below.refl _ _) 3 4
    (fun pre W' => ∃ acc : LT, acc.map e1 = laids pre ∧ J acc W' ∧ W'.heap[W.heap.size]? = some (.cells #[.func (.yield l) #[] #[]] tY) ∧ KQ X W W')
    (fun c _ W' => c = .ret ∧ ∃ acc : LT, acc <+: L ∧ Jx acc W')
    (fun s A B row hs hg hr => let ⟨acc, a1, a2, a3, a4⟩ := hs; ⟨acc, a1, hJ2 acc A B row a2 hg hr, cells_grown hg (fun r e => (hr r e).2) a3, a4.trans (KQ.kt (KT.grown hg fun r e => (hr r e).2))⟩)
    (fun c s A B row hs hg hr => let ⟨a1, acc, a2, a3⟩ := hs; ⟨a1, acc, a2, hJx2 acc A B row a3 hg hr⟩)
    ⟨[], rfl, h02, hyb, KQ.of B2⟩ ?assign ?body ?done ?stop
  case assign =>
    intro l x W K hK
    gi_wp2
    exact hK
  case body =>
    rintro lr pre x W1 hlr ⟨acc, ha, hj, hy1, hk⟩ hpx
    simp only [List.setIfInBounds_toArray, List.set_cons_succ, List.set_cons_zero]
    obtain ⟨xp, xb, xl⟩ := x
    have hm : (xp, xb, xl) ∈ T.nodes [] := by obtain ⟨t, ht⟩ := hpx; rw [← ht]; simp
    obtain ⟨n1, ⟨kids, n2⟩, n3⟩ := In.nodes_mem T [] t2 _ hm
    simp only at n1 n2 n3
    have n2W := hk.cells _ _ _ _ (.inl rfl) n1 n2
    have c0 := (cells11 n2W).1
    have cy := cell1 hy1
    cases xl with
    | none =>
      simp only [la] at c0
      have HA : Hid (acc.map e1 = laids (pre ++ [(xp, xb, none)])) := by show _ = _; rw [laid_skip rfl]; exact ha
      gi_wp2
      refine Qv.region_round (F := Fence.wide) rfl (by kernel_rfl) (by kernel_rfl) (by kernel_rfl) ?_
      repeat (gi_big_quiet_step (fail))
      refine quiet_skip (fun _ _ _ _ => trivial) (by rfl) ?_
      simp only [Act.put, List.setIfInBounds_toArray, List.set_cons_succ, List.set_cons_zero]
      repeat (gi_big_quiet_step (fail))
      refine wpQuietIn_nil ?_
      intro _ hw'
      obtain ⟨nq, hw''⟩ := hw'
      subst hw''
      gi_wp2
      exact ⟨⟨Nat.le_refl _, fun _ _ _ e _ => e⟩, ⟨Nat.le_refl _, fun _ _ _ _ _ _ e => e⟩, acc, HA.out, hJ acc W1 _ none hj ⟨rfl, rfl, rfl, Nat.le_refl _, fun _ _ _ => rfl⟩ (fun r e => by cases e), hy1, ⟨hk.size, hk.cells⟩⟩
    | some cv =>
      obtain ⟨c, v⟩ := cv
      obtain ⟨a, rfl, hp2, ha2⟩ := laid_next hpx hN ha rfl
      simp only at hp2 ha2
      simp only [la] at c0
      have cv := cell1 (hk.cells _ _ _ _ (.inr (.inl rfl)) (n3 c _ rfl).1 (n3 c _ rfl).2)
      simp only [enc] at cv
      clear n3 n2W n2 hm
      gi_wp2
      refine Qv.region_tail 14 2 (F := Fence.wide) (C := fun w' => ∃ n, w' = W1.drewN n) rfl (by kernel_rfl) (by kernel_rfl) (by kernel_rfl) (by kernel_rfl) (by kernel_rfl) (by kernel_rfl) ⟨1, rfl⟩ ?_
      dsimp only [List.take, List.drop]
      repeat (gi_big_quiet_step (fail))
      refine wpQuietIn_nil ?_
      intro y hy
      obtain ⟨nq, hy2⟩ := hy
      subst hy2
      have hj2 : J acc (W1.drewN nq) := hJ acc W1 _ none hj ⟨rfl, rfl, rfl, Nat.le_refl _, fun _ _ _ => rfl⟩ (fun r e => by cases e)
      obtain ⟨fn, tmps, assign, body, hy, hR⟩ := hY acc (xp, a) (W1.drewN nq) hj2 hp2
      simp only at hy
      gi_wp2
      refine (round_wide hR).mono ?_
      clear hR hy
      have hkd : KQ X W1 (W1.drewN nq) := ⟨Nat.le_refl _, fun _ _ _ _ _ _ e => e⟩
      have hfd : KeepsFrom W2.heap.size W1 (W1.drewN nq) := ⟨Nat.le_refl _, fun _ _ _ e _ => e⟩
      rintro e W3 ⟨hkf, (⟨rfl, hj3, hk3⟩ | ⟨rfl, hjx3⟩)⟩
      · have hkf2 := hfd.trans (keeps_up hkf (by omega))
        have hk4 := hkd.trans hk3
        have hy3 := hkf
        gi_wp2
        exact ⟨hkf2, hk4, acc ++ [(xp, a)], ha2, hj3, hk3.cells _ _ _ _ (.inr (.inr rfl)) (fun hx => Nat.lt_irrefl _ (hTW.all _ hx)) hy1, hk.trans hk4⟩
      · have hkf2 := hfd.trans (keeps_up hkf (by omega))
        gi_wp2
        exact ⟨hkf2, rfl, acc ++ [(xp, a)], hp2, hjx3⟩
  case done =>
    rintro D W1 hD ⟨acc, ha, hj, _, _⟩ hK
    gi_wp2
    refine ⟨by simp, .inl ⟨_, _, rfl, run_takeDeferred hK, ?_⟩⟩
    have hacc : acc = L := map_inj (ha.trans hN)
    rw [hacc] at hj
    exact ⟨_, results_none rfl _ _ _, ⟨_, rfl⟩, .inl (hJ.putObj _ hj (by omega) hK rfl)⟩
  case stop =>
    rintro D c pre W1 hD hp ⟨rfl, acc, ha, hj⟩ hK
    gi_wp2
    refine ⟨by simp, .inl ⟨_, _, rfl, run_takeDeferred hK, ?_⟩⟩
    exact ⟨_, results_none rfl _ _ _, ⟨_, rfl⟩, .inr ⟨acc, ha, hJx.putObj _ hj (by omega) hK rfl⟩⟩
end Go.Proofs.YtecboaocoobjgaaGreatDoor.Rj
