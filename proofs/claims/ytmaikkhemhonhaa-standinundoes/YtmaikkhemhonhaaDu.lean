/- give: of a card that is not remembered. -/
import Derived.Test.YtmaikkhemhonhaaDt
import Derived.Test.YtmaikkhemhonhaaIc
namespace Go.Proofs.Ytmaikkhemhonhaa.Du
set_option linter.unusedVariables false
set_option linter.unusedSimpArgs false
open Go.RowKit Go.Maps Lib0 Kb Xp Da Db Dc Dd De Df Dh Di Dj Dk Dl Dm Dn Dp Dq Dr Ds Dt
attribute [local go_sem] Oper.semAt_some
theorem lc_none {G : List Ga} {c : ByteArray} (h : ∀ g ∈ G, g.1 ≠ c) : lc G c = [] := by
  unfold lc
  rw [List.map_eq_nil_iff, List.filter_eq_nil_iff]
  intro g hg hd
  exact h g hg (of_decide_eq_true hd)
theorem gt_new {A : List Rc} {G : List Ga} (h : Gt A G) {a : Rc} (x : Ap) (hn : ∀ g ∈ G, g.1 ≠ a.card) (hA : ∀ c ∈ A, c.card ≠ a.card) (hs : a.card.size ≤ 1000000) (e2 : a.L = [x]) : Gt (A ++ [a]) (G ++ [(a.card, x)]) := by
  refine ⟨fun c hc => ?_, fun c hc => ?_, fun g hg => ?_, fun c hc => ?_⟩
  · rcases List.mem_append.1 hc with hc | hc
    · rw [lc_other _ _ _ _ (fun e => hA c hc e.symm)]; exact h.eq c hc
    · rw [List.mem_singleton.1 hc, lc_snoc, lc_none hn, e2]; rfl
  · rcases List.mem_append.1 hc with hc | hc
    · exact h.ne c hc
    · rw [List.mem_singleton.1 hc, e2]; simp
  · rcases List.mem_append.1 hg with hg | hg
    · obtain ⟨c, hc, e⟩ := h.all g hg
      exact ⟨c, by simp [hc], e⟩
    · rw [List.mem_singleton.1 hg]; exact ⟨a, by simp, rfl⟩
  · rcases List.mem_append.1 hc with hc | hc
    · exact h.sz c hc
    · rw [List.mem_singleton.1 hc]; exact hs
theorem mp_new {D : DataW Value} {A : List Rc} (h : Mp D A) {a : Rc} (hA : ∀ c ∈ A, c.card ≠ a.card) : Mp (D.put (sk a.card) (.held (ptr a.gr))) (A ++ [a]) := by
  have hh : Maps.has D (sk a.card) = false := by
    cases e : Maps.has D (sk a.card) with
    | false => rfl
    | true =>
      obtain ⟨c, hc, e2⟩ := (h.has _).1 e
      exact absurd e2 (sk_ne (hA c hc))
  refine ⟨h.tidy.put (sk_key _) _, fun l => ?_, fun c hc z => ?_, ?_, ?_⟩
  · by_cases e : l = sk a.card
    · subst e
      rw [Maps.has_put_same h.tidy.isMap (sk_key _)]
      exact ⟨fun _ => ⟨a, by simp, rfl⟩, fun _ => rfl⟩
    · rw [Maps.has_put_other e, h.has]
      constructor
      · rintro ⟨c, hc, e2⟩; exact ⟨c, by simp [hc], e2⟩
      · rintro ⟨c, hc, e2⟩
        rcases List.mem_append.1 hc with hc | hc
        · exact ⟨c, hc, e2⟩
        · rw [List.mem_singleton.1 hc] at e2; exact absurd e2.symm e
  · rcases List.mem_append.1 hc with hc | hc
    · rw [Maps.atKey_put_other (sk_ne (hA c hc))]; exact h.at_ c hc z
    · rw [List.mem_singleton.1 hc]; exact Maps.atKey_put_same h.tidy.isMap (sk_key _) _ _
  · rw [Maps.size_put h.tidy, hh, h.size]; simp
  · rw [List.pairwise_append]
    exact ⟨h.nd, List.pairwise_singleton _ _, fun c hc d hd => by rw [List.mem_singleton.1 hd]; exact hA c hc⟩
theorem bcs_set (most now gv : Int) (cm : Nat) (av av' : Value) : (bcs most now gv cm av).setIfInBounds 4 av' = bcs most now gv cm av' := rfl
theorem mk_map (w : World) : (Instr.makeMap tM none).run Try.prog w = .ok (.map (some w.heap.size)) (w.alloc (.map #[] 0)) := by kernel_rfl
set_option maxRecDepth 100000 in
set_option maxHeartbeats 3200000 in
theorem give_new {w : World} {base b : Nat} {S : St} {m : Nat} (h : Bk w base b S m) (c : ByteArray) (hc : c.size ≤ 1000000) (u : Int) (hu : 0 ≤ u ∧ u ≤ 999999999999) (hg : S.gv < 900) (hex : ∀ g ∈ S.G, g.1 ≠ c) (hmm : m ≤ 10000) : Calls Try.prog 27 #[.pointer (some ⟨b, 0, none⟩), .string c, .int .i64 u, .int .i64 S.now] w fun e w' => e = .returned (.tuple #[]) ∧ PB w base b (giveS S c u) (m + 1) w' := by
  obtain ⟨cm, cn, D, av, A, h1, h2, h3, h4, h5⟩ := h
  have hAc : ∀ a ∈ A, a.card ≠ c := fun a ha e => by
    have hne := h2.ne a ha
    rw [h2.eq a ha] at hne
    apply hne
    rw [e]; exact lc_none hex
  have hlow := h1.hp.low
  have hbas := h1.hp.bas
  obtain ⟨-, c1, c2, c3, -, fz⟩ := h1.cells
  obtain ⟨w1, hw1⟩ : ∃ w1, w.setCell ⟨b, 2, none⟩ (.int .i64 (S.gv + 1)) = w1 := ⟨_, rfl⟩
  have M1 : BkM w1 base b S.most S.now (S.gv + 1) cm cn D av A := hw1 ▸ bkm_set h1 (most' := S.most) (now' := S.now) (gv' := S.gv + 1) rfl (by have := h1.cn; have := h5.g0; omega)
  have K1 : KC w w1 := hw1 ▸ KC.kt (KT.set (S := fun t => t == tB) h1.hp.blk (by decide) _) sK_B
  have B1 : Below base w w1 := hw1 ▸ (Below.refl base w).setCell hlow _
  obtain ⟨w2, hw2⟩ : ∃ w2, w1.alloc (.cells #[.int .i64 (S.gv + 1), .int .i64 u, .int .i64 S.now] tA) = w2 := ⟨_, rfl⟩
  have B2 : Below w1.heap.size w1 w2 := hw2 ▸ below_one _ _
  have HW2 : w2.heap[w1.heap.size]? = some (.cells #[.int .i64 (S.gv + 1), .int .i64 u, .int .i64 S.now] tA) := hw2 ▸ h1_0 _ _
  have M2 := M1.below B2
  have hcm : c.size ≤ maxLen := by unfold maxLen; omega
  have hlk := look_no M2.cards M2.mp hAc hcm
  have iv' := iv_give h5 c u hu hg
  have HCL : Hid (∀ y, Calls Try.prog 39 #[.string c] y fun e w' => e = .returned (.string c) ∧ Below y.heap.size y w') := fun y => Ic.clone_any c y (by omega)
  -- what follows behind Clone
  have HADD : Hid (∀ w3, Below w2.heap.size w2 w3 → (((w3.alloc (.map #[] 0)).alloc (.cells #[.string c, .map (some w3.heap.size), .int .i64 0, .int .i64 0, .int .i64 0] tR)).cell? ⟨w1.heap.size, 0, none⟩ = some (.int .i64 (S.gv + 1)) ∧ ((w3.alloc (.map #[] 0)).alloc (.cells #[.string c, .map (some w3.heap.size), .int .i64 0, .int .i64 0, .int .i64 0] tR)).cell? ⟨w1.heap.size, 1, none⟩ = some (.int .i64 u) ∧ ((w3.alloc (.map #[] 0)).alloc (.cells #[.string c, .map (some w3.heap.size), .int .i64 0, .int .i64 0, .int .i64 0] tR)).cell? ⟨w1.heap.size, 2, none⟩ = some (.int .i64 S.now)) ∧ Calls Try.prog 37 #[.pointer (some ⟨w3.heap.size + 1, 0, none⟩), .agg #[.int .i64 (S.gv + 1), .int .i64 u, .int .i64 S.now]] ((w3.alloc (.map #[] 0)).alloc (.cells #[.string c, .map (some w3.heap.size), .int .i64 0, .int .i64 0, .int .i64 0] tR)) fun e w' => e = .returned (.tuple #[]) ∧
      ((w'.drew.cell? ⟨b, 3, none⟩ = some (.map (some cm)) ∧ w'.drew.cell? ⟨w3.heap.size + 1, 0, none⟩ = some (.string c)) ∧ ∃ w5, (Instr.mapUpdate tMC (.map (some cm)) (.string c) (.pointer (some ⟨w3.heap.size + 1, 0, none⟩))).run Try.prog w'.drew = .ok () w5 ∧ Hid (Calls Try.prog 40 #[.iface 87 (.pointer (some ⟨b, 4, none⟩)), .iface tP (.pointer (some ⟨w3.heap.size + 1, 0, none⟩))] w5 fun e w' => e = .returned (.tuple #[]) ∧ PB w base b (giveS S c u) (m + 1) w'))) := fun w3 hw3 => by
    obtain ⟨w4, hw4⟩ : ∃ w4, (w3.alloc (.map #[] 0)).alloc (.cells #[.string c, .map (some w3.heap.size), .int .i64 0, .int .i64 0, .int .i64 0] tR) = w4 := ⟨_, rfl⟩
    have B4 : Below w3.heap.size w3 w4 := hw4 ▸ below_two _ _ _
    have B24 : Below w2.heap.size w2 w4 := keepB hw3 B4
    have hs4 : w4.heap.size = w3.heap.size + 2 := by rw [← hw4]; simp
    have M4 := M2.below B24
    have FR : Fresh w4 base (w3.heap.size + 1) w3.heap.size c := by
      refine ⟨?_, ?_, ?_, ?_⟩
      · rw [← hw4]; exact h2_1 _ _ _
      · rw [← hw4]; exact (World.ownsMap_made w3 Try.prog tI heldP).alloc _
      · have := M2.hp.bas; have := hw3.size; omega
      · have := M2.hp.bas; have := hw3.size; omega
    have hbox := kept B24 HW2
    rw [hw4]
    have hgv := h5.g1
    have hg0 := h5.g0
    have hn0 := h5.n0
    have hn1 := h5.n1
    refine ⟨⟨by simp [World.cell?, hbox], by simp [World.cell?, hbox], by simp [World.cell?, hbox]⟩, (addR_new FR M4.hp.bas (S.gv + 1, u, S.now) ⟨by show _ ≤ S.gv + 1; omega, by show S.gv + 1 ≤ _; omega⟩ (by show S.gv + 1 ≠ 0; omega) ⟨by show _ ≤ S.now; omega, hn1⟩ hu).mono ?_⟩
    rintro e y ⟨rfl, a, a1, a2, a3, a4, rm, a6, a7, fr⟩
    -- which blocks turned: the new record's own
    have hnew : ∀ k o, k < w3.heap.size → w4.heap[k]? = some o → y.heap[k]? = some o := fun k o hk hko => (fr.block k (by omega) (fun e => by rcases e with e | e <;> omega)).trans hko
    have By : Below w3.heap.size w4 y := ⟨fr.os, fr.tape, fr.output, fr.size, fun k hk => fr.block k (by omega) (fun e => by rcases e with e | e <;> omega)⟩
    have hs23 := hw3.size
    have hbl : ∀ k, k < w2.heap.size → y.heap[k]? = w2.heap[k]? := fun k hk => (fr.block k (by omega) (fun e => by rcases e with e | e <;> omega)).trans (B24.block k hk)
    have B2y : Below w2.heap.size w2 y := ⟨fr.os.trans B24.os, fr.tape.trans B24.tape, fr.output.trans B24.output, by have := fr.size; omega, hbl⟩
    have M5 := M2.below (B2y.drew)
    have rm5 : RM y.drew base a 0 := rm.below ((Below.refl _ y).drew)
    have hsk := M5.cards.store lawS Try.underlying64 (by have := M5.cn; unfold maxLen; omega) (key_s c hcm) (val := ptr a.gr) (d := .held (ptr a.gr)) (ps := []) rfl
    obtain ⟨w5, hst, own5, ht5⟩ := hsk
    have hk5 : ∀ k, k ≠ cm → w5.heap[k]? = y.heap[k]? := fun k hk => (turned_heap ht5 hk).1
    have hcm2 : cm < w2.heap.size := M2.cards.lt
    have k5 : KT (fun _ => false) y w5 → True := fun _ => trivial
    have hcells : ∀ (k : Nat) (cc : Array Value) (t : TypeId) (f : Nat × Nat), y.heap[k]? = some (.cells cc t f) → w5.heap[k]? = some (.cells cc t f) := fun k cc t f hk => (hk5 k (fun e => by
      subst e
      obtain ⟨es, cl, e2, -⟩ := M5.cards
      have e3 : y.heap[k]? = some (.map es cl) := e2
      rw [hk] at e3; cases e3)).trans hk
    have hrow5 : ∀ {bb n sz : Nat} {t : TypeId} {v : Value} {xs : List Value}, y.ownsRow bb t sz v n xs → w5.ownsRow bb t sz v n xs := fun ho => own_keep ho fun k hk => by
      obtain ⟨cc, hcc⟩ := own_ty ho hk
      exact (hcells k _ _ _ hcc).trans hcc.symm
    have rb5 : ∀ x : Rc, x.gm ≠ cm → RB y base x → RB w5 base x := fun x hx hr => by
      obtain ⟨es, cl, e2, r2⟩ := hr.own
      exact ⟨⟨es, cl, (hk5 _ hx).trans e2, r2⟩, hr.one, ⟨hcells _ _ _ _ hr.sh.blk, hrow5 hr.sh.row, hr.sh.low⟩, hr.lowm, hr.lowr, hr.op, hr.up, hr.am, hr.len, hr.nm, hr.opn⟩
    have M5y := M2.below B2y
    have hp5 : HpM w5 base b (bcs S.most S.now (S.gv + 1) cm av) av A := ⟨hcells _ _ _ _ M5y.hp.blk, rfl, hrow5 M5y.hp.row, fun i hi => hcells _ _ _ _ (M5y.hp.recs i hi), h1.hp.apart, h1.hp.low, h1.hp.lowr, by have := M5y.hp.bas; have := (turned_heap ht5 (k := cm + 1) (by omega)).2; show base ≤ w5.heap.size; rw [this]; exact M5y.hp.bas, h1.hp.len⟩
    have hgrA : ∀ x ∈ A, x.gr < w2.heap.size ∧ x.gm < w2.heap.size ∧ x.gs < w2.heap.size ∧ ∀ g, x.rv.ownBlock = some g → g < w2.heap.size := fun x hx => by
      obtain ⟨i, hi, rfl⟩ := List.getElem_of_mem hx
      have hr := M2.rm hi
      exact ⟨(Array.getElem?_eq_some_iff.1 hr.1).1, hr.2.own.lt, (Array.getElem?_eq_some_iff.1 hr.2.sh.blk).1, fun g hg => (hr.2.sh.row.lt g hg).2⟩
    have hs24 : w2.heap.size ≤ w3.heap.size := hs23
    have hap : ∀ x ∈ A, Apart x a := fun x hx => by
      obtain ⟨b1, b2, b3, b4⟩ := hgrA x hx
      refine ⟨by omega, by omega, by omega, fun g hg hg2 => ?_⟩
      have := b4 g hg
      have := a7 g hg2
      omega
    have hacm : a.gm ≠ cm := by omega
    have hPU : Calls Try.prog 40 #[hv b, .iface tP (ptr a.gr)] w5 fun e w' => e = .returned (.tuple #[]) ∧ PB w base b (giveS S c u) (m + 1) w' := by
      refine (hpush_any (p0 := 0) hp5 (hcells _ _ _ _ rm.1) rm.2.lowr (fun x hx => (hap x hx).1) (by omega)).mono ?_
      rintro e z ⟨rfl, A', pm, ⟨av', q1, q2, q3⟩, qo⟩
      rw [bcs_set] at q1
      have hApc : (A ++ [a]).Pairwise Apart := by
        rw [List.pairwise_append]
        exact ⟨h1.apart, List.pairwise_singleton _ _, fun x hx d hd => by rw [List.mem_singleton.1 hd]; exact hap x hx⟩
      have hAa : ∀ x ∈ A, x.card ≠ a.card := fun x hx => by rw [a1]; exact hAc x hx
      have MP := mp_new M5.mp hAa
      rw [a1] at MP
      have GT := gt_new h2 (a := a) (S.gv + 1, u, S.now) (by rw [a1]; exact hex) hAa (by rw [a1]; exact hc) a4
      rw [a1] at GT
      refine ⟨rfl, ⟨cm, cn + 1, _, av', A', ⟨q1, fun x hx => ?_, (pm.pairwise_iff (fun h => Apart.symm h)).2 hApc, q2.map own5, fun x hx => ?_, h1.lowc, MP.perm pm, ?_⟩, gt_perm GT pm, ?_, ?_, iv'⟩, ?_, ?_⟩
      · refine rb_kt ?_ q2 (by decide) (by decide)
        rcases List.mem_append.1 (pm.mem_iff.1 hx) with hx | hx
        · exact rb5 x (h1.cma x hx) (M5y.rb x hx)
        · rw [List.mem_singleton.1 hx]; exact rb5 a hacm rm.2
      · rcases List.mem_append.1 (pm.mem_iff.1 hx) with hx | hx
        · exact h1.cma x hx
        · rw [List.mem_singleton.1 hx]; exact hacm
      · show cn + 1 ≤ (S.gv + 1).toNat
        have := h1.cn; omega
      · rw [pm.length_eq, List.length_append, List.length_singleton]; exact qo h3
      · rw [pm.length_eq, List.length_append, List.length_singleton, h4]
      · refine (K1.trans ((KC.of B2).trans (KC.of B2y))).trans (KC.trans ?_ (KC.kt q2 sK_H))
        exact ⟨(World.mapTurned.grown ht5).os, (World.mapTurned.grown ht5).tape, (World.mapTurned.grown ht5).output, (World.mapTurned.grown ht5).size, fun g cc t f hg _ => hcells g cc t f hg⟩
      · refine (B1.trans ((B2.mono M1.hp.bas).trans (B2y.mono M2.hp.bas))).trans (Below.trans ?_ q3)
        exact ((Below.refl base y).drew).grown (World.mapTurned.grown ht5) M5y.hp.bas (fun j hj => by
          have : cm = j := by simpa using hj
          rw [← this]; exact h1.lowc)
    unfold ptr hv at hPU
    unfold ptr at hst
    rw [a2] at hst hPU
    refine ⟨rfl, ⟨M5.cells.2.2.2.1, ?_⟩, w5, hst, hPU⟩
    have := rm5.cells.1
    rw [a2, a1] at this
    exact this
  have d2 : w1.cell? ⟨b, 2, none⟩ = some (.int .i64 (S.gv + 1)) := M1.cells.2.2.1
  have d3 : w2.cell? ⟨b, 3, none⟩ = some (.map (some cm)) := M2.cells.2.2.2.1
  have f2 := fz 2
  have q1 : S.gv + 1 ≤ 9223372036854775807 := by have := h5.g1; omega
  have q2 : -9223372036854775808 ≤ S.gv + 1 := by have := h5.g0; omega
  generalize S.now = NOW at *
  generalize S.gv = GV at *
  clear h1 h2 h3 h4 h5 M1 K1 B1 B2 HW2 M2 iv' hAc hcm fz hu hg hlow hbas hex hmm hc
  go_enter Try.func27, Try.ntmps27
  go_wp2_with fail
  refine (HCL.out _).mono ?_
  rintro e w3 ⟨rfl, hw3⟩
  obtain ⟨⟨e0, e1, e2⟩, hadd⟩ := HADD.out w3 hw3
  have HAD : Hid (Calls Try.prog 37 #[.pointer (some ⟨w3.heap.size + 1, 0, none⟩), .agg #[.int .i64 (GV + 1), .int .i64 u, .int .i64 NOW]] ((w3.alloc (.map #[] 0)).alloc (.cells #[.string c, .map (some w3.heap.size), .int .i64 0, .int .i64 0, .int .i64 0] tR)) fun e w' => e = .returned (.tuple #[]) ∧
      ((w'.drew.cell? ⟨b, 3, none⟩ = some (.map (some cm)) ∧ w'.drew.cell? ⟨w3.heap.size + 1, 0, none⟩ = some (.string c)) ∧ ∃ w5, (Instr.mapUpdate tMC (.map (some cm)) (.string c) (.pointer (some ⟨w3.heap.size + 1, 0, none⟩))).run Try.prog w'.drew = .ok () w5 ∧ Hid (Calls Try.prog 40 #[.iface 87 (.pointer (some ⟨b, 4, none⟩)), .iface tP (.pointer (some ⟨w3.heap.size + 1, 0, none⟩))] w5 fun e w' => e = .returned (.tuple #[]) ∧ PB w base b (giveS S c u) (m + 1) w'))) := hadd
  have hmk := mk_map w3
  clear hadd hw3
  go_wp2_with fail
  refine HAD.out.mono ?_
  rintro e y ⟨rfl, ⟨k3, k0⟩, w5, hst, HPU⟩
  clear hmk e0 e1 e2
  go_wp2_with fail
  go_region_with (fail)
  all_goals (go_wp2_with fail)
  all_goals (refine HPU.out.mono ?_; rintro e z ⟨rfl, hz⟩)
  all_goals (go_wp2_with fail)
  all_goals go_end0
  all_goals exact ⟨rfl, hz⟩
end Go.Proofs.Ytmaikkhemhonhaa.Du
