import Derived.Test.YtgchdjjafgkcbaaQf14
/- Small functions of a table: isWithin, nameOf, Has, holds, Len, Late. -/
namespace Go.Proofs.Ytgchdjjafgkcbaa.Pd
set_option linter.unusedVariables false
set_option linter.unusedSimpArgs false
open Go.RowKit Go.Maps Lib0 Kb Xp Za Ze Ih Fh Hh Pa Pb Pc
attribute [local go_sem] Oper.semAt_some
theorem within_any (n m : Int) (w : World) : Calls Try.prog 20 #[.int .i64 n, .int .i64 m] w fun e w' => e = .returned (.bool (decide (1 ≤ n) && decide (n ≤ m))) ∧ w' = w := by
  by_cases h1 : 1 ≤ n <;> by_cases h2 : n ≤ m
  all_goals
    go_enter Try.func20, Try.ntmps20
    go_wp2
    go_ret
    refine ⟨?_, rfl⟩
    simp [h1, h2]
theorem nameOf_any (r : Rq) (v1 v2 : Value) (w : World) (h1 : ∃ o n c, v1 = .slice o n c) (h2 : ∃ o n c, v2 = .slice o n c) : Calls Try.prog 24 #[pv r v1 v2] w fun e w' => e = .returned (nv r) ∧ Below w.heap.size w w' := by
  obtain ⟨o1, n1, p1, rfl⟩ := h1
  obtain ⟨o2, n2, p2, rfl⟩ := h2
  obtain ⟨lk, cl, nu, st, tr, fr, to_, no, m1, L1, m2, L2⟩ := r
  have x0 := h2_0 w (.cells #[.int .i64 lk, .int .i64 cl, .string nu, .string st, .string tr, .int .i64 fr, .int .i64 to_, .int .i64 no, .string m1, .slice o1 n1 p1, .string m2, .slice o2 n2 p2] tP) (.cells #[.int .i64 0, .int .i64 0] tN)
  have c6 : ((w.alloc (.cells #[.int .i64 lk, .int .i64 cl, .string nu, .string st, .string tr, .int .i64 fr, .int .i64 to_, .int .i64 no, .string m1, .slice o1 n1 p1, .string m2, .slice o2 n2 p2] tP)).alloc (.cells #[.int .i64 0, .int .i64 0] tN)).cell? ⟨w.heap.size, 6, none⟩ = some (.int .i64 to_) := by simp [World.cell?, x0]
  have c7 : ((w.alloc (.cells #[.int .i64 lk, .int .i64 cl, .string nu, .string st, .string tr, .int .i64 fr, .int .i64 to_, .int .i64 no, .string m1, .slice o1 n1 p1, .string m2, .slice o2 n2 p2] tP)).alloc (.cells #[.int .i64 0, .int .i64 0] tN)).cell? ⟨w.heap.size, 7, none⟩ = some (.int .i64 no) := by simp [World.cell?, x0]
  clear x0
  unfold pv nv nameV
  simp only [pcs]
  go_enter Try.func24, Try.ntmps24
  go_wp2_with fail
  refine bodyPost_ret (v := .agg #[.int .i64 to_, .int .i64 no]) (results_cell_row (fn := Try.f24) rfl _ _ (w.heap.size + 1) tN _ _ _ rfl (h2_1 _ _ _) Try.underlying72 rfl (by kernel_rfl)) rfl ⟨rfl, below_two _ _ _⟩
theorem zeroE (w : World) : (zeroValue 78).run Try.prog w = .ok (.agg #[]) w := by kernel_rfl
theorem look_key {w : World} {kb ck : Nat} {Dk : DataW Value} (h : w.ownsMap Try.prog tK unitElem kb ck Dk) {k : Value} {l : Lit} (hk : keyOf Try.prog tK k = some l) : (Instr.lookup tMK (.map (some kb)) k true).run Try.prog w = .ok (.tuple #[.agg #[], .bool (Maps.has Dk l)]) w := by
  obtain ⟨v, ps, hrun, hv⟩ := h.look_ok lawK Try.underlying65 (zeroE w) unitElem_mk hk
  rw [hrun, (unitElem_inv hv).1]
theorem has_any {w : World} {base b wb rb kb hb : Nat} {Bw Br : Nat → Prop} {ck ch : Nat} {Dk Dh : DataW Value} {C : Cf} {old : Int} {XW XR : LT} {nw nr lw lr : Int} (h : Tm w base b wb rb kb hb Bw Br ck ch Dk Dh C old XW XR nw nr lw lr) (l c : Int) (n s t : ByteArray) (hk : keyOf Try.prog tK (keyV l c n s t) = some (keyL l c n s t)) : Calls Try.prog 18 #[.pointer (some ⟨b, 0, none⟩), keyV l c n s t] w fun e w' => e = .returned (.bool (Maps.has Dk (keyL l c n s t))) ∧ Below w.heap.size w w' := by
  obtain ⟨y, hy⟩ : ∃ y, w.alloc (.cells #[.int .i64 l, .int .i64 c, .string n, .string s, .string t] tK) = y := ⟨_, rfl⟩
  have HY : Hid (Below w.heap.size w y) := hy ▸ below_one _ _
  have ty := h.below HY.out
  have c6 := ty.cells.2.2.2.2.2.2.1
  have x0 : y.heap[w.heap.size]? = some (.cells #[.int .i64 l, .int .i64 c, .string n, .string s, .string t] tK) := hy ▸ h1_0 _ _
  have hlk0 : (Instr.lookup tMK (.map (some kb)) (keyV l c n s t) true).run Try.prog y = .ok (.tuple #[.agg #[], .bool (Maps.has Dk (keyL l c n s t))]) y := look_key ty.keys hk
  have hlk1 : (Instr.lookup tMK (.map (some kb)) (keyV l c n s t) true).run Try.prog y.drew = .ok (.tuple #[.agg #[], .bool (Maps.has Dk (keyL l c n s t))]) y.drew := look_key ty.keys.drew hk
  have hlk2 : (Instr.lookup tMK (.map (some kb)) (keyV l c n s t) true).run Try.prog (y.alloc (.cells #[] 78)) = .ok (.tuple #[.agg #[], .bool (Maps.has Dk (keyL l c n s t))]) (y.alloc (.cells #[] 78)) := look_key (ty.below (below_one _ _)).keys hk
  have hlk3 : (Instr.lookup tMK (.map (some kb)) (keyV l c n s t) true).run Try.prog (y.alloc (.cells #[] 78)).drew = .ok (.tuple #[.agg #[], .bool (Maps.has Dk (keyL l c n s t))]) (y.alloc (.cells #[] 78)).drew := look_key (ty.below (below_one _ _)).keys.drew hk
  generalize Maps.has Dk (keyL l c n s t) = B at *
  have d0 : y.cell? ⟨w.heap.size, 0, none⟩ = some (.int .i64 l) := by simp [World.cell?, x0]
  have d1 : y.cell? ⟨w.heap.size, 1, none⟩ = some (.int .i64 c) := by simp [World.cell?, x0]
  have d2 : y.cell? ⟨w.heap.size, 2, none⟩ = some (.string n) := by simp [World.cell?, x0]
  have d3 : y.cell? ⟨w.heap.size, 3, none⟩ = some (.string s) := by simp [World.cell?, x0]
  have d4 : y.cell? ⟨w.heap.size, 4, none⟩ = some (.string t) := by simp [World.cell?, x0]
  have lt : w.heap.size < y.heap.size := (Array.getElem?_eq_some_iff.1 x0).1
  have ltb : b < y.heap.size := (Array.getElem?_eq_some_iff.1 ty.blk).1
  have HA := below_one y (.cells #[] 78)
  have e0 := keepC HA d0 lt
  have e1 := keepC HA d1 lt
  have e2 := keepC HA d2 lt
  have e3 := keepC HA d3 lt
  have e4 := keepC HA d4 lt
  have e6 := keepC HA c6 ltb
  have HBY : Hid (Below w.heap.size w (y.alloc (.cells #[] 78))) := keepB HY.out HA
  unfold keyV at hlk0 hlk1 hlk2 hlk3 ⊢
  clear h ty x0 hk HA lt ltb
  go_enter Try.func18, Try.ntmps18
  go_wp2_with fail
  go_region
  all_goals (go_wp2_with fail)
  all_goals (go_ret)
  all_goals exact ⟨rfl, HBY.out.drew⟩
theorem zeroP (w : World) : (zeroValue 69).run Try.prog w = .ok (.pointer none) w := by kernel_rfl
theorem look_held {w : World} {hb ch : Nat} {Dh : DataW Value} (h : w.ownsMap Try.prog tN Pc.heldE hb ch Dh) {k : Value} {l : Lit} (hk : keyOf Try.prog tN k = some l) : ∃ v, (∀ m, (Instr.lookup tMH (.map (some hb)) k true).run Try.prog (w.drewN m) = .ok (.tuple #[v, .bool (Maps.has Dh l)]) (w.drewN m)) ∧ Dh.atKey l (.held (.pointer none)) = .held v := by
  have hd : ∀ m, (w.drewN m).ownsMap Try.prog tN Pc.heldE hb ch Dh := fun m => map_keep h ((Kb.below_drewN (Below.refl _ w) m).block hb h.lt)
  have key : ∀ m, ∃ v, (Instr.lookup tMH (.map (some hb)) k true).run Try.prog (w.drewN m) = .ok (.tuple #[v, .bool (Maps.has Dh l)]) (w.drewN m) ∧ Dh.atKey l (.held (.pointer none)) = .held v := fun m => by
    obtain ⟨v, ps, hrun, hv⟩ := (hd m).look_ok lawN Try.underlying66 (zeroP _) (zd := .held (.pointer none)) (zp := []) rfl hk
    refine ⟨v, hrun, ?_⟩
    simp only [Pc.heldE, Option.some.injEq, Prod.mk.injEq] at hv
    exact hv.1.symm
  obtain ⟨v, -, hv⟩ := key 0
  refine ⟨v, fun m => ?_, hv⟩
  obtain ⟨v2, h1, h2⟩ := key m
  have : v2 = v := by rw [hv] at h2; simp only [DataW.held.injEq] at h2; exact h2.symm
  rw [h1, this]
theorem holds_any {w : World} {base b wb rb kb hb : Nat} {Bw Br : Nat → Prop} {ck ch : Nat} {Dk Dh : DataW Value} {C : Cf} {old : Int} {XW XR : LT} {nw nr lw lr : Int} (h : Tm w base b wb rb kb hb Bw Br ck ch Dk Dh C old XW XR nw nr lw lr) (a c : Int) (hk : keyOf Try.prog tN (nameV a c) = some (nameL a c)) : Calls Try.prog 23 #[.pointer (some ⟨b, 0, none⟩), nameV a c] w fun e w' => e = .returned (.bool (Maps.has Dh (nameL a c))) ∧ Below w.heap.size w w' := by
  obtain ⟨y, hy⟩ : ∃ y, w.alloc (.cells #[.int .i64 a, .int .i64 c] tN) = y := ⟨_, rfl⟩
  have HY : Hid (Below w.heap.size w y) := hy ▸ below_one _ _
  have ty := h.below HY.out
  have c7 := ty.cells.2.2.2.2.2.2.2
  have x0 : y.heap[w.heap.size]? = some (.cells #[.int .i64 a, .int .i64 c] tN) := hy ▸ h1_0 _ _
  obtain ⟨v, hlk, -⟩ := look_held ty.held hk
  generalize Maps.has Dh (nameL a c) = B at *
  have d0 : y.cell? ⟨w.heap.size, 0, none⟩ = some (.int .i64 a) := by simp [World.cell?, x0]
  have d1 : y.cell? ⟨w.heap.size, 1, none⟩ = some (.int .i64 c) := by simp [World.cell?, x0]
  unfold nameV at hlk ⊢
  clear h ty x0 hk
  go_enter Try.func23, Try.ntmps23
  go_wp2_with fail
  go_quiet (fail)
  go_wp2_with fail
  go_ret
  exact ⟨rfl, Kb.below_drewN HY.out _⟩
theorem len_any {w : World} {base b wb rb kb hb : Nat} {Bw Br : Nat → Prop} {ck ch : Nat} {Dk Dh : DataW Value} {C : Cf} {old : Int} {XW XR : LT} {nw nr lw lr : Int} (h : Tm w base b wb rb kb hb Bw Br ck ch Dk Dh C old XW XR nw nr lw lr) : Calls Try.prog 11 #[.pointer (some ⟨b, 0, none⟩)] w fun e w' => e = .returned (.int .i64 (XW.length : Nat)) ∧ w' = w := by
  have c0 := h.cells.1
  have p := Th.len_any w wb Bw 256 XW nw lw h.ww
  clear h
  go_enter Try.func11, Try.ntmps11
  go_wp2_with fail
  refine p.mono ?_
  rintro e y ⟨rfl, rfl⟩
  go_wp2_with fail
  go_ret
  exact ⟨rfl, rfl⟩
theorem late_any {w : World} {base b wb rb kb hb : Nat} {Bw Br : Nat → Prop} {ck ch : Nat} {Dk Dh : DataW Value} {C : Cf} {old : Int} {XW XR : LT} {nw nr lw lr : Int} (h : Tm w base b wb rb kb hb Bw Br ck ch Dk Dh C old XW XR nw nr lw lr) : Calls Try.prog 12 #[.pointer (some ⟨b, 0, none⟩)] w fun e w' => e = .returned (.int .i64 (XR.length : Nat)) ∧ w' = w := by
  have c0 := h.cells.2.1
  have p := Th.len_any w rb Br 256 XR nr lr h.wr
  clear h
  go_enter Try.func12, Try.ntmps12
  go_wp2_with fail
  refine p.mono ?_
  rintro e y ⟨rfl, rfl⟩
  go_wp2_with fail
  go_ret
  exact ⟨rfl, rfl⟩
end Go.Proofs.Ytgchdjjafgkcbaa.Pd
/- wait, remember: a held request's timer. -/
namespace Go.Proofs.Ytgchdjjafgkcbaa.Pe
set_option linter.unusedVariables false
set_option linter.unusedSimpArgs false
open Go.RowKit Go.Maps Lib0 Kb Xp Za Ze Ih Fh Hh Pa Pb Pc
attribute [local go_sem] Oper.semAt_some
/-- the other held requests stay -/
def Ko (base g : Nat) (w w' : World) : Prop := ∀ k r t l, k ≠ g → Hd w base k r t l → Hd w' base k r t l
theorem Ko.refl (base g : Nat) (w : World) : Ko base g w w := fun _ _ _ _ _ h => h
theorem Ko.of {base g : Nat} {w x : World} (h : Kx w x) : Ko base g w x := fun _ _ _ _ _ hd => hd.keep h
theorem Ko.trans {base g : Nat} {w x y : World} (h : Ko base g w x) (k : Ko base g x y) : Ko base g w y := fun a r t l hne hd => k a r t l hne (h a r t l hne hd)
theorem Ko.set {base g o : Nat} {w : World} {c : Array Value} (hg : w.heap[g]? = some (.cells c tH (0, 0))) (v : Value) : Ko base g w (w.setCell ⟨g, o, none⟩ v) := fun k r t l hne hd => hd.other hg (fun e => hne e.symm) v
theorem hd_blk {w : World} {base g : Nat} {r : Rq} {t : Int} {l : Bool} (h : Hd w base g r t l) : ∃ c, w.heap[g]? = some (.cells c tH (0, 0)) := by
  obtain ⟨-, v1, v2, h1, -⟩ := h
  exact ⟨_, h1⟩
theorem hd_cells {w : World} {base g : Nat} {r : Rq} {t : Int} {l : Bool} (h : Hd w base g r t l) : w.cell? ⟨g, 12, none⟩ = some (.int .i64 t) ∧ w.cell? ⟨g, 13, none⟩ = some (.bool l) ∧ w.frozen? ⟨g, 12, none⟩ = false ∧ w.frozen? ⟨g, 13, none⟩ = false := by
  obtain ⟨-, v1, v2, h1, -⟩ := h
  unfold hcs at h1
  refine ⟨?_, ?_, ?_, ?_⟩ <;> simp [World.cell?, World.frozen?, h1]
theorem hd_timer {w : World} {base g : Nat} {r : Rq} {t : Int} {l : Bool} (h : Hd w base g r t l) (t' : Int) : Hd (w.setCell ⟨g, 12, none⟩ (.int .i64 t')) base g r t' l := by
  obtain ⟨h0, v1, v2, h1, h2, h3⟩ := h
  have kt := Kt.set (Kt.refl w) h1 (o := 12) (.int .i64 t')
  exact ⟨h0, v1, v2, by rw [setCell_heap h1]; rfl, kt.row h2, kt.row h3⟩
theorem hd_late {w : World} {base g : Nat} {r : Rq} {t : Int} {l : Bool} (h : Hd w base g r t l) (l' : Bool) : Hd (w.setCell ⟨g, 13, none⟩ (.bool l')) base g r t l' := by
  obtain ⟨h0, v1, v2, h1, h2, h3⟩ := h
  have kt := Kt.set (Kt.refl w) h1 (o := 13) (.bool l')
  exact ⟨h0, v1, v2, by rw [setCell_heap h1]; rfl, kt.row h2, kt.row h3⟩
theorem below_set {base g o : Nat} {w x : World} (h : Below base w x) (hg : base ≤ g) (v : Value) : Below base w (x.setCell ⟨g, o, none⟩ v) := h.setCell hg v
section
variable {w : World} {base b wb rb kb hb : Nat} {Bw Br : Nat → Prop} {ck ch : Nat} {Dk Dh : DataW Value} {C : Cf} {old : Int} {XW XR : LT} {nw nr lw lr : Int}
set_option maxRecDepth 100000 in
set_option maxHeartbeats 1600000 in
theorem wait_any (h : Tm w base b wb rb kb hb Bw Br ck ch Dk Dh C old XW XR nw nr lw lr) (co : Co C) (ok : Ok 256 XW nw lw) (hl : lw + 1 ≤ 5864062014805) {g : Nat} {r : Rq} {t0 : Int} {l0 : Bool} (hd : Hd w base g r t0 l0) :
    Calls Try.prog 26 #[.pointer (some ⟨b, 0, none⟩), .pointer (some ⟨g, 0, none⟩)] w fun e w' => e = .returned (.tuple #[]) ∧ (∃ Bw', Tm w' base b wb rb kb hb Bw' Br ck ch Dk Dh C old (XW ++ [(lw + 1, nw + C.timeout, .pointer (some ⟨g, 0, none⟩))]) XR nw nr (lw + 1) lr) ∧ Hd w' base g r (lw + 1) l0 ∧ Kt w w' ∧ Ko base g w w' ∧ Below base w w' := by
  have HT : Hid (Tm w.drew base b wb rb kb hb Bw Br ck ch Dk Dh C old XW XR nw nr lw lr) := h.below ((Below.refl _ w).drew)
  have HDR : Hid (Below w.heap.size w w.drew) := (Below.refl _ w).drew
  have HD : Hid (Hd w.drew base g r t0 l0) := hd.keep (Kx.of HDR.out)
  have q1 : ¬ C.timeout < 1 := by have := co.t0; omega
  have q2 : ¬ 100000 < C.timeout := by have := co.t1; omega
  have HADD : Hid (∀ x, Tm x base b wb rb kb hb Bw Br ck ch Dk Dh C old XW XR nw nr lw lr → Calls Try.prog 37 #[.pointer (some ⟨wb, 0, none⟩), .int .i64 C.timeout, .pointer (some ⟨g, 0, none⟩)] x fun e w' => e = .returned (.tuple #[.int .i64 (lw + 1), .int .i64 0]) ∧ Trn x wb Bw 256 (XW ++ [(lw + 1, nw + C.timeout, .pointer (some ⟨g, 0, none⟩))]) nw (lw + 1) w') := fun x hx => Hh.add_yes x wb Bw 256 XW nw lw C.timeout _ hx.ww ok rfl q1 q2 hl
  obtain ⟨c0, -, c2, -⟩ := h.cells
  obtain ⟨d0, -, d2, -⟩ := HT.out.cells
  have HEND : Hid (∀ x, Trn w.drew wb Bw 256 (XW ++ [(lw + 1, nw + C.timeout, .pointer (some ⟨g, 0, none⟩))]) nw (lw + 1) x → (x.cell? ⟨g, 12, none⟩ = some (.int .i64 t0) ∧ x.frozen? ⟨g, 12, none⟩ = false) ∧ Hid ((∃ Bw', Tm (x.setCell ⟨g, 12, none⟩ (.int .i64 (lw + 1))) base b wb rb kb hb Bw' Br ck ch Dk Dh C old (XW ++ [(lw + 1, nw + C.timeout, .pointer (some ⟨g, 0, none⟩))]) XR nw nr (lw + 1) lr) ∧ Hd (x.setCell ⟨g, 12, none⟩ (.int .i64 (lw + 1))) base g r (lw + 1) l0 ∧ Kt w (x.setCell ⟨g, 12, none⟩ (.int .i64 (lw + 1))) ∧ Ko base g w (x.setCell ⟨g, 12, none⟩ (.int .i64 (lw + 1))) ∧ Below base w (x.setCell ⟨g, 12, none⟩ (.int .i64 (lw + 1))))) := fun x tr => by
    obtain ⟨⟨Bw', h1⟩, h2, h3⟩ := HT.out.wait tr
    have hdx := HD.out.keep h2
    obtain ⟨c, hc⟩ := hd_blk hdx
    obtain ⟨e1, e2, e3, e4⟩ := hd_cells hdx
    refine ⟨⟨e1, e3⟩, ⟨Bw', h1.setH hc _⟩, hd_timer hdx _, Kt.set ((Kt.of HDR.out).trans h2.kt) hc _, ((Ko.of (Kx.of HDR.out)).trans (Ko.of h2)).trans (Ko.set hc _), below_set ?_ hd.1 _⟩
    exact (HDR.out.mono h.base_).trans h3
  clear h hd ok hl co HD
  go_enter Try.func26, Try.ntmps26
  go_wp2_with fail
  go_region_with ((go_at_call 37; refine (HADD.out _ HT.out).mono ?_; rintro e x ⟨rfl, tr⟩; obtain ⟨⟨e1, e2⟩, HE⟩ := HEND.out x tr; clear tr))
  all_goals (go_wp2_with fail)
  all_goals go_end0
  all_goals exact ⟨rfl, HE.out⟩
set_option maxRecDepth 100000 in
set_option maxHeartbeats 1600000 in
theorem remember_any (h : Tm w base b wb rb kb hb Bw Br ck ch Dk Dh C old XW XR nw nr lw lr) (co : Co C) (ok : Ok 256 XR nr lr) (hl : lr + 1 ≤ 5864062014805) {g : Nat} {r : Rq} {t0 : Int} {l0 : Bool} (hd : Hd w base g r t0 l0) :
    Calls Try.prog 32 #[.pointer (some ⟨b, 0, none⟩), .pointer (some ⟨g, 0, none⟩)] w fun e w' => e = .returned (.tuple #[]) ∧ (∃ Br', Tm w' base b wb rb kb hb Bw Br' ck ch Dk Dh C old XW (XR ++ [(lr + 1, nr + C.late, .pointer (some ⟨g, 0, none⟩))]) nw nr lw (lr + 1)) ∧ Hd w' base g r (lr + 1) true ∧ Kt w w' ∧ Ko base g w w' ∧ Below base w w' := by
  obtain ⟨a1, a2, a3, a4⟩ := hd_cells hd
  obtain ⟨y, hy⟩ : ∃ y, w.setCell ⟨g, 13, none⟩ (.bool true) = y := ⟨_, rfl⟩
  have HL : Hid (Hd y base g r t0 true ∧ Kt w y ∧ Ko base g w y ∧ Below base w y ∧ Tm y base b wb rb kb hb Bw Br ck ch Dk Dh C old XW XR nw nr lw lr) := by
    obtain ⟨c, hc⟩ := hd_blk hd
    exact hy ▸ ⟨hd_late hd true, Kt.set (Kt.refl w) hc _, Ko.set hc _, below_set (Below.refl _ _) hd.1 _, h.setH hc _⟩
  have HG : Hid (base ≤ g) := hd.1
  clear h hd
  have h := HL.out.2.2.2.2
  have hd := HL.out.1
  have HT : Hid (Tm y.drew base b wb rb kb hb Bw Br ck ch Dk Dh C old XW XR nw nr lw lr) := h.below ((Below.refl _ y).drew)
  have HDR : Hid (Below y.heap.size y y.drew) := (Below.refl _ y).drew
  have HD : Hid (Hd y.drew base g r t0 true) := hd.keep (Kx.of HDR.out)
  have q1 : ¬ C.late < 1 := by have := co.l0; omega
  have q2 : ¬ 100000 < C.late := by have := co.l1; omega
  have HADD : Hid (∀ x, Tm x base b wb rb kb hb Bw Br ck ch Dk Dh C old XW XR nw nr lw lr → Calls Try.prog 37 #[.pointer (some ⟨rb, 0, none⟩), .int .i64 C.late, .pointer (some ⟨g, 0, none⟩)] x fun e w' => e = .returned (.tuple #[.int .i64 (lr + 1), .int .i64 0]) ∧ Trn x rb Br 256 (XR ++ [(lr + 1, nr + C.late, .pointer (some ⟨g, 0, none⟩))]) nr (lr + 1) w') := fun x hx => Hh.add_yes x rb Br 256 XR nr lr C.late _ hx.wr ok rfl q1 q2 hl
  obtain ⟨-, c0, -, c2, -⟩ := h.cells
  obtain ⟨-, d0, -, d2, -⟩ := HT.out.cells
  have HEND : Hid (∀ x, Trn y.drew rb Br 256 (XR ++ [(lr + 1, nr + C.late, .pointer (some ⟨g, 0, none⟩))]) nr (lr + 1) x → (x.cell? ⟨g, 12, none⟩ = some (.int .i64 t0) ∧ x.frozen? ⟨g, 12, none⟩ = false) ∧ Hid ((∃ Br', Tm (x.setCell ⟨g, 12, none⟩ (.int .i64 (lr + 1))) base b wb rb kb hb Bw Br' ck ch Dk Dh C old XW (XR ++ [(lr + 1, nr + C.late, .pointer (some ⟨g, 0, none⟩))]) nw nr lw (lr + 1)) ∧ Hd (x.setCell ⟨g, 12, none⟩ (.int .i64 (lr + 1))) base g r (lr + 1) true ∧ Kt w (x.setCell ⟨g, 12, none⟩ (.int .i64 (lr + 1))) ∧ Ko base g w (x.setCell ⟨g, 12, none⟩ (.int .i64 (lr + 1))) ∧ Below base w (x.setCell ⟨g, 12, none⟩ (.int .i64 (lr + 1))))) := fun x tr => by
    obtain ⟨⟨Br', h1⟩, h2, h3⟩ := HT.out.rem tr
    have hdx := HD.out.keep h2
    obtain ⟨c, hc⟩ := hd_blk hdx
    obtain ⟨e1, e2, e3, e4⟩ := hd_cells hdx
    refine ⟨⟨e1, e3⟩, ⟨Br', h1.setH hc _⟩, hd_timer hdx _, Kt.set ((HL.out.2.1.trans (Kt.of HDR.out)).trans h2.kt) hc _, (HL.out.2.2.1.trans ((Ko.of (Kx.of HDR.out)).trans (Ko.of h2))).trans (Ko.set hc _), below_set ?_ HG.out _⟩
    exact HL.out.2.2.2.1.trans ((HDR.out.mono h.base_).trans h3)
  clear h hd ok hl co HD
  go_enter Try.func32, Try.ntmps32
  go_wp2_with fail
  try rw [hy]
  go_region_with ((go_at_call 37; refine (HADD.out _ HT.out).mono ?_; rintro e x ⟨rfl, tr⟩; obtain ⟨⟨e1, e2⟩, HE⟩ := HEND.out x tr; clear tr))
  all_goals (go_wp2_with fail)
  all_goals go_end0
  all_goals exact ⟨rfl, HE.out⟩
end
end Go.Proofs.Ytgchdjjafgkcbaa.Pe
