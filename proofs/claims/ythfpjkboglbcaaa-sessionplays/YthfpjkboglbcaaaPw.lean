/- SessionPlays: its walk. -/
import Derived.Test.YthfpjkboglbcaaaLp
import Derived.Test.YthfpjkboglbcaaaQt
import Derived.Test.YthfpjkboglbcaaaSo
namespace Go.Proofs.Ythfpjkboglbcaaa.Pw
set_option linter.unusedVariables false
set_option linter.unusedSimpArgs false
open Go.RowKit Lib0 Kb Sp Py Lp
theorem bnd {x : Int} (h : (Lit.int .i64 x).wf = true) : -9223372036854775808 ≤ x ∧ x ≤ 9223372036854775807 := by
  simp [Lit.wf, IntKind.min, IntKind.max, IntKind.signed, IntKind.bits] at h; omega
theorem infoP : (Try.prog.info? 33).map (fun i => (i.zero, i.size, i.bytes)) = some (some (.agg #[.pointer none, .pointer none]), 2, 16) := by kernel_rfl
/-- the pair that was made first, if it was -/
def EX (o : Option (Nat × Nat × Ss)) (w y : World) (B : List (Nat × Nat)) : Prop := ∀ e, o = some e → Two y e.1 e.2.1 e.2.2 ∧ w.heap.size ≤ e.1 ∧ w.heap.size ≤ e.2.1 ∧ ∀ i (h : i < B.length), e.1 < B[i].1 ∧ e.2.1 < B[i].2
theorem EX.below {o : Option (Nat × Nat × Ss)} {w y x : World} {B : List (Nat × Nat)} (h : EX o w y B) (k : Below y.heap.size y x) : EX o w x B :=
  fun e he => ⟨(h e he).1.below k, (h e he).2⟩
theorem EX.push {o : Option (Nat × Nat × Ss)} {w y y3 : World} {v : Value} {B : List (Nat × Nat)} {n : Nat} {xs : List Value} {ga gb : Nat} (h : EX o w y B) (own : y.ownsRow w.heap.size 33 2 v n xs) (gr : y.grownBy y3 v.ownBlock) (hl : ∀ e, o = some e → e.1 < ga ∧ e.2.1 < gb) : EX o w y3 (B ++ [(ga, gb)]) := by
  intro e he
  obtain ⟨h1, h2, h3, h4⟩ := h e he
  refine ⟨two_grown own gr h1 (r := none), h2, h3, fun i hi => ?_⟩
  by_cases e2 : i = B.length
  · subst e2; simpa using hl e he
  · have hi2 : i < B.length := by simp at hi; omega
    rw [List.getElem_append_left hi2]; exact h4 i hi2
set_option maxHeartbeats 12800000 in
set_option maxRecDepth 100000 in
theorem walk_t (a0 a1 a2 : Int) (v3 : Value) (z3 : List So.Opv) (w : World) (w0 : (Lit.int .i64 a0).wf = true) (w1 : (Lit.int .i64 a1).wf = true) (w2 : (Lit.int .i64 a2).wf = true) (w3 : So.Lies w v3 z3 140737488351232) (k3 : z3.length ≤ 140737488351232) (hS : isS a0 a1 a2 = true) :
    Calls Try.prog 3 #[.int .i64 a0, .int .i64 a1, .int .i64 a2, v3] w fun e w' => e = .returned (.bool true) ∧ Below w.heap.size w w' := by
  have b1 := bnd w1
  have b2 := bnd w2
  have pk1 := fun x => Pick.pick_any a1 30 x b1.1 b1.2 (by decide) (by decide)
  have pk2 := fun x => Pick.pick_any a2 20 x b2.1 b2.2 (by decide) (by decide)
  have l1 := Pick.pick_lo a1 30 (by decide)
  have h1 := Pick.pick_hi a1 30 (by decide)
  have l2 := Pick.pick_lo a2 20 (by decide)
  have h2 := Pick.pick_hi a2 20 (by decide)
  generalize Pick.pickOf a1 30 = n at *
  generalize Pick.pickOf a2 20 = m0 at *
  have hI : ∀ k : Int, 1 ≤ k → k ≤ 2 → isS k n (1 + m0) = true := by intro k k1 k2; simp [isS]; omega
  have HS3 : Hid (So.Lies w v3 z3 140737488351232) := w3
  have hz3 : (z3.length : Int) ≤ 140737488351232 := by omega
  obtain ⟨so, scap, hv3, _⟩ := w3
  subst hv3
  obtain ⟨is, hi, hs0, hs1, hs2⟩ := info_parts infoP
  clear b1 b2 w0 w1 w2
  have HO : Hid (OK (fresh a0 a1 a2)) := ok_fresh hS
  go_enter Try.func3, Try.ntmps3
  go_wp2_with fail
  refine (Sa.new_good hS _).mono ?_
  rintro e y ⟨rfl, My, By⟩
  have HA0 : Hid (Sm 63 y w.heap.size (fresh a0 a1 a2)) := My
  have HB0 : Hid (Below w.heap.size w y) := By
  clear My By
  go_wp2_with fail
  refine (Sd.new_good hS _).mono ?_
  rintro e y' ⟨rfl, My, By⟩
  have HB1 : Hid (Below w.heap.size w y') := Kb.keepB HB0.out By
  have HE0 : Hid (EX (some (w.heap.size, y.heap.size, fresh a0 a1 a2)) w y' []) := by
    rintro e he
    cases he
    exact ⟨⟨HA0.out.below By HA0.out.lt, My, HO.out⟩, Nat.le_refl _, HB0.out.size, fun i hi => absurd hi (Nat.not_lt_zero _)⟩
  clear My By HA0 HO HB0
  have gA : w.heap.size ≤ w.heap.size := Nat.le_refl _
  obtain ⟨A0, hA0⟩ : ∃ A0, w.heap.size = A0 := ⟨_, rfl⟩
  obtain ⟨B0, hB0⟩ : ∃ B0, y.heap.size = B0 := ⟨_, rfl⟩
  rw [hB0] at HE0
  rw [hA0] at HE0
  rw [hA0, hB0]
  obtain ⟨o, ho⟩ : ∃ o, some (A0, B0, fresh a0 a1 a2) = o := ⟨_, rfl⟩
  rw [ho] at HE0
  have HOO : Hid (some (A0, B0, fresh a0 a1 a2) = o) := ho
  clear hA0 hB0 ho gA
  go_wp2_with fail
  go_loopw [13, 14] (fun lv kv wr => ∃ (k : Int) (B : List (Nat × Nat)) (st : Nat → Ss), kv = .int .i64 k ∧ (B.length : Int) + 1 = k ∧ k ≤ 3 ∧ LP w wr lv B st ∧ EX o w wr B) (fun _ kv _ => (4 - intOf kv).toNat)
  case atStart => exact ⟨1, [], fun _ => fresh 1 0 1, rfl, rfl, by omega, LP.empty _ HB1.out, HE0.out⟩
  case round =>
    obtain ⟨k, B, st, rfl, hk, hk3, L0, E0⟩ := hrel
    clear HB1 HE0
    have HL : Hid (LP w wr u13 B st) := L0
    have HE : Hid (EX o w wr B) := E0
    clear L0 E0
    have hBL : Hid ((B.length : Int) + 1 = k) := hk
    have k1 : 1 ≤ k := by omega
    clear hk
    by_cases hk2 : k ≤ 2
    · have NA := Sa.new_good (hI k k1 hk2)
      have NB := Sd.new_good (hI k k1 hk2)
      have HOk : Hid (OK (fresh k n (1 + m0))) := ok_fresh (hI k k1 hk2)
      go_wp2_with fail
      refine (pk1 _).mono ?_
      rintro e x0 ⟨rfl, hx0⟩
      rw [hx0]
      clear hx0 x0
      go_wp2_with fail
      refine (pk2 _).mono ?_
      rintro e x0 ⟨rfl, hx0⟩
      rw [hx0]
      clear hx0 x0
      go_wp2_with fail
      refine (NA _).mono ?_
      rintro e y1 ⟨rfl, My, By⟩
      have HA1 : Hid (Sm 63 y1 wr.heap.size (fresh k n (1 + m0))) := My
      have HL1 : Hid (LP w y1 u13 B st) := HL.out.below By
      have HE1 : Hid (EX o w y1 B) := HE.out.below By
      have hn1 : ∀ i (h : i < B.length), B[i].1 < wr.heap.size ∧ B[i].2 < wr.heap.size := fun i h => ⟨(HL.out.two i h).a.lt, (HL.out.two i h).b.lt⟩
      have he1 : ∀ e, o = some e → e.1 < wr.heap.size ∧ e.2.1 < wr.heap.size := fun e h => ⟨(HE.out e h).1.a.lt, (HE.out e h).1.b.lt⟩
      have gl1 : w.heap.size ≤ wr.heap.size := HL.out.bel.size
      have sz1 : wr.heap.size < y1.heap.size := My.lt
      clear My By HL HE
      go_wp2_with fail
      refine (NB _).mono ?_
      rintro e y2 ⟨rfl, My, By⟩
      have HD : Hid (Two y2 wr.heap.size y1.heap.size (fresh k n (1 + m0))) := ⟨HA1.out.below By HA1.out.lt, My, HOk.out⟩
      have HL2 : Hid (LP w y2 u13 B st) := HL1.out.below By
      have HE2 : Hid (EX o w y2 B) := HE1.out.below By
      obtain ⟨ga, hga⟩ : ∃ ga, wr.heap.size = ga := ⟨_, rfl⟩
      obtain ⟨gb, hgb⟩ : ∃ gb, y1.heap.size = gb := ⟨_, rfl⟩
      rw [hga] at hn1 he1 gl1 sz1
      rw [hgb] at sz1
      rw [hga, hgb] at HD
      rw [hga, hgb]
      have HNN : Hid (∀ i (h : i < B.length), B[i].1 < ga ∧ B[i].2 < ga) := hn1
      have HEE : Hid (∀ e, o = some e → e.1 < ga ∧ e.2.1 < ga) := he1
      have HGG : Hid (w.heap.size ≤ ga ∧ ga < gb) := ⟨gl1, sz1⟩
      clear My By HA1 HL1 HE1 hga hgb hn1 he1 gl1 sz1
      go_wp2_with (at_builtin; refine wpList_append_lies _ rfl _ _ _ rfl w.heap.size 33 is _ 2 16 Try.underlying30 hi hs0 hs1 hs2 rfl (by omega) u13 B.length (zc B) rfl (HL2.out.below (Kb.below_one y2 _)).own ⟨y2.heap.size, 0, none⟩ 1 1 (pv (ga, gb)) rfl rfl (World.news_of_block (heap_alloc_new y2 _)) (by simp [pv, Value.oneCell']) (by omega) (by unfold maxLen; have := hBL.out; omega) (by have := hBL.out; omega) (by have := HL2.out.bel.size; simp; omega) _ rfl ?_; intro g3 cap3 y3 own3 gr3 at3 lt3)
      have HL3 := (HL2.out.below (Kb.below_one y2 (.cells #[.pointer (some ⟨ga, 0, none⟩), .pointer (some ⟨gb, 0, none⟩)] 33))).push (HD.out.below (Kb.below_one y2 _)) HGG.out.1 (by have := HGG.out; omega) (fun i h => by have := HNN.out i h; have := HGG.out; omega) own3 gr3
      have HE3 : EX o w y3 (B ++ [(ga, gb)]) := (HE2.out.below (Kb.below_one y2 _)).push (HL2.out.below (Kb.below_one y2 _)).own gr3 (fun e h => by have := HEE.out e h; have := HGG.out; omega)
      have HL4 : Hid (LP w y3 (.slice (some ⟨g3, 0, none⟩) (B.length + 1) cap3) (B ++ [(ga, gb)]) (fun i => if i = B.length then fresh k n (1 + m0) else st i)) := HL3
      have HE4 : Hid (EX o w y3 (B ++ [(ga, gb)])) := HE3
      clear HL3 HE3 own3 gr3 at3 lt3 HD HL2 HE2 HNN HEE HGG
      go_wp2_with fail
      refine ⟨⟨k + 1, B ++ [(ga, gb)], _, by simp, by have := hBL.out; simp; omega, by omega, HL4.out, HE4.out⟩, ?_⟩
      simp only [intOf]
      omega
    · have hB2 : B.length = 2 := by have := hBL.out; omega
      clear hBL k1
      obtain ⟨D0, e1, e2, e3⟩ := HE.out _ HOO.out.symm
      have HD0 : Hid (Two wr A0 B0 (fresh a0 a1 a2)) := D0
      have HE1 : Hid (w.heap.size ≤ A0 ∧ w.heap.size ≤ B0 ∧ ∀ i (h : i < B.length), A0 < B[i].1 ∧ B0 < B[i].2) := ⟨e1, e2, e3⟩
      clear D0 e1 e2 e3 HE HOO
      have HOW : Hid ((wr.alloc (.cells #[.pointer (some ⟨A0, 0, none⟩), .pointer (some ⟨B0, 0, none⟩)] 33)).ownsRow w.heap.size 33 2 u13 2 (zc B)) := by
        have := (HL.out.below (Kb.below_one wr (.cells #[.pointer (some ⟨A0, 0, none⟩), .pointer (some ⟨B0, 0, none⟩)] 33))).own
        rw [hB2] at this
        exact this
      replace hB2 : Hid (B.length = 2) := hB2
      go_wp2_with (at_builtin; refine wpList_append_lies _ rfl _ _ _ rfl w.heap.size 33 is _ 2 16 Try.underlying30 hi hs0 hs1 hs2 rfl (by omega) u13 2 (zc B) rfl HOW.out ⟨wr.heap.size, 0, none⟩ 1 1 (pv (A0, B0)) rfl rfl (World.news_of_block (heap_alloc_new wr _)) (by simp [pv, Value.oneCell']) (by omega) (by decide) (by decide) (by have := HL.out.bel.size; simp; omega) _ rfl ?_; intro g3 cap3 y3 own3 gr3 at3 lt3)
      have HL3 := (HL.out.below (Kb.below_one wr (.cells #[.pointer (some ⟨A0, 0, none⟩), .pointer (some ⟨B0, 0, none⟩)] 33))).push (g := g3) (cap := cap3) (y3 := y3) (HD0.out.below (Kb.below_one wr _)) HE1.out.1 HE1.out.2.1 (fun i h => by have := HE1.out.2.2 i h; omega) (by rw [hB2.out]; exact own3) gr3
      have hB3 : Hid ((B ++ [(A0, B0)]).length = 3) := by show (B ++ [(A0, B0)]).length = 3; simp [hB2.out]
      rw [show (B.length + 1) = 3 by rw [hB2.out]] at HL3
      have HLf : Hid (LP w y3 (.slice (some ⟨g3, 0, none⟩) 3 cap3) (B ++ [(A0, B0)]) _) := HL3
      generalize B ++ [(A0, B0)] = C at *
      generalize (fun i => if i = B.length then fresh a0 a1 a2 else st i) = sf at *
      have hcap : 3 ≤ cap3 := by
        have hc' := (HLf.out.cells2 (by rw [hB3.out]; decide)).1
        rw [hB3.out] at hc'; exact hc'
      clear HL3 HOW HD0 HE1 HL own3 gr3 at3 lt3 hB2
      have hcI : (3 : Int) ≤ (cap3 : Int) := by omega
      go_wp2_with fail
      go_loopw [21] (fun iv wr => ∃ (i : Nat) (st : Nat → Ss), iv = .int .i64 (i : Int) ∧ i ≤ z3.length ∧ LP w wr (.slice (some ⟨g3, 0, none⟩) 3 cap3) C st) (fun iv _ => z3.length + 1 - (intOf iv).toNat)
      case atStart => exact ⟨0, sf, rfl, Nat.zero_le _, HLf.out⟩
      case round =>
        obtain ⟨i, st', rfl, hi', L0⟩ := hrel
        clear HLf
        have HL : Hid (LP w wr (.slice (some ⟨g3, 0, none⟩) 3 cap3) C st') := L0
        clear L0
        by_cases hc : i < z3.length
        · have q0 : (i : Int) < (z3.length : Int) := by omega
          have q1 : (0 : Int) ≤ (i : Int) := by omega
          obtain ⟨o', cap', ho', hat⟩ := HS3.out
          injection ho' with ho1 _ ho2
          subst ho1 ho2
          obtain ⟨oa, rfl, hat1, hfine⟩ := hat i hc
          have HC : Hid (i < z3.length) := hc
          generalize z3[i] = op at *
          obtain ⟨kd, on, nm, oc, ob⟩ := op
          obtain ⟨f0, f1, f2, f3, f4⟩ := hfine
          dsimp only at f0 f1 f2 f3 f4
          have bn := bnd f1
          have bm := bnd f2
          obtain ⟨t0, t1, t2, t3, t4⟩ := So.at_below hat1 rfl HL.out.bel
          have r1 := t1
          have r2 := t2
          have r3 := t3
          have r4 := t4
          rw [So.add_field _ _ _ (by decide)] at r1 r2 r3 r4
          simp only at t0 t1 t2 t3 t4 r1 r2 r3 r4
          have pk := fun x => Pick.pick_any on 3 x bn.1 bn.2 (by decide) (by decide)
          have lo := Pick.pick_lo on 3 (by decide)
          have hi2 := Pick.pick_hi on 3 (by decide)
          obtain ⟨K, hK⟩ : ∃ K : Nat, (K : Int) = Pick.pickOf on 3 := ⟨(Pick.pickOf on 3).toNat, by omega⟩
          rw [← hK] at pk lo hi2
          have hKC : K < C.length := by rw [hB3.out]; omega
          have D := HL.out.two K hKC
          have hcl := (HL.out.cells2 (by rw [hB3.out]; decide)).2
          obtain ⟨x0, x1⟩ := hcl K hKC
          have PL := fun (x : World) (D : Two x C[K].1 C[K].2 (st' K)) => play_any D kd on nm oc ob bm.1 bm.2 (by omega)
          have HD : Hid (Two wr C[K].1 C[K].2 (st' K)) := D
          have HKC : Hid (K < C.length) := hKC
          have HAB : Hid (∀ (x : World) (S : Ss), Two x C[K].1 C[K].2 S → Fr [C[K].1, C[K].2] wr x → LP w x (.slice (some ⟨g3, 0, none⟩) 3 cap3) C (fun i => if i = K then S else st' i)) := fun x S D f => HL.out.play K hKC D f
          generalize C[K].1 = ga at *
          generalize C[K].2 = gb at *
          clear hat hat1 f0 f1 f2 f3 f4 bn bm hc hi' hK D hcl hKC
          go_wp2_with fail
          refine Qt.region_tail 15 1 (C := fun w' => ∃ n, w' = wr.drewN n) (by kernel_rfl) rfl (by kernel_rfl) (by kernel_rfl) (by kernel_rfl) ⟨1, rfl⟩ ?_
          dsimp only [List.take, List.drop]
          repeat (go_big_quiet_step ((go_at_call 11; exact Calls.quiet_of_same (pk _))))
          refine wpQuiet_nil ?_
          intro y0 hw'
          obtain ⟨nq, hw''⟩ := hw'
          subst hw''
          have HDx : Hid (Two (wr.drewN nq) ga gb (st' K)) := two_drewN HD.out nq
          have HFx : Hid (Fr [ga, gb] wr (wr.drewN nq)) := Sa.fr_drewN (Fr.refl _ _) nq
          go_wp2_with fail
          refine (PL _ HDx.out).mono ?_
          rintro e z ⟨rfl, S', D', F'⟩
          have HL2 : Hid (LP w z (.slice (some ⟨g3, 0, none⟩) 3 cap3) C (fun i => if i = K then S' else st' i)) := HAB.out z S' D' (HFx.out.trans F')
          clear D' F' HDx HFx HD PL HAB HKC x0 x1 t0 t1 t2 t3 t4 r1 r2 r3 r4 pk lo hi2 HL
          generalize (fun i => if i = K then S' else st' i) = st2 at *
          go_wp2_with fail
          go_loopw [23] (fun kv x => ∃ k : Nat, kv = .int .i64 (k : Int) ∧ k ≤ 3 ∧ LP w x (.slice (some ⟨g3, 0, none⟩) 3 cap3) C st2) (fun kv _ => 4 - (intOf kv).toNat)
          case atStart => exact ⟨0, rfl, Nat.zero_le _, HL2.out⟩
          case round =>
            obtain ⟨k', rfl, hk', L0⟩ := hrel
            clear HL2
            have HL3 : Hid (LP w wr (.slice (some ⟨g3, 0, none⟩) 3 cap3) C st2) := L0
            clear L0
            by_cases hc : k' < 3
            · have e0 : (k' : Int) < 3 := by omega
              have e1 : (0 : Int) ≤ (k' : Int) := by omega
              have hkC : k' < C.length := by rw [hB3.out]; omega
              obtain ⟨x0, x1⟩ := (HL3.out.cells2 (by rw [hB3.out]; decide)).2 k' hkC
              have DD := HL3.out.two k' hkC
              generalize C[k'].1 = ga' at *
              generalize C[k'].2 = gb' at *
              generalize st2 k' = Sk at *
              have pa := fun m => Sa.state_any (two_drewN DD m).a
              have pb := fun m => Sd.state_any (two_drewN DD m).b
              have pc := fun m => Sa.ready_any (two_drewN DD m).a
              have pd := fun m => Sd.ready_any (two_drewN DD m).b
              generalize decide (Sk.st = 3 ∨ Sk.st = 4) = rd at *
              generalize Sk.st = sk at *
              have HC' : Hid (k' < 3) := hc
              clear DD hkC hc hk'
              go_wp2_with fail
              go_quiet (first
                | (go_at_call 13; exact Calls.quiet_of_same (pa _))
                | (go_at_call 14; exact Calls.quiet_of_same (pb _))
                | (go_at_call 15; exact Calls.quiet_of_same (pc _))
                | (go_at_call 16; exact Calls.quiet_of_same (pd _)))
              go_wp2_with fail
              refine ⟨⟨k' + 1, by simp, HC'.out, HL3.out.drewN _⟩, ?_⟩
              simp only [intOf]
              have := HC'.out
              omega
            · have e0 : ¬ (k' : Int) < 3 := by omega
              clear hc hk'
              go_wp2_with fail
              refine ⟨⟨i + 1, st2, by simp, HC.out, HL3.out⟩, ?_⟩
              simp only [intOf]
              have := HC.out
              omega
        · have e0 : ¬ (i : Int) < (z3.length : Int) := by omega
          clear hc hi'
          go_wp2_with fail
          go_loopw [24] (fun kv x => ∃ (k : Nat) (st : Nat → Ss), kv = .int .i64 (k : Int) ∧ k ≤ 3 ∧ LP w x (.slice (some ⟨g3, 0, none⟩) 3 cap3) C st) (fun kv _ => 4 - (intOf kv).toNat)
          case atStart => exact ⟨0, st', rfl, Nat.zero_le _, HL.out⟩
          case round =>
            obtain ⟨k', st2, rfl, hk', L0⟩ := hrel
            clear HL
            have HL : Hid (LP w wr (.slice (some ⟨g3, 0, none⟩) 3 cap3) C st2) := L0
            clear L0
            by_cases hc : k' < 3
            · have e1 : (k' : Int) < 3 := by omega
              have e2 : (0 : Int) ≤ (k' : Int) := by omega
              have hkC : Hid (k' < C.length) := by show k' < C.length; rw [hB3.out]; omega
              have HC' : Hid (k' < 3) := hc
              clear hc hk'
              go_wp2_with fail
              go_loopw [25] (fun jv x => ∃ (j : Int) (st : Nat → Ss), jv = .int .i64 j ∧ 0 ≤ j ∧ j ≤ 70 ∧ LP w x (.slice (some ⟨g3, 0, none⟩) 3 cap3) C st) (fun jv _ => (71 - intOf jv).toNat)
              case atStart => exact ⟨0, st2, rfl, by omega, by omega, HL.out⟩
              case round =>
                obtain ⟨j, st3, rfl, j0, j1, L0⟩ := hrel
                clear HL
                have HL : Hid (LP w wr (.slice (some ⟨g3, 0, none⟩) 3 cap3) C st3) := L0
                clear L0
                by_cases hj : j < 70
                · obtain ⟨x0, x1⟩ := (HL.out.cells2 (by rw [hB3.out]; decide)).2 k' hkC.out
                  have DD := HL.out.two k' hkC.out
                  have HAB : Hid (∀ (x : World) (S : Ss), Two x C[k'].1 C[k'].2 S → Fr [C[k'].1, C[k'].2] wr x → LP w x (.slice (some ⟨g3, 0, none⟩) 3 cap3) C (fun i => if i = k' then S else st3 i)) := fun x S D f => HL.out.play k' hkC.out D f
                  obtain ⟨cur, hgc⟩ := HL.out.blk
                  have HGC : Hid (wr.heap[g3]? = some (.cells cur 33 (0, 0))) := hgc
                  have HDD : Hid (Two wr C[k'].1 C[k'].2 (st3 k')) := DD
                  have HX1 : Hid (wr.cell? ⟨g3, k' * 2 + 1, none⟩ = some (.pointer (some ⟨C[k'].2, 0, none⟩))) := x1
                  have HN : Hid (g3 ≠ C[k'].1 ∧ C[k'].2 ≠ C[k'].1) := ⟨sm_ne DD.a (by decide) hgc, DD.ne.symm⟩
                  generalize C[k'].1 = ga at *
                  generalize C[k'].2 = gb at *
                  generalize hSk : st3 k' = Sk at *
                  clear DD hgc x1 hSk
                  go_wp2_with fail
                  refine (Sc.tick_any HDD.out.a HDD.out.ok).mono ?_
                  rintro e y1 ⟨rfl, My, Fy⟩
                  have HA1 : Hid (Sm 63 y1 ga (tick1 Sk)) := My
                  have HB1' : Hid (Sm 65 y1 gb Sk) := HDD.out.b.fr Fy (by simpa using HN.out.2)
                  have HF1 : Hid (Fr [ga, gb] wr y1) := Fy.mono (by simp)
                  have hgk : y1.heap[g3]? = wr.heap[g3]? := Fy.block g3 (Array.getElem?_eq_some_iff.1 HGC.out).1 (by simpa using HN.out.1)
                  obtain ⟨⟨sc, sb, sl⟩, hsy⟩ : ∃ sy, tick2 Sk = sy := ⟨_, rfl⟩
                  have HSY : Hid (sayV (tick2 Sk) = .agg #[.string sc, .string sb, .bool sl]) := by show sayV _ = _; rw [hsy]; rfl
                  have x1 : (y1.alloc (.cells #[.string sc, .string sb, .bool sl] 40)).cell? ⟨g3, k' * 2 + 1, none⟩ = some (.pointer (some ⟨gb, 0, none⟩)) := by
                    rw [World.cell?_of_block (a := ⟨g3, k' * 2 + 1, none⟩) ((Below.heap_alloc _ _ _ (Array.getElem?_eq_some_iff.1 (hgk.trans HGC.out)).1).trans hgk)]
                    exact HX1.out
                  clear My Fy hgk hsy x0
                  rw [HSY.out]
                  go_wp2_with fail
                  obtain ⟨q1, hq1⟩ : ∃ q1, y1.alloc (.cells #[.string sc, .string sb, .bool sl] 40) = q1 := ⟨_, rfl⟩
                  have HA2 : Hid (Sm 63 q1 ga (tick1 Sk)) := hq1 ▸ HA1.out.alloc _
                  have HB2' : Hid (Sm 65 q1 gb Sk) := hq1 ▸ HB1'.out.alloc _
                  have HF2 : Hid (Fr [ga, gb] wr q1) := hq1 ▸ HF1.out.alloc _
                  have hX : q1.heap[y1.heap.size]? = some (.cells #[.string sc, .string sb, .bool sl] 40) := hq1 ▸ Kb.h1_0 y1 _
                  have gX : y1.heap.size ≠ gb := by have := HB1'.out.lt; omega
                  obtain ⟨X, eX⟩ : ∃ X, y1.heap.size = X := ⟨_, rfl⟩
                  rw [eX] at hX gX
                  rw [hq1, eX]
                  clear hq1 eX HA1 HB1' HF1 x1
                  refine (Sd.tick_any HB2'.out HDD.out.ok).mono ?_
                  rintro e y2 ⟨rfl, My, Fy⟩
                  have HT : Hid (Two y2 ga gb (tick1 Sk)) := ⟨HA2.out.fr Fy (by simpa using HN.out.2.symm), My, ok_tick HDD.out.ok⟩
                  have HF3 : Hid (Fr [ga, gb] wr y2) := HF2.out.trans (Fy.mono (by simp))
                  have hX2 : (y2.alloc (.cells #[.string sc, .string sb, .bool sl] 42)).heap[X]? = some (.cells #[.string sc, .string sb, .bool sl] 40) := keep_al (keep_blk hX Fy (by simpa using gX))
                  obtain ⟨z0, z1, z2, _⟩ := Sc.cells3 hX2
                  clear My Fy hX hX2 HA2 HB2' HF2
                  rw [HSY.out]
                  go_wp2_with fail
                  refine (same_any sc sb sl _).mono ?_
                  rintro e z ⟨rfl, Bz⟩
                  have HLz : Hid (LP w z (.slice (some ⟨g3, 0, none⟩) 3 cap3) C (fun i => if i = k' then tick1 Sk else st3 i)) := by
                    refine (HAB.out (y2.alloc (.cells #[.string sc, .string sb, .bool sl] 42)) _ ?_ ?_).below Bz
                    · exact HT.out.below (Kb.below_one y2 _)
                    · exact HF3.out.alloc _
                  clear Bz HT HF3 HAB HGC HDD HX1 HN HSY z0 z1 z2 HL
                  go_wp2_with fail
                  refine ⟨⟨j + 1, _, by simp, by omega, by omega, HLz.out⟩, ?_⟩
                  simp only [intOf]
                  omega
                · go_wp2_with fail
                  refine ⟨⟨k' + 1, st3, by simp, HC'.out, HL.out⟩, ?_⟩
                  simp only [intOf]
                  have := HC'.out
                  omega
            · have e1 : ¬ (k' : Int) < 3 := by omega
              clear hc hk'
              go_wp2_with fail
              go_ret
              exact ⟨rfl, HL.out.bel⟩
set_option maxHeartbeats 12800000 in
set_option maxRecDepth 100000 in
theorem walk_f (a0 a1 a2 : Int) (v3 : Value) (z3 : List So.Opv) (w : World) (w0 : (Lit.int .i64 a0).wf = true) (w1 : (Lit.int .i64 a1).wf = true) (w2 : (Lit.int .i64 a2).wf = true) (w3 : So.Lies w v3 z3 140737488351232) (k3 : z3.length ≤ 140737488351232) (hS : isS a0 a1 a2 = false) :
    Calls Try.prog 3 #[.int .i64 a0, .int .i64 a1, .int .i64 a2, v3] w fun e w' => e = .returned (.bool true) ∧ Below w.heap.size w w' := by
  have b1 := bnd w1
  have b2 := bnd w2
  have pk1 := fun x => Pick.pick_any a1 30 x b1.1 b1.2 (by decide) (by decide)
  have pk2 := fun x => Pick.pick_any a2 20 x b2.1 b2.2 (by decide) (by decide)
  have l1 := Pick.pick_lo a1 30 (by decide)
  have h1 := Pick.pick_hi a1 30 (by decide)
  have l2 := Pick.pick_lo a2 20 (by decide)
  have h2 := Pick.pick_hi a2 20 (by decide)
  generalize Pick.pickOf a1 30 = n at *
  generalize Pick.pickOf a2 20 = m0 at *
  have hI : ∀ k : Int, 1 ≤ k → k ≤ 2 → isS k n (1 + m0) = true := by intro k k1 k2; simp [isS]; omega
  have HS3 : Hid (So.Lies w v3 z3 140737488351232) := w3
  have hz3 : (z3.length : Int) ≤ 140737488351232 := by omega
  obtain ⟨so, scap, hv3, _⟩ := w3
  subst hv3
  obtain ⟨is, hi, hs0, hs1, hs2⟩ := info_parts infoP
  clear b1 b2 w0 w1 w2
  go_enter Try.func3, Try.ntmps3
  go_wp2_with fail
  refine (Sa.new_bad hS _).mono ?_
  rintro e y ⟨rfl, hy⟩
  rw [hy]
  clear hy y
  go_wp2_with fail
  refine (Sd.new_bad hS _).mono ?_
  rintro e y' ⟨rfl, hy⟩
  rw [hy]
  clear hy y'
  have HB1 : Hid (Below w.heap.size w w) := Below.refl _ _
  have HE0 : Hid (EX none w w []) := by rintro e he; cases he
  obtain ⟨o, ho⟩ : ∃ o : Option (Nat × Nat × Ss), none = o := ⟨_, rfl⟩
  rw [ho] at HE0
  have HOO : Hid ((none : Option (Nat × Nat × Ss)) = o) := ho
  clear ho
  go_wp2_with fail
  go_loopw [13, 14] (fun lv kv wr => ∃ (k : Int) (B : List (Nat × Nat)) (st : Nat → Ss), kv = .int .i64 k ∧ (B.length : Int) + 1 = k ∧ k ≤ 3 ∧ LP w wr lv B st ∧ EX o w wr B) (fun _ kv _ => (4 - intOf kv).toNat)
  case atStart => exact ⟨1, [], fun _ => fresh 1 0 1, rfl, rfl, by omega, LP.empty _ HB1.out, HE0.out⟩
  case round =>
    obtain ⟨k, B, st, rfl, hk, hk3, L0, E0⟩ := hrel
    clear HB1 HE0
    have HL : Hid (LP w wr u13 B st) := L0
    have HE : Hid (EX o w wr B) := E0
    clear L0 E0
    have hBL : Hid ((B.length : Int) + 1 = k) := hk
    have k1 : 1 ≤ k := by omega
    clear hk
    by_cases hk2 : k ≤ 2
    · have NA := Sa.new_good (hI k k1 hk2)
      have NB := Sd.new_good (hI k k1 hk2)
      have HOk : Hid (OK (fresh k n (1 + m0))) := ok_fresh (hI k k1 hk2)
      go_wp2_with fail
      refine (pk1 _).mono ?_
      rintro e x0 ⟨rfl, hx0⟩
      rw [hx0]
      clear hx0 x0
      go_wp2_with fail
      refine (pk2 _).mono ?_
      rintro e x0 ⟨rfl, hx0⟩
      rw [hx0]
      clear hx0 x0
      go_wp2_with fail
      refine (NA _).mono ?_
      rintro e y1 ⟨rfl, My, By⟩
      have HA1 : Hid (Sm 63 y1 wr.heap.size (fresh k n (1 + m0))) := My
      have HL1 : Hid (LP w y1 u13 B st) := HL.out.below By
      have HE1 : Hid (EX o w y1 B) := HE.out.below By
      have hn1 : ∀ i (h : i < B.length), B[i].1 < wr.heap.size ∧ B[i].2 < wr.heap.size := fun i h => ⟨(HL.out.two i h).a.lt, (HL.out.two i h).b.lt⟩
      have he1 : ∀ e, o = some e → e.1 < wr.heap.size ∧ e.2.1 < wr.heap.size := fun e h => ⟨(HE.out e h).1.a.lt, (HE.out e h).1.b.lt⟩
      have gl1 : w.heap.size ≤ wr.heap.size := HL.out.bel.size
      have sz1 : wr.heap.size < y1.heap.size := My.lt
      clear My By HL HE
      go_wp2_with fail
      refine (NB _).mono ?_
      rintro e y2 ⟨rfl, My, By⟩
      have HD : Hid (Two y2 wr.heap.size y1.heap.size (fresh k n (1 + m0))) := ⟨HA1.out.below By HA1.out.lt, My, HOk.out⟩
      have HL2 : Hid (LP w y2 u13 B st) := HL1.out.below By
      have HE2 : Hid (EX o w y2 B) := HE1.out.below By
      obtain ⟨ga, hga⟩ : ∃ ga, wr.heap.size = ga := ⟨_, rfl⟩
      obtain ⟨gb, hgb⟩ : ∃ gb, y1.heap.size = gb := ⟨_, rfl⟩
      rw [hga] at hn1 he1 gl1 sz1
      rw [hgb] at sz1
      rw [hga, hgb] at HD
      rw [hga, hgb]
      have HNN : Hid (∀ i (h : i < B.length), B[i].1 < ga ∧ B[i].2 < ga) := hn1
      have HEE : Hid (∀ e, o = some e → e.1 < ga ∧ e.2.1 < ga) := he1
      have HGG : Hid (w.heap.size ≤ ga ∧ ga < gb) := ⟨gl1, sz1⟩
      clear My By HA1 HL1 HE1 hga hgb hn1 he1 gl1 sz1
      go_wp2_with (at_builtin; refine wpList_append_lies _ rfl _ _ _ rfl w.heap.size 33 is _ 2 16 Try.underlying30 hi hs0 hs1 hs2 rfl (by omega) u13 B.length (zc B) rfl (HL2.out.below (Kb.below_one y2 _)).own ⟨y2.heap.size, 0, none⟩ 1 1 (pv (ga, gb)) rfl rfl (World.news_of_block (heap_alloc_new y2 _)) (by simp [pv, Value.oneCell']) (by omega) (by unfold maxLen; have := hBL.out; omega) (by have := hBL.out; omega) (by have := HL2.out.bel.size; simp; omega) _ rfl ?_; intro g3 cap3 y3 own3 gr3 at3 lt3)
      have HL3 := (HL2.out.below (Kb.below_one y2 (.cells #[.pointer (some ⟨ga, 0, none⟩), .pointer (some ⟨gb, 0, none⟩)] 33))).push (HD.out.below (Kb.below_one y2 _)) HGG.out.1 (by have := HGG.out; omega) (fun i h => by have := HNN.out i h; have := HGG.out; omega) own3 gr3
      have HE3 : EX o w y3 (B ++ [(ga, gb)]) := (HE2.out.below (Kb.below_one y2 _)).push (HL2.out.below (Kb.below_one y2 _)).own gr3 (fun e h => by have := HEE.out e h; have := HGG.out; omega)
      have HL4 : Hid (LP w y3 (.slice (some ⟨g3, 0, none⟩) (B.length + 1) cap3) (B ++ [(ga, gb)]) (fun i => if i = B.length then fresh k n (1 + m0) else st i)) := HL3
      have HE4 : Hid (EX o w y3 (B ++ [(ga, gb)])) := HE3
      clear HL3 HE3 own3 gr3 at3 lt3 HD HL2 HE2 HNN HEE HGG
      go_wp2_with fail
      refine ⟨⟨k + 1, B ++ [(ga, gb)], _, by simp, by have := hBL.out; simp; omega, by omega, HL4.out, HE4.out⟩, ?_⟩
      simp only [intOf]
      omega
    · have hB2 : B.length = 2 := by have := hBL.out; omega
      clear hBL k1
      obtain ⟨g3, cap3, rfl, hcap, _⟩ := HL.out.cells (by omega)
      rw [hB2] at HL hcap
      rw [hB2]
      have hB3 : Hid (B.length = 2) := hB2
      have HLf : Hid (LP w wr (.slice (some ⟨g3, 0, none⟩) 2 cap3) B st) := HL.out
      obtain ⟨C, hC⟩ : ∃ C, B = C := ⟨_, rfl⟩
      rw [hC] at hB3 HLf
      obtain ⟨sf, hsf⟩ : ∃ sf, st = sf := ⟨_, rfl⟩
      rw [hsf] at HLf
      obtain ⟨y3, hy3⟩ : ∃ y3, wr = y3 := ⟨_, rfl⟩
      rw [hy3] at HLf
      rw [hy3]
      clear HL hB2 hC hsf hy3 HE HOO
      go_wp2_with fail
      have hcI : (2 : Int) ≤ (cap3 : Int) := by omega
      go_wp2_with fail
      go_loopw [21] (fun iv wr => ∃ (i : Nat) (st : Nat → Ss), iv = .int .i64 (i : Int) ∧ i ≤ z3.length ∧ LP w wr (.slice (some ⟨g3, 0, none⟩) 2 cap3) C st) (fun iv _ => z3.length + 1 - (intOf iv).toNat)
      case atStart => exact ⟨0, sf, rfl, Nat.zero_le _, HLf.out⟩
      case round =>
        obtain ⟨i, st', rfl, hi', L0⟩ := hrel
        clear HLf
        have HL : Hid (LP w wr (.slice (some ⟨g3, 0, none⟩) 2 cap3) C st') := L0
        clear L0
        by_cases hc : i < z3.length
        · have q0 : (i : Int) < (z3.length : Int) := by omega
          have q1 : (0 : Int) ≤ (i : Int) := by omega
          obtain ⟨o', cap', ho', hat⟩ := HS3.out
          injection ho' with ho1 _ ho2
          subst ho1 ho2
          obtain ⟨oa, rfl, hat1, hfine⟩ := hat i hc
          have HC : Hid (i < z3.length) := hc
          generalize z3[i] = op at *
          obtain ⟨kd, on, nm, oc, ob⟩ := op
          obtain ⟨f0, f1, f2, f3, f4⟩ := hfine
          dsimp only at f0 f1 f2 f3 f4
          have bn := bnd f1
          have bm := bnd f2
          obtain ⟨t0, t1, t2, t3, t4⟩ := So.at_below hat1 rfl HL.out.bel
          have r1 := t1
          have r2 := t2
          have r3 := t3
          have r4 := t4
          rw [So.add_field _ _ _ (by decide)] at r1 r2 r3 r4
          simp only at t0 t1 t2 t3 t4 r1 r2 r3 r4
          have pk := fun x => Pick.pick_any on 2 x bn.1 bn.2 (by decide) (by decide)
          have lo := Pick.pick_lo on 2 (by decide)
          have hi2 := Pick.pick_hi on 2 (by decide)
          obtain ⟨K, hK⟩ : ∃ K : Nat, (K : Int) = Pick.pickOf on 2 := ⟨(Pick.pickOf on 2).toNat, by omega⟩
          rw [← hK] at pk lo hi2
          have hKC : K < C.length := by rw [hB3.out]; omega
          have D := HL.out.two K hKC
          have hcl := (HL.out.cells2 (by rw [hB3.out]; decide)).2
          obtain ⟨x0, x1⟩ := hcl K hKC
          have PL := fun (x : World) (D : Two x C[K].1 C[K].2 (st' K)) => play_any D kd on nm oc ob bm.1 bm.2 (by omega)
          have HD : Hid (Two wr C[K].1 C[K].2 (st' K)) := D
          have HKC : Hid (K < C.length) := hKC
          have HAB : Hid (∀ (x : World) (S : Ss), Two x C[K].1 C[K].2 S → Fr [C[K].1, C[K].2] wr x → LP w x (.slice (some ⟨g3, 0, none⟩) 2 cap3) C (fun i => if i = K then S else st' i)) := fun x S D f => HL.out.play K hKC D f
          generalize C[K].1 = ga at *
          generalize C[K].2 = gb at *
          clear hat hat1 f0 f1 f2 f3 f4 bn bm hc hi' hK D hcl hKC
          go_wp2_with fail
          refine Qt.region_tail 15 1 (C := fun w' => ∃ n, w' = wr.drewN n) (by kernel_rfl) rfl (by kernel_rfl) (by kernel_rfl) (by kernel_rfl) ⟨1, rfl⟩ ?_
          dsimp only [List.take, List.drop]
          repeat (go_big_quiet_step ((go_at_call 11; exact Calls.quiet_of_same (pk _))))
          refine wpQuiet_nil ?_
          intro y0 hw'
          obtain ⟨nq, hw''⟩ := hw'
          subst hw''
          have HDx : Hid (Two (wr.drewN nq) ga gb (st' K)) := two_drewN HD.out nq
          have HFx : Hid (Fr [ga, gb] wr (wr.drewN nq)) := Sa.fr_drewN (Fr.refl _ _) nq
          go_wp2_with fail
          refine (PL _ HDx.out).mono ?_
          rintro e z ⟨rfl, S', D', F'⟩
          have HL2 : Hid (LP w z (.slice (some ⟨g3, 0, none⟩) 2 cap3) C (fun i => if i = K then S' else st' i)) := HAB.out z S' D' (HFx.out.trans F')
          clear D' F' HDx HFx HD PL HAB HKC x0 x1 t0 t1 t2 t3 t4 r1 r2 r3 r4 pk lo hi2 HL
          generalize (fun i => if i = K then S' else st' i) = st2 at *
          go_wp2_with fail
          go_loopw [23] (fun kv x => ∃ k : Nat, kv = .int .i64 (k : Int) ∧ k ≤ 2 ∧ LP w x (.slice (some ⟨g3, 0, none⟩) 2 cap3) C st2) (fun kv _ => 3 - (intOf kv).toNat)
          case atStart => exact ⟨0, rfl, Nat.zero_le _, HL2.out⟩
          case round =>
            obtain ⟨k', rfl, hk', L0⟩ := hrel
            clear HL2
            have HL3 : Hid (LP w wr (.slice (some ⟨g3, 0, none⟩) 2 cap3) C st2) := L0
            clear L0
            by_cases hc : k' < 2
            · have e0 : (k' : Int) < 2 := by omega
              have e1 : (0 : Int) ≤ (k' : Int) := by omega
              have hkC : k' < C.length := by rw [hB3.out]; omega
              obtain ⟨x0, x1⟩ := (HL3.out.cells2 (by rw [hB3.out]; decide)).2 k' hkC
              have DD := HL3.out.two k' hkC
              generalize C[k'].1 = ga' at *
              generalize C[k'].2 = gb' at *
              generalize st2 k' = Sk at *
              have pa := fun m => Sa.state_any (two_drewN DD m).a
              have pb := fun m => Sd.state_any (two_drewN DD m).b
              have pc := fun m => Sa.ready_any (two_drewN DD m).a
              have pd := fun m => Sd.ready_any (two_drewN DD m).b
              generalize decide (Sk.st = 3 ∨ Sk.st = 4) = rd at *
              generalize Sk.st = sk at *
              have HC' : Hid (k' < 2) := hc
              clear DD hkC hc hk'
              go_wp2_with fail
              go_quiet (first
                | (go_at_call 13; exact Calls.quiet_of_same (pa _))
                | (go_at_call 14; exact Calls.quiet_of_same (pb _))
                | (go_at_call 15; exact Calls.quiet_of_same (pc _))
                | (go_at_call 16; exact Calls.quiet_of_same (pd _)))
              go_wp2_with fail
              refine ⟨⟨k' + 1, by simp, HC'.out, HL3.out.drewN _⟩, ?_⟩
              simp only [intOf]
              have := HC'.out
              omega
            · have e0 : ¬ (k' : Int) < 2 := by omega
              clear hc hk'
              go_wp2_with fail
              refine ⟨⟨i + 1, st2, by simp, HC.out, HL3.out⟩, ?_⟩
              simp only [intOf]
              have := HC.out
              omega
        · have e0 : ¬ (i : Int) < (z3.length : Int) := by omega
          clear hc hi'
          go_wp2_with fail
          go_loopw [24] (fun kv x => ∃ (k : Nat) (st : Nat → Ss), kv = .int .i64 (k : Int) ∧ k ≤ 2 ∧ LP w x (.slice (some ⟨g3, 0, none⟩) 2 cap3) C st) (fun kv _ => 3 - (intOf kv).toNat)
          case atStart => exact ⟨0, st', rfl, Nat.zero_le _, HL.out⟩
          case round =>
            obtain ⟨k', st2, rfl, hk', L0⟩ := hrel
            clear HL
            have HL : Hid (LP w wr (.slice (some ⟨g3, 0, none⟩) 2 cap3) C st2) := L0
            clear L0
            by_cases hc : k' < 2
            · have e1 : (k' : Int) < 2 := by omega
              have e2 : (0 : Int) ≤ (k' : Int) := by omega
              have hkC : Hid (k' < C.length) := by show k' < C.length; rw [hB3.out]; omega
              have HC' : Hid (k' < 2) := hc
              clear hc hk'
              go_wp2_with fail
              go_loopw [25] (fun jv x => ∃ (j : Int) (st : Nat → Ss), jv = .int .i64 j ∧ 0 ≤ j ∧ j ≤ 70 ∧ LP w x (.slice (some ⟨g3, 0, none⟩) 2 cap3) C st) (fun jv _ => (71 - intOf jv).toNat)
              case atStart => exact ⟨0, st2, rfl, by omega, by omega, HL.out⟩
              case round =>
                obtain ⟨j, st3, rfl, j0, j1, L0⟩ := hrel
                clear HL
                have HL : Hid (LP w wr (.slice (some ⟨g3, 0, none⟩) 2 cap3) C st3) := L0
                clear L0
                by_cases hj : j < 70
                · obtain ⟨x0, x1⟩ := (HL.out.cells2 (by rw [hB3.out]; decide)).2 k' hkC.out
                  have DD := HL.out.two k' hkC.out
                  have HAB : Hid (∀ (x : World) (S : Ss), Two x C[k'].1 C[k'].2 S → Fr [C[k'].1, C[k'].2] wr x → LP w x (.slice (some ⟨g3, 0, none⟩) 2 cap3) C (fun i => if i = k' then S else st3 i)) := fun x S D f => HL.out.play k' hkC.out D f
                  obtain ⟨cur, hgc⟩ := HL.out.blk
                  have HGC : Hid (wr.heap[g3]? = some (.cells cur 33 (0, 0))) := hgc
                  have HDD : Hid (Two wr C[k'].1 C[k'].2 (st3 k')) := DD
                  have HX1 : Hid (wr.cell? ⟨g3, k' * 2 + 1, none⟩ = some (.pointer (some ⟨C[k'].2, 0, none⟩))) := x1
                  have HN : Hid (g3 ≠ C[k'].1 ∧ C[k'].2 ≠ C[k'].1) := ⟨sm_ne DD.a (by decide) hgc, DD.ne.symm⟩
                  generalize C[k'].1 = ga at *
                  generalize C[k'].2 = gb at *
                  generalize hSk : st3 k' = Sk at *
                  clear DD hgc x1 hSk
                  go_wp2_with fail
                  refine (Sc.tick_any HDD.out.a HDD.out.ok).mono ?_
                  rintro e y1 ⟨rfl, My, Fy⟩
                  have HA1 : Hid (Sm 63 y1 ga (tick1 Sk)) := My
                  have HB1' : Hid (Sm 65 y1 gb Sk) := HDD.out.b.fr Fy (by simpa using HN.out.2)
                  have HF1 : Hid (Fr [ga, gb] wr y1) := Fy.mono (by simp)
                  have hgk : y1.heap[g3]? = wr.heap[g3]? := Fy.block g3 (Array.getElem?_eq_some_iff.1 HGC.out).1 (by simpa using HN.out.1)
                  obtain ⟨⟨sc, sb, sl⟩, hsy⟩ : ∃ sy, tick2 Sk = sy := ⟨_, rfl⟩
                  have HSY : Hid (sayV (tick2 Sk) = .agg #[.string sc, .string sb, .bool sl]) := by show sayV _ = _; rw [hsy]; rfl
                  have x1 : (y1.alloc (.cells #[.string sc, .string sb, .bool sl] 40)).cell? ⟨g3, k' * 2 + 1, none⟩ = some (.pointer (some ⟨gb, 0, none⟩)) := by
                    rw [World.cell?_of_block (a := ⟨g3, k' * 2 + 1, none⟩) ((Below.heap_alloc _ _ _ (Array.getElem?_eq_some_iff.1 (hgk.trans HGC.out)).1).trans hgk)]
                    exact HX1.out
                  clear My Fy hgk hsy x0
                  rw [HSY.out]
                  go_wp2_with fail
                  obtain ⟨q1, hq1⟩ : ∃ q1, y1.alloc (.cells #[.string sc, .string sb, .bool sl] 40) = q1 := ⟨_, rfl⟩
                  have HA2 : Hid (Sm 63 q1 ga (tick1 Sk)) := hq1 ▸ HA1.out.alloc _
                  have HB2' : Hid (Sm 65 q1 gb Sk) := hq1 ▸ HB1'.out.alloc _
                  have HF2 : Hid (Fr [ga, gb] wr q1) := hq1 ▸ HF1.out.alloc _
                  have hX : q1.heap[y1.heap.size]? = some (.cells #[.string sc, .string sb, .bool sl] 40) := hq1 ▸ Kb.h1_0 y1 _
                  have gX : y1.heap.size ≠ gb := by have := HB1'.out.lt; omega
                  obtain ⟨X, eX⟩ : ∃ X, y1.heap.size = X := ⟨_, rfl⟩
                  rw [eX] at hX gX
                  rw [hq1, eX]
                  clear hq1 eX HA1 HB1' HF1 x1
                  refine (Sd.tick_any HB2'.out HDD.out.ok).mono ?_
                  rintro e y2 ⟨rfl, My, Fy⟩
                  have HT : Hid (Two y2 ga gb (tick1 Sk)) := ⟨HA2.out.fr Fy (by simpa using HN.out.2.symm), My, ok_tick HDD.out.ok⟩
                  have HF3 : Hid (Fr [ga, gb] wr y2) := HF2.out.trans (Fy.mono (by simp))
                  have hX2 : (y2.alloc (.cells #[.string sc, .string sb, .bool sl] 42)).heap[X]? = some (.cells #[.string sc, .string sb, .bool sl] 40) := keep_al (keep_blk hX Fy (by simpa using gX))
                  obtain ⟨z0, z1, z2, _⟩ := Sc.cells3 hX2
                  clear My Fy hX hX2 HA2 HB2' HF2
                  rw [HSY.out]
                  go_wp2_with fail
                  refine (same_any sc sb sl _).mono ?_
                  rintro e z ⟨rfl, Bz⟩
                  have HLz : Hid (LP w z (.slice (some ⟨g3, 0, none⟩) 2 cap3) C (fun i => if i = k' then tick1 Sk else st3 i)) := by
                    refine (HAB.out (y2.alloc (.cells #[.string sc, .string sb, .bool sl] 42)) _ ?_ ?_).below Bz
                    · exact HT.out.below (Kb.below_one y2 _)
                    · exact HF3.out.alloc _
                  clear Bz HT HF3 HAB HGC HDD HX1 HN HSY z0 z1 z2 HL
                  go_wp2_with fail
                  refine ⟨⟨j + 1, _, by simp, by omega, by omega, HLz.out⟩, ?_⟩
                  simp only [intOf]
                  omega
                · go_wp2_with fail
                  refine ⟨⟨k' + 1, st3, by simp, HC'.out, HL.out⟩, ?_⟩
                  simp only [intOf]
                  have := HC'.out
                  omega
            · have e1 : ¬ (k' : Int) < 2 := by omega
              clear hc hk'
              go_wp2_with fail
              go_ret
              exact ⟨rfl, HL.out.bel⟩
end Go.Proofs.Ythfpjkboglbcaaa.Pw
