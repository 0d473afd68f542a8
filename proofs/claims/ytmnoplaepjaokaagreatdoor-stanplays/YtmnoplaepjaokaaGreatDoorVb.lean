/- StanPlays: one call by both. -/
import Derived.Test.YtmnoplaepjaokaaGreatDoorVa
import Derived.Test.YtmnoplaepjaokaaGreatDoorSo
import Derived.Deep.RegionWith
import Derived.Deep.RegionHeld3
namespace Go.Proofs.YtmnoplaepjaokaaGreatDoor.Vb
set_option linter.unusedVariables false
set_option linter.unusedSimpArgs false
open Go.RowKit Lib0 Kb Xp Ya Yb Yc Yd Yf Yg Zk Va
abbrev tSt : TypeId := 39
theorem bnd {x : Int} (h : (Lit.int .i64 x).wf = true) : -9223372036854775808 ≤ x ∧ x ≤ 9223372036854775807 := by
  simp [Lit.wf, IntKind.min, IntKind.max, IntKind.signed, IntKind.bits] at h; omega
theorem int_of (n : Int) : intOf (.int .i64 n) = n := rfl
def oV (o : So.Opv) : Value := .agg #[.int .i64 o.kind, .int .i64 o.on, .int .i64 o.num, .string o.mt, .slice o.fo o.fl o.fk]
def oB (o : So.Opv) : Obj := .cells #[.int .i64 o.kind, .int .i64 o.on, .int .i64 o.num, .string o.mt, .slice o.fo o.fl o.fk] tSt
/-- what one call leaves -/
def PN (w y : World) (b d rb rd : Nat) (S : St) (e : Ending) (w' : World) : Prop := e = .returned (.bool true) ∧ (∃ S', S'.mo = S.mo ∧ Tw w w' b d rb rd S') ∧ FrP (F4 b d rb rd) y w'
theorem tk_mo (S : St) : (tk S).mo = S.mo := by unfold tk; split <;> rfl
theorem fr_mo (S : St) (k : Int) : (fr S k).mo = S.mo := by unfold fr; split <;> rfl
/-- the box stays -/
theorem box_fr {y x : World} {b d rb rd : Nat} {o : So.Opv} (hl : ∀ g, F4 b d rb rd g → g < y.heap.size) {x0 : World} (h0 : x0.heap[y.heap.size]? = some (oB o)) (hf : FrP (F4 b d rb rd) x0 x) : x.heap[y.heap.size]? = some (oB o) :=
  (hf.block _ (Array.getElem?_eq_some_iff.1 h0).1 (fun e => by have := hl _ e; omega)).trans h0
theorem box_num {x : World} {g : Nat} {o : So.Opv} (h : x.heap[g]? = some (oB o)) : x.cell? ⟨g, 0, none⟩ = some (.int .i64 o.kind) ∧ x.cell? ⟨g, 2, none⟩ = some (.int .i64 o.num) := by
  unfold oB at h
  exact ⟨by simp [World.cell?, h], by simp [World.cell?, h]⟩
section
variable {w y x : World} {b d rb rd : Nat} {S : St}
theorem free1 (h : Tw w y b d rb rd S) (k : Int) : Calls Tryz.prog 25 #[.pointer (some ⟨b, 0, none⟩), .int .i64 k] y fun e w' => e = .returned (.int .i64 (frE S k)) ∧ Kn w w' b d (fr S k) ∧ Rm w' rb rd S ∧ FrP (F4 b d rb rd) y w' := by
  obtain ⟨W, hn⟩ := h.kn.nm
  refine (Yd.free_any hn h.ok k).mono ?_
  rintro e w' ⟨he, hn', hf⟩
  exact ⟨he, h.one hn' hf⟩
theorem free2 (ok : OK S) (r0 : w.heap.size ≤ rb) (r1 : w.heap.size ≤ rd) (k : Int) (hk : Kn w x b d (fr S k)) (hr : Rm x rb rd S) : Calls Tryz.prog 41 #[.pointer (some ⟨rb, 0, none⟩), .int .i64 k] x fun e w' => e = .returned (.int .i64 (frE S k)) ∧ Tw w w' b d rb rd (fr S k) ∧ FrP (F4 b d rb rd) x w' := by
  refine (freer_any hr ok k).mono ?_
  rintro e w' ⟨he, hr', hf⟩
  exact ⟨he, two (ok.fr k) hk r0 r1 hr hr' hf⟩
theorem taken1 (h : Tw w y b d rb rd S) (k : Int) : Calls Tryz.prog 24 #[.pointer (some ⟨b, 0, none⟩), .int .i64 k] y fun e w' => e = .returned (.bool (isOut S k)) ∧ ∃ m, w' = y.drewN m := by
  obtain ⟨W, hn⟩ := h.kn.nm
  exact Yd.taken_any hn h.ok k
end
set_option maxRecDepth 100000 in
set_option maxHeartbeats 3200000 in
theorem numbered_any {w y : World} {b d rb rd : Nat} {S : St} (h : Tw w y b d rb rd S) (o : So.Opv) (hn : (Lit.int .i64 o.num).wf = true) : Calls Tryz.prog 13 #[.pointer (some ⟨b, 0, none⟩), .pointer (some ⟨rb, 0, none⟩), oV o] y (PN w y b d rb rd S) := by
  have nb := bnd hn
  have HL : Hid (∀ g, F4 b d rb rd g → g < y.heap.size) := h.lt
  have HT : Hid (Tw w (y.alloc (oB o)) b d rb rd S) := h.below (below_one _ _)
  have HX : Hid ((y.alloc (oB o)).heap[y.heap.size]? = some (oB o)) := h1_0 _ _
  have HFR : Hid (∀ x, FrP (F4 b d rb rd) (y.alloc (oB o)) x → FrP (F4 b d rb rd) y x) := fun x hx => (FrP.of (below_one y _)).trans hx (fun g hg => .inl hg)
  obtain ⟨c0, c2⟩ := box_num HX.out
  have HO : Hid (y.alloc (oB o) = y.alloc (.cells #[.int .i64 o.kind, .int .i64 o.on, .int .i64 o.num, .string o.mt, .slice o.fo o.fl o.fk] tSt)) := rfl
  unfold oV
  rw [HO.out] at c0 c2 HT HX HFR
  clear h hn
  have HOB : Hid (oB o = .cells #[.int .i64 o.kind, .int .i64 o.on, .int .i64 o.num, .string o.mt, .slice o.fo o.fl o.fk] tSt) := rfl
  have HBN : Hid (∀ x, FrP (F4 b d rb rd) (y.alloc (.cells #[.int .i64 o.kind, .int .i64 o.on, .int .i64 o.num, .string o.mt, .slice o.fo o.fl o.fk] tSt)) x → x.cell? ⟨y.heap.size, 2, none⟩ = some (.int .i64 o.num)) := fun x hx => (box_num (box_fr HL.out HX.out hx)).2
  obtain ⟨kind, on, num, mt, fo, fl, fk⟩ := o
  dsimp only at *
  by_cases k1 : kind = 1
  · subst k1
    as_aux_lemma =>
      go_enter Tryz.func13, Tryz.ntmps13
      go_wp2_with fail
      refine (deal_any HT.out).mono ?_
      rintro e x ⟨rfl, ht, hf⟩
      have HU : Hid (PN w y b d rb rd S (.returned (.bool true)) x) := ⟨rfl, ⟨_, tk_mo S, ht⟩, HFR.out x hf⟩
      clear ht hf
      go_wp2_with fail
      go_ret
      exact HU.out
  · by_cases k2 : kind = 2
    · subst k2
      as_aux_lemma =>
        have HF2 : Hid (∀ x, Kn w x b d (fr S num) → Rm x rb rd S → Calls Tryz.prog 41 #[.pointer (some ⟨rb, 0, none⟩), .int .i64 num] x fun e w' => e = .returned (.int .i64 (frE S num)) ∧ Tw w w' b d rb rd (fr S num) ∧ FrP (F4 b d rb rd) x w') := fun x hk hr => free2 HT.out.ok HT.out.r0 HT.out.r1 num hk hr
        obtain ⟨Y, HY⟩ : ∃ Y, y.alloc (.cells #[.int .i64 2, .int .i64 on, .int .i64 num, .string mt, .slice fo fl fk] tSt) = Y := ⟨_, rfl⟩
        rw [HY] at HT HX HFR c0 c2 HBN
        have HTD : Hid (Tw w Y.drew b d rb rd S) := HT.out.below ((Below.refl _ Y).drew)
        have HDF : Hid (FrP (F4 b d rb rd) Y Y.drew) := FrP.of ((Below.refl _ Y).drew)
        have c2d : Y.drew.cell? ⟨y.heap.size, 2, none⟩ = some (.int .i64 num) := c2
        go_enter Tryz.func13, Tryz.ntmps13
        go_wp2_with fail
        try rw [HY]
        clear HY
        go_region_held3 (fun x' => x'.cell? ⟨y.heap.size, 2, none⟩ = some (.int .i64 num)) (first | assumption | (go_keep; done))
          (first
            | (go_at_call 25; refine (free1 HTD.out num).mono ?_; rintro e x ⟨rfl, hk, hr, hf⟩; have HK : Hid (Kn w x b d (fr S num) ∧ Rm x rb rd S ∧ FrP (F4 b d rb rd) Y x) := ⟨hk, hr, fr4 HDF.out hf⟩; have c2x := HBN.out x HK.out.2.2; clear hk hr hf)
            | (go_at_call 41; refine (HF2.out _ HK.out.1 HK.out.2.1).mono ?_; rintro e u ⟨rfl, ht, hf⟩; have c2u := HBN.out u (fr4 HK.out.2.2 hf); have HU : Hid (PN w y b d rb rd S (.returned (.bool true)) u) := ⟨rfl, ⟨_, fr_mo S num, ht⟩, HFR.out u (fr4 HK.out.2.2 hf)⟩; clear ht hf))
        all_goals
          go_wp2_with fail
          go_ret
          exact HU.out
    · by_cases k3 : kind = 3
      · subst k3
        as_aux_lemma =>
          obtain ⟨Y, HY⟩ : ∃ Y, y.alloc (.cells #[.int .i64 3, .int .i64 on, .int .i64 num, .string mt, .slice fo fl fk] tSt) = Y := ⟨_, rfl⟩
          rw [HY] at HT HX HFR c0 c2 HBN
          have HTN : Hid (∀ m, Tw w (Y.drewN m) b d rb rd S) := fun m => HT.out.below (Kb.below_drewN (Below.refl _ Y) m)
          have HFN : Hid (∀ m, FrP (F4 b d rb rd) y (Y.drewN m)) := fun m => HFR.out _ (FrP.of (Kb.below_drewN (Below.refl _ Y) m))
          have HTD : Hid (Tw w Y.drew b d rb rd S) := HT.out.below ((Below.refl _ Y).drew)
          have HDF : Hid (FrP (F4 b d rb rd) Y Y.drew) := FrP.of ((Below.refl _ Y).drew)
          have c2d : Y.drew.cell? ⟨y.heap.size, 2, none⟩ = some (.int .i64 num) := c2
          have HT1 : Hid (∀ m, Calls Tryz.prog 24 #[.pointer (some ⟨b, 0, none⟩), .int .i64 num] (Y.drewN m) fun e w' => e = .returned (.bool (isOut S num)) ∧ ∃ j, w' = (Y.drewN m).drewN j) := fun m => taken1 (HTN.out m) num
          have HT2 : Hid (∀ m, Calls Tryz.prog 42 #[.pointer (some ⟨rb, 0, none⟩), .int .i64 num] (Y.drewN m) fun e w' => e = .returned (.bool (isOut S num)) ∧ w' = Y.drewN m) := fun m => takenr_any (HTN.out m).rm num
          go_enter Tryz.func13, Tryz.ntmps13
          go_wp2_with fail
          try rw [HY]
          clear HY
          go_quiet (first | (go_at_call 24; exact Calls.quiet_of (HT1.out _)) | (go_at_call 42; exact Calls.quiet_of_same (HT2.out _)))
          go_wp2_with fail
          go_ret
          exact ⟨by simp; try rfl, ⟨S, rfl, HTN.out _⟩, HFN.out _⟩
      · by_cases k4 : kind = 4
        · subst k4
          as_aux_lemma =>
            obtain ⟨Y, HY⟩ : ∃ Y, y.alloc (.cells #[.int .i64 4, .int .i64 on, .int .i64 num, .string mt, .slice fo fl fk] tSt) = Y := ⟨_, rfl⟩
            rw [HY] at HT HX HFR c0 c2 HBN
            have HTN : Hid (∀ m, Tw w (Y.drewN m) b d rb rd S) := fun m => HT.out.below (Kb.below_drewN (Below.refl _ Y) m)
            have HFN : Hid (∀ m, FrP (F4 b d rb rd) y (Y.drewN m)) := fun m => HFR.out _ (FrP.of (Kb.below_drewN (Below.refl _ Y) m))
            have HTD : Hid (Tw w Y.drew b d rb rd S) := HT.out.below ((Below.refl _ Y).drew)
            have HDF : Hid (FrP (F4 b d rb rd) Y Y.drew) := FrP.of ((Below.refl _ Y).drew)
            have c2d : Y.drew.cell? ⟨y.heap.size, 2, none⟩ = some (.int .i64 num) := c2
            have HL1 : Hid (∀ m, Calls Tryz.prog 27 #[.pointer (some ⟨b, 0, none⟩)] (Y.drewN m) fun e w' => e = .returned (.int .i64 (S.many : Int)) ∧ w' = Y.drewN m) := fun m => by
              obtain ⟨W, hn⟩ := (HTN.out m).kn.nm
              exact Yd.len_any hn
            have c3 : Y.cell? ⟨rb, 3, none⟩ = some (.int .i64 (S.many : Int)) := HT.out.rm.c.2.2.2
            generalize (S.many : Int) = mm at *
            go_enter Tryz.func13, Tryz.ntmps13
            go_wp2_with fail
            try rw [HY]
            clear HY
            go_quiet (first | (go_at_call 27; exact Calls.quiet_of_same (HL1.out _)))
            go_wp2_with fail
            go_ret
            exact ⟨by simp; try rfl, ⟨S, rfl, HTN.out _⟩, HFN.out _⟩
        · by_cases k5 : kind = 5
          · subst k5
            as_aux_lemma =>
              obtain ⟨Y, HY⟩ : ∃ Y, y.alloc (.cells #[.int .i64 5, .int .i64 on, .int .i64 num, .string mt, .slice fo fl fk] tSt) = Y := ⟨_, rfl⟩
              rw [HY] at HT HX HFR c0 c2 HBN
              have HTD : Hid (Tw w Y.drew b d rb rd S) := HT.out.below ((Below.refl _ Y).drew)
              have HDF : Hid (FrP (F4 b d rb rd) Y Y.drew) := FrP.of ((Below.refl _ Y).drew)
              have HPK : Hid (∀ x, Calls Tryz.prog 12 #[.int .i64 num, .int .i64 3000] x fun e w' => e = .returned (.int .i64 (Pick.pickOf num 3000)) ∧ w' = x) := fun x => Pick.pick_any num 3000 x nb.1 nb.2 (by decide) (by decide)
              have p0 := Pick.pick_lo num 3000 (by decide)
              have p1 := Pick.pick_hi num 3000 (by decide)
              generalize Pick.pickOf num 3000 = pp at *
              obtain ⟨P0, rfl⟩ : ∃ P : Nat, pp = (P : Int) := ⟨pp.toNat, by omega⟩
              have HP1 : Hid (P0 < 3000) := by show P0 < 3000; omega
              have HT0 : Hid (∃ S', S'.mo = S.mo ∧ Tw w Y b d rb rd S') := ⟨S, rfl, HT.out⟩
              have HF0 : Hid (FrP (F4 b d rb rd) y Y) := HFR.out _ (FrP.refl _ _)
              clear p0 p1 HTD HDF
              go_enter Tryz.func13, Tryz.ntmps13
              go_wp2_with fail
              try rw [HY]
              clear HY
              refine (HPK.out _).mono ?_
              rintro e x ⟨rfl, hx⟩
              rw [hx]
              clear hx x HPK
              go_wp2_with fail
              go_loopw [7] (fun iv wr => ∃ i : Nat, iv = .int .i64 (i : Int) ∧ i < 3000 ∧ Hid (∃ S', S'.mo = S.mo ∧ Tw w wr b d rb rd S') ∧ Hid (FrP (F4 b d rb rd) y wr)) (fun iv _ => (intOf iv).toNat)
              case atStart => exact ⟨P0, rfl, HP1.out, HT0, HF0⟩
              case round =>
                obtain ⟨i, rfl, hi, HTI, HFI⟩ := hrel
                by_cases h0 : 0 < i
                · have r0 : (0 : Int) < (i : Int) := by omega
                  have r1 : (i : Int) ≤ 3000 := by omega
                  obtain ⟨S2, hm2, ht2⟩ := HTI.out
                  have HM2 : Hid (S2.mo = S.mo) := hm2
                  have HI : Hid (0 < i ∧ i < 3000) := ⟨h0, hi⟩
                  have HDE : Hid (Calls Tryz.prog 40 #[.pointer (some ⟨b, 0, none⟩), .pointer (some ⟨rb, 0, none⟩)] wr fun e w' => e = .returned (.bool true) ∧ Tw w w' b d rb rd (tk S2) ∧ FrP (F4 b d rb rd) wr w') := deal_any ht2
                  clear h0 hi hm2 ht2 HTI
                  go_wp2_with fail
                  refine HDE.out.mono ?_
                  rintro e u ⟨rfl, ht, hf⟩
                  have HTU : Hid (∃ S', S'.mo = S.mo ∧ Tw w u b d rb rd S') := ⟨_, (tk_mo S2).trans HM2.out, ht⟩
                  have HFU : Hid (FrP (F4 b d rb rd) y u) := fr4 HFI.out hf
                  clear ht hf HDE
                  go_wp2_with fail
                  have hii := HI.out
                  refine ⟨⟨i - 1, ?_, by omega, HTU, HFU⟩, ?_⟩
                  · rw [show (i : Int) - 1 = ((i - 1 : Nat) : Int) by omega]
                  · rw [int_of, int_of]; omega
                · have r0 : ¬ (0 : Int) < (i : Int) := by omega
                  clear h0 hi
                  go_wp2_with fail
                  go_ret
                  exact ⟨rfl, HTI.out, HFI.out⟩
          · by_cases k6 : kind = 6
            · subst k6
              as_aux_lemma =>
                obtain ⟨Y, HY⟩ : ∃ Y, y.alloc (.cells #[.int .i64 6, .int .i64 on, .int .i64 num, .string mt, .slice fo fl fk] tSt) = Y := ⟨_, rfl⟩
                rw [HY] at HT HX HFR c0 c2 HBN
                have HTD : Hid (Tw w Y.drew b d rb rd S) := HT.out.below ((Below.refl _ Y).drew)
                have HDF : Hid (FrP (F4 b d rb rd) Y Y.drew) := FrP.of ((Below.refl _ Y).drew)
                have HF2 : Hid (∀ x, Kn w x b d (fr S (S.last : Int)) → Rm x rb rd S → Calls Tryz.prog 41 #[.pointer (some ⟨rb, 0, none⟩), .int .i64 (S.last : Int)] x fun e w' => e = .returned (.int .i64 (frE S (S.last : Int))) ∧ Tw w w' b d rb rd (fr S (S.last : Int)) ∧ FrP (F4 b d rb rd) x w') := fun x hk hr => free2 HT.out.ok HT.out.r0 HT.out.r1 _ hk hr
                have HF1 : Hid (Calls Tryz.prog 25 #[.pointer (some ⟨b, 0, none⟩), .int .i64 (S.last : Int)] Y.drew fun e w' => e = .returned (.int .i64 (frE S (S.last : Int))) ∧ Kn w w' b d (fr S (S.last : Int)) ∧ Rm w' rb rd S ∧ FrP (F4 b d rb rd) Y.drew w') := free1 HTD.out _
                have l0 : Y.drew.cell? ⟨rb, 1, none⟩ = some (.int .i64 (S.last : Int)) := HTD.out.rm.c.2.1
                have HLA : Hid (∀ x, Rm x rb rd S → x.cell? ⟨rb, 1, none⟩ = some (.int .i64 (S.last : Int))) := fun x hr => hr.c.2.1
                have HMO : Hid ((fr S (S.last : Int)).mo = S.mo) := fr_mo S _
                have HLB : Hid (∀ x, Rm x rb rd (fr S (S.last : Int)) → x.cell? ⟨rb, 1, none⟩ = some (.int .i64 (S.last : Int))) := fun x hr => by
                  have h1 := hr.c.2.1
                  rw [show (fr S (S.last : Int)).last = S.last by unfold fr; split <;> rfl] at h1
                  exact h1
                generalize (S.last : Int) = la at *
                generalize fr S la = S6 at *
                go_enter Tryz.func13, Tryz.ntmps13
                go_wp2_with fail
                try rw [HY]
                clear HY
                go_region_held3 (fun x' => x'.cell? ⟨rb, 1, none⟩ = some (.int .i64 la)) (first | assumption | (go_keep; done))
                  (first
                    | (go_at_call 25; refine HF1.out.mono ?_; rintro e x ⟨rfl, hk, hr, hf⟩; have HK : Hid (Kn w x b d S6 ∧ Rm x rb rd S ∧ FrP (F4 b d rb rd) Y x) := ⟨hk, hr, fr4 HDF.out hf⟩; have c2x := HLA.out x hr; clear hk hr hf)
                    | (go_at_call 41; refine (HF2.out _ HK.out.1 HK.out.2.1).mono ?_; rintro e u ⟨rfl, ht, hf⟩; have c2u := HLB.out u ht.rm; have HU : Hid (PN w y b d rb rd S (.returned (.bool true)) u) := ⟨rfl, ⟨_, HMO.out, ht⟩, HFR.out u (fr4 HK.out.2.2 hf)⟩; clear ht hf))
                all_goals
                  go_wp2_with fail
                  go_ret
                  exact HU.out
            · as_aux_lemma =>
                have e1 : (kind == 1) = false := by simpa using k1
                have e2 : (kind == 2) = false := by simpa using k2
                have e3 : (kind == 3) = false := by simpa using k3
                have e4 : (kind == 4) = false := by simpa using k4
                have e5 : (kind == 5) = false := by simpa using k5
                have e6 : (kind == 6) = false := by simpa using k6
                have HU : Hid (PN w y b d rb rd S (.returned (.bool true)) (y.alloc (.cells #[.int .i64 kind, .int .i64 on, .int .i64 num, .string mt, .slice fo fl fk] tSt))) := ⟨rfl, ⟨S, rfl, HT.out⟩, HFR.out _ (FrP.refl _ _)⟩
                clear k1 k2 k3 k4 k5 k6
                go_enter Tryz.func13, Tryz.ntmps13
                go_wp2_with fail
                go_ret
                exact HU.out
end Go.Proofs.YtmnoplaepjaokaaGreatDoor.Vb
