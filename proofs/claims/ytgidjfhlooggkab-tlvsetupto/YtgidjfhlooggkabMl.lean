/- The law's maker of nodes: lists. -/
import Derived.Test.YtgidjfhlooggkabMv
import Derived.Test.YtgidjfhlooggkabAg
import Derived.BigQuiet
namespace Go.Proofs.Ytgidjfhlooggkab.Ml
set_option linter.unusedVariables false
set_option linter.unusedSimpArgs false
open Go.RowKit Kb Ga Gb Gc Gd Nt Mk Mv Gj Ag
theorem blk3 {x : World} {g : Nat} {a b c : Value} {t : TypeId} (h : x.heap[g]? = some (.cells #[a, b, c] t)) :
    (x.cell? ⟨g, 0, none⟩ = some a ∧ x.cell? ⟨g, 1, none⟩ = some b ∧ x.cell? ⟨g, 2, none⟩ = some c) ∧ ∀ o, x.frozen? ⟨g, o, none⟩ = false := by
  refine ⟨⟨?_, ?_, ?_⟩, fun o => ?_⟩ <;> simp [World.cell?, World.frozen?, h]
/-- values below 140 bytes -/
def sm : List Tr → Prop
  | [] => True
  | .mk _ v ks :: ts => (v.size < 140 ∧ sm ks) ∧ sm ts
theorem good_app (d : Nat) : ∀ (xs ys : List Tr), good d xs → good d ys → good d (xs ++ ys)
  | [], ys, _, h => by simpa using h
  | .mk t v ks :: xs, ys, h, k => by
    unfold good at h
    simp only [List.cons_append]
    unfold good
    exact ⟨h.1, good_app d xs ys h.2 k⟩
theorem sm_app : ∀ (xs ys : List Tr), sm xs → sm ys → sm (xs ++ ys)
  | [], ys, _, h => by simpa using h
  | .mk t v ks :: xs, ys, h, k => by
    unfold sm at h
    simp only [List.cons_append]
    unfold sm
    exact ⟨h.1, sm_app xs ys h.2 k⟩
theorem cnt_app : ∀ (xs ys : List Tr), cnt (xs ++ ys) = cnt xs + cnt ys
  | [], ys => by simp [cnt]
  | .mk t v ks :: xs, ys => by
    simp only [List.cons_append, cnt]
    rw [cnt_app xs ys]; omega
theorem cnt_len : ∀ ats : List AT, ats.length ≤ cnt (er ats)
  | [] => by simp
  | .mk t v kv ks :: ts => by
    have := cnt_len ts
    simp only [er, cnt, List.length_cons]; omega
/-- what a list of nodes is like -/
structure PL (w : World) (g : Nat) (o : Option Addr) (n cap a m d : Nat) (v : Value) (ats : List AT) (w' : World) : Prop where
  own : Nt.Own w' w.heap.size v ats
  gd : good d (er ats)
  sml : sm (er ats)
  few : m + cnt (er ats) ≤ 60
  left : ∃ a', a ≤ a' ∧ a' ≤ a + 1 + 200 * cnt (er ats) ∧ Lm w g o n cap (a' : Int) ((m + cnt (er ats) : Nat) : Int) w'
def PostL (w : World) (g : Nat) (o : Option Addr) (n cap a m d : Nat) (e : Ending) (w' : World) : Prop := ∃ v ats, e = .returned v ∧ PL w g o n cap a m d v ats w'
def ListC (f : Nat) : Prop := ∀ (w : World) (g : Nat) (o : Option Addr) (n cap a m d : Nat), Lm w g o n cap (a : Int) (m : Int) w → m ≤ 60 → a + 1 + 200 * (60 - m) ≤ 900000 → d + f = 8 →
  Calls Try.prog 29 #[.pointer (some ⟨g, 0, none⟩), .int .i64 (d : Int)] w (PostL w g o n cap a m d)
set_option maxRecDepth 100000 in
set_option maxHeartbeats 6400000 in
theorem list_step {f : Nat} (ih : ∀ f', f' + 1 = f → ListC f') : ListC f := by
  intro w g o n cap a m d h hm ha hd
  have hgw := Lm.lt h
  go_enter Try.func29, Try.ntmps29
  go_wp2_with fail
  refine (next_any h 5 (by omega) (by omega) (by omega)).mono ?_
  rintro _ x ⟨r, rfl, r0, r1, hx⟩
  go_wp2_with fail
  go_loopw [5, 6] (fun lv vi wr => ∃ (z : Int) (ats : List AT) (a' : Nat), vi = .int .i64 z ∧ 0 ≤ z ∧ z < 5 ∧ Nt.Own wr w.heap.size lv ats ∧ Hid (good d (er ats) ∧ sm (er ats)) ∧ m + cnt (er ats) ≤ 60 ∧ a ≤ a' ∧ a' ≤ a + 1 + 200 * cnt (er ats) ∧ Lm w g o n cap (a' : Int) ((m + cnt (er ats) : Nat) : Int) wr) (fun _ vi _ => (intOf vi).toNat)
  case atStart => exact ⟨r, [], a + 1, rfl, r0, r1, own_nil _ _, ⟨by unfold er good; trivial, by unfold er sm; trivial⟩, by simp only [er, cnt]; omega, by omega, by omega, by simp only [er, cnt, Nat.add_zero]; exact hx⟩
  case round =>
    obtain ⟨z, ats, a', rfl, z0, z1, ho, HG, hfew, ha0, ha1, hl⟩ := hrel
    rename World => wr
    obtain ⟨lo, lc, rfl⟩ := ho.form
    obtain ⟨M, HM⟩ : ∃ M : Nat, Hid (m + cnt (er ats) = M) := ⟨_, rfl⟩
    have hC : 200 * cnt (er ats) = 200 * (M - m) := by have := HM.out; omega
    have hmM : m ≤ M := by have := HM.out; omega
    rw [HM.out] at hfew hl
    rw [hC] at ha1
    obtain ⟨⟨c0, c1, c2⟩, fz⟩ := hl.1.at
    have hn47 := hl.2.len
    obtain ⟨LN, HLN⟩ : ∃ LN, Hid (ats.length = LN) := ⟨_, rfl⟩
    have hLN : LN ≤ 60 := by have := cnt_len ats; have := HLN.out; have := HM.out; omega
    have HO : Hid (Nt.Own wr w.heap.size (.slice lo LN lc) ats) := by rw [← HLN.out]; exact ho
    rw [HLN.out]
    clear ho hC
    by_cases g1 : 0 < z
    · by_cases g2 : M < 60
      · have g2' : (M : Int) < 60 := by omega
        by_cases g3 : a' < n
        · have g3' : (a' : Int) < (n : Int) := by omega
          --MAIN--
          go_wp2_with fail
          go_quiet (fail)
          have bq := below_drewN (Below.refl wr.heap.size wr) nq
          have hl2 := hl.below bq
          have ho2 := HO.out.below bq
          clear c0 c1 c2 fz HO bq hl
          generalize wr.drewN nq = y0 at *
          obtain ⟨⟨c0, c1, c2⟩, fz⟩ := hl2.1.at
          have f2 := fz 2
          have hl3 := hl2.set2 ((M : Int) + 1)
          have HO3 : Hid (Nt.Own (y0.setCell ⟨g, 2, none⟩ (.int .i64 ((M : Int) + 1))) w.heap.size (.slice lo LN lc) ats) := ho2.keep fun q hq => setCell_ne (by have := (ho2.lt q hq).1; omega) _ _
          clear fz c0 c1 ho2 g3 g3'
          go_wp2_with fail
          clear c2 f2 hl2 hx
          generalize y0.setCell { block := g, off := 2 } (Value.int IntKind.i64 ((M : Int) + 1)) = y at *
          refine (next_any hl3.again 3 (by omega) (by omega) (by omega)).mono ?_
          rintro _ y1 ⟨q, rfl, q0, q1, h4⟩
          have HO4 : Hid (Nt.Own y1 w.heap.size (.slice lo LN lc) ats) := HO3.out.grown h4.3 hgw
          replace h4 := hl3.then h4
          clear hl3 HO3
          by_cases hq : q = 0
          · subst hq
            go_wp2_with fail
            refine (tag_any h4.again true (by omega)).mono ?_
            rintro _ y2 ⟨t, a2, rfl, ht, b0, b1, h5⟩
            have HO5 : Hid (Nt.Own y2 w.heap.size (.slice lo LN lc) ats) := HO4.out.grown h5.3 hgw
            replace h5 := h4.then h5
            have hs2 : w.heap.size ≤ y2.heap.size := h5.3.size
            have HTB : Hid (tagB t) := ⟨by have := ht.1; omega, by have := ht.2.1; omega⟩
            have HMK : Hid (mkd t = true) := ht.2.2.2
            clear h4 HO4 ht
            have hR := h1_0 y2 (.cells zn 38)
            have BW : Below y2.heap.size y2 ((y2.alloc (.cells zn 38)).setRow y2.heap.size #[.int .i64 t, .string ⟨#[]⟩, .slice none 0 0]) := ⟨rfl, rfl, rfl, by simp [World.setRow], fun k hk => (setRow_ne (by omega) _).trans (Below.heap_alloc y2 _ k hk)⟩
            have hW := setRow_at hR #[.int .i64 t, .string ⟨#[]⟩, .slice none 0 0]
            have sW : ((y2.alloc (.cells zn 38)).setRow y2.heap.size #[.int .i64 t, .string ⟨#[]⟩, .slice none 0 0]).heap.size = y2.heap.size + 1 := by simp [World.setRow]
            have h6 := h5.below BW
            have HO6 : Hid (Nt.Own ((y2.alloc (.cells zn 38)).setRow y2.heap.size #[.int .i64 t, .string ⟨#[]⟩, .slice none 0 0]) w.heap.size (.slice lo LN lc) ats) := HO5.out.below BW
            have HLT : Hid (∀ q ∈ (Value.slice lo LN lc).ownBlock.toList ++ fp ats, q < y2.heap.size) := fun q hq => (HO5.out.lt q hq).2
            clear h5 HO5 BW
            by_cases hd8 : d < 8
            · have hd8' : (d : Int) < 8 := by omega
              obtain ⟨f', hf'⟩ : ∃ f', f' + 1 = f := ⟨f - 1, by omega⟩
              have ihf := ih f' hf'
              go_wp2_with (refine wpList_store_row rfl 38 _ _ rfl y2.heap.size _ rfl rfl _ _ hR infoN rfl (by simp [Value.oneCell']) ?_)
              clear hR
              generalize (y2.alloc (.cells zn 38)).setRow y2.heap.size #[.int .i64 t, .string ⟨#[]⟩, .slice none 0 0] = W at *
              have cl := ihf W g o n cap a2 (M + 1) (d + 1) h6.again (by omega) (by omega) (by omega)
              rw [show ((d + 1 : Nat) : Int) = (d : Int) + 1 by omega] at cl
              refine cl.mono ?_
              clear cl ihf
              rintro _ y3 ⟨kv, aks, rfl, hPL⟩
              obtain ⟨hok, hgd, hsm, hfw, a3, e0, e1, h7⟩ := hPL
              obtain ⟨ko, kc, rfl⟩ := hok.form
              obtain ⟨LK, HLK⟩ : ∃ LK, Hid (aks.length = LK) := ⟨_, rfl⟩
              rw [HLK.out] at hok
              rw [HLK.out]
              have hn3 : y3.heap[y2.heap.size]? = some (.cells #[.int .i64 t, .string ⟨#[]⟩, .slice none 0 0] 38) := (h7.3.block _ (by omega) (by intro e; injection e with e; omega)).trans hW
              have hn4 : (y3.setCell ⟨y2.heap.size, 2, none⟩ (.slice ko LK kc)).heap[y2.heap.size]? = some (.cells #[.int .i64 t, .string ⟨#[]⟩, .slice ko LK kc] 38) := setCell_heap hn3 2 _
              have HO7 : Hid (Nt.Own (y3.setCell ⟨y2.heap.size, 2, none⟩ (.slice ko LK kc)) w.heap.size (.slice lo LN lc) ats) := (HO6.out.grown h7.3 hgw).keep fun q hq => setCell_ne (by have := HLT.out q hq; omega) _ _
              have HOK : Hid (Nt.Own (y3.setCell ⟨y2.heap.size, 2, none⟩ (.slice ko LK kc)) W.heap.size (.slice ko LK kc) aks) := hok.keep fun q hq => setCell_ne (by have := (hok.lt q hq).1; omega) _ _
              have h8 := h6.then h7
              replace h8 := Lm.row h8 h.2 hgw ((Below.refl w.heap.size y3).setCell (p := ⟨y2.heap.size, 2, none⟩) hs2 (.slice ko LK kc))
              have HB : Hid (∀ q ∈ (Value.slice lo LN lc).ownBlock.toList ++ fp ats, q < W.heap.size) := fun q hq => by have := HLT.out q hq; omega
              have HGK : Hid (good (d + 1) (er aks) ∧ sm (er aks)) := ⟨hgd, hsm⟩
              have HF : Hid (M + 1 + cnt (er aks) ≤ 60 ∧ a2 ≤ a3 ∧ a3 ≤ a2 + 1 + 200 * cnt (er aks)) := ⟨hfw, e0, e1⟩
              have hwW : w.heap.size ≤ W.heap.size := by omega
              obtain ⟨⟨n0, n1, n2⟩, fz⟩ := blk3 hn3
              have f2 := fz 2
              obtain ⟨⟨m0, m1, m2⟩, fm⟩ := blk3 hn4
              clear h6 h7 hok hgd hsm hfw e0 e1 HO6 HLT fz fm hn3 hn4 hW
              have own1 := HO7.out.row
              rw [HLN.out] at own1
              have OWN1 : Hid (World.ownsRow (y3.setCell ⟨y2.heap.size, 2, none⟩ (.slice ko LK kc)) w.heap.size 38 3 (.slice lo LN lc) LN (cs ats)) := own1
              have hsX : w.heap.size ≤ (y3.setCell ⟨y2.heap.size, 2, none⟩ (.slice ko LK kc)).heap.size := h8.3.size
              obtain ⟨ia, hia, hza0, hza1, hza2⟩ := info_parts infoNN
              have hXs : (y3.setCell ⟨y2.heap.size, 2, none⟩ (.slice ko LK kc)).heap.size = y3.heap.size := by simp [World.setCell, World.setRow]
              have HNW : ∀ ob, ((y3.setCell ⟨y2.heap.size, 2, none⟩ (.slice ko LK kc)).alloc ob).heap[y3.heap.size]? = some ob := fun ob => by have := heap_alloc_new (y3.setCell ⟨y2.heap.size, 2, none⟩ (.slice ko LK kc)) ob; rwa [hXs] at this
              rw [hXs] at hsX
              clear own1
              go_wp2_with (at_builtin; refine wpList_append_lies _ rfl _ _ _ rfl w.heap.size 38 ia _ 3 48 Try.underlying23 hia hza0 hza1 hza2 rfl (by omega) _ LN _ rfl (OWN1.out.alloc _) ⟨y3.heap.size, 0, Option.none⟩ 1 1 _ rfl (by rfl) (World.news_of_block (HNW _)) (by simp [Value.oneCell']) (by omega) (by unfold maxLen; omega) (by omega) (by first | omega | (simp <;> omega)) (y3.heap.size + 1) (by first | (simp; done) | (simp [World.setCell, World.setRow]; done)) ?_; intro g1 c1 w1 own1 gr1 hat1 hlt1)
              have B1 := grow3 (by rw [hXs]; exact hsX) OWN1.out gr1
              have hl5 := Lm.row h8 h.2 hgw B1
              have hp := own_push HO7.out HOK.out HB.out (by omega) (show (⟨#[]⟩ : ByteArray).size ≤ 1048576 by decide) HTB.out (by have := HLN.out; omega) gr1 (by rw [HLN.out]; exact own1) (by rw [hXs]; exact hat1)
              have hcnt : m + cnt (er (ats ++ [AT.mk t ⟨#[]⟩ (.slice ko LK kc) aks])) = M + 1 + cnt (er aks) := by rw [er_append, cnt_app]; simp only [er, cnt]; have := HM.out; omega
              refine ⟨⟨z - 1, ats ++ [AT.mk t ⟨#[]⟩ (.slice ko LK kc) aks], a3, rfl, by omega, by omega, ?_, ⟨?_, ?_⟩, ?_, ?_, ?_, ?_⟩, ?_⟩
              · have e : (ats ++ [AT.mk t ⟨#[]⟩ (.slice ko LK kc) aks]).length = LN + 1 := by rw [List.length_append, HLN.out]; rfl
                rw [e] at hp
                exact hp
              · rw [er_append]
                exact good_app d _ _ HG.out.1 (by simp only [er, good]; exact ⟨⟨by omega, by rw [if_pos HMK.out]; exact ⟨by decide, HGK.out.1⟩⟩, trivial⟩)
              · rw [er_append]
                exact sm_app _ _ HG.out.2 (by simp only [er, sm]; exact ⟨⟨by decide, HGK.out.2⟩, trivial⟩)
              · rw [hcnt]; have := HF.out; omega
              · have := HF.out; omega
              · have := HF.out; omega
              · rw [hcnt]; exact hl5
              · simp [intOf]; omega
            · have hd8' : ¬ (d : Int) < 8 := by omega
              obtain ⟨⟨n0, n1, n2⟩, fz⟩ := blk3 hW
              have HF : Hid (M + 1 + cnt (er []) ≤ 60 ∧ a2 ≤ a2 ∧ a2 ≤ a2 + 1 + 200 * cnt (er [])) := ⟨by simp only [er, cnt]; omega, by omega, by omega⟩
              have HOK : Hid (Nt.Own ((y2.alloc (.cells zn 38)).setRow y2.heap.size #[.int .i64 t, .string ⟨#[]⟩, .slice none 0 0]) y2.heap.size (.slice none 0 0) []) := own_nil _ _
              have HB := HLT
              clear fz
              have own1 := HO6.out.row
              rw [HLN.out] at own1
              have OWN1 : Hid (World.ownsRow ((y2.alloc (.cells zn 38)).setRow y2.heap.size #[.int .i64 t, .string ⟨#[]⟩, .slice none 0 0]) w.heap.size 38 3 (.slice lo LN lc) LN (cs ats)) := own1
              have hsX : w.heap.size ≤ ((y2.alloc (.cells zn 38)).setRow y2.heap.size #[.int .i64 t, .string ⟨#[]⟩, .slice none 0 0]).heap.size := h6.3.size
              obtain ⟨ia, hia, hza0, hza1, hza2⟩ := info_parts infoNN
              have hXs : ((y2.alloc (.cells zn 38)).setRow y2.heap.size #[.int .i64 t, .string ⟨#[]⟩, .slice none 0 0]).heap.size = (y2.heap.size + 1) := by simp [World.setCell, World.setRow]
              have HNW : ∀ ob, (((y2.alloc (.cells zn 38)).setRow y2.heap.size #[.int .i64 t, .string ⟨#[]⟩, .slice none 0 0]).alloc ob).heap[(y2.heap.size + 1)]? = some ob := fun ob => by have := heap_alloc_new ((y2.alloc (.cells zn 38)).setRow y2.heap.size #[.int .i64 t, .string ⟨#[]⟩, .slice none 0 0]) ob; rwa [hXs] at this
              rw [hXs] at hsX
              clear own1
              go_wp2_with (first | (refine wpList_store_row rfl 38 _ _ rfl y2.heap.size _ rfl rfl _ _ hR infoN rfl (by simp [Value.oneCell']) ?_) | (at_builtin; refine wpList_append_lies _ rfl _ _ _ rfl w.heap.size 38 ia _ 3 48 Try.underlying23 hia hza0 hza1 hza2 rfl (by omega) _ LN _ rfl (OWN1.out.alloc _) ⟨(y2.heap.size + 1), 0, Option.none⟩ 1 1 _ rfl (by rfl) (World.news_of_block (HNW _)) (by simp [Value.oneCell']) (by omega) (by unfold maxLen; omega) (by omega) (by first | omega | (simp <;> omega)) ((y2.heap.size + 1) + 1) (by first | (simp; done) | (simp [World.setCell, World.setRow]; done)) ?_; intro g1 c1 w1 own1 gr1 hat1 hlt1))
              have B1 := grow3 (by rw [hXs]; exact hsX) OWN1.out gr1
              have hl5 := Lm.row h6 h.2 hgw B1
              have hp := own_push HO6.out HOK.out HB.out (by omega) (show (⟨#[]⟩ : ByteArray).size ≤ 1048576 by decide) HTB.out (by have := HLN.out; omega) gr1 (by rw [HLN.out]; exact own1) (by rw [hXs]; exact hat1)
              have hcnt : m + cnt (er (ats ++ [AT.mk t ⟨#[]⟩ (.slice none 0 0) []])) = M + 1 + cnt (er []) := by rw [er_append, cnt_app]; simp only [er, cnt]; have := HM.out; omega
              refine ⟨⟨z - 1, ats ++ [AT.mk t ⟨#[]⟩ (.slice none 0 0) []], a2, rfl, by omega, by omega, ?_, ⟨?_, ?_⟩, ?_, ?_, ?_, ?_⟩, ?_⟩
              · have e : (ats ++ [AT.mk t ⟨#[]⟩ (.slice none 0 0) []]).length = LN + 1 := by rw [List.length_append, HLN.out]; rfl
                rw [e] at hp
                exact hp
              · rw [er_append]
                exact good_app d _ _ HG.out.1 (by simp only [er, good]; exact ⟨⟨by omega, by rw [if_pos HMK.out]; exact ⟨by decide, by simp only [er, good]⟩⟩, trivial⟩)
              · rw [er_append]
                exact sm_app _ _ HG.out.2 (by simp only [er, sm]; exact ⟨⟨by decide, by simp only [er, sm]⟩, trivial⟩)
              · rw [hcnt]; have := HF.out; omega
              · have := HF.out; omega
              · have := HF.out; omega
              · rw [hcnt]; simp only [er, cnt, Nat.add_zero]; exact hl5
              · simp [intOf]; omega
          · have hq' : (q == 0) = false := by simpa using hq
            go_wp2_with fail
            refine (tag_any h4.again false (by omega)).mono ?_
            rintro _ y2 ⟨t, a2, rfl, ht, b0, b1, h5⟩
            have HO5 : Hid (Nt.Own y2 w.heap.size (.slice lo LN lc) ats) := HO4.out.grown h5.3 hgw
            replace h5 := h4.then h5
            have hs2 : w.heap.size ≤ y2.heap.size := h5.3.size
            have HTB : Hid (tagB t) := ⟨by have := ht.1; omega, by have := ht.2.1; omega⟩
            have HMK : Hid (mkd t = false ∧ 0 < tgS t) := ⟨ht.2.2.2, ht.2.2.1⟩
            clear h4 HO4 ht
            have hR := h1_0 y2 (.cells zn 38)
            have BW : Below y2.heap.size y2 ((y2.alloc (.cells zn 38)).setRow y2.heap.size #[.int .i64 t, .string ⟨#[]⟩, .slice none 0 0]) := ⟨rfl, rfl, rfl, by simp [World.setRow], fun k hk => (setRow_ne (by omega) _).trans (Below.heap_alloc y2 _ k hk)⟩
            have hW := setRow_at hR #[.int .i64 t, .string ⟨#[]⟩, .slice none 0 0]
            have sW : ((y2.alloc (.cells zn 38)).setRow y2.heap.size #[.int .i64 t, .string ⟨#[]⟩, .slice none 0 0]).heap.size = y2.heap.size + 1 := by simp [World.setRow]
            have h6 := h5.below BW
            have HO6 : Hid (Nt.Own ((y2.alloc (.cells zn 38)).setRow y2.heap.size #[.int .i64 t, .string ⟨#[]⟩, .slice none 0 0]) w.heap.size (.slice lo LN lc) ats) := HO5.out.below BW
            have HB : Hid (∀ q ∈ (Value.slice lo LN lc).ownBlock.toList ++ fp ats, q < y2.heap.size) := fun q hq => (HO5.out.lt q hq).2
            clear h5 HO5 BW
            go_wp2_with (refine wpList_store_row rfl 38 _ _ rfl y2.heap.size _ rfl rfl _ _ hR infoN rfl (by simp [Value.oneCell']) ?_)
            clear hR
            generalize (y2.alloc (.cells zn 38)).setRow y2.heap.size #[.int .i64 t, .string ⟨#[]⟩, .slice none 0 0] = W at *
            have hS := h1_0 W (.cells #[.int .i64 6, .int .i64 40, .int .i64 140] 3)
            have BV := below_one W (.cells #[.int .i64 6, .int .i64 40, .int .i64 140] 3)
            have h7 := h6.below BV
            have HO7 : Hid (Nt.Own (W.alloc (.cells #[.int .i64 6, .int .i64 40, .int .i64 140] 3)) w.heap.size (.slice lo LN lc) ats) := HO6.out.below BV
            have hV := kept BV hW
            clear h6 HO6 BV hW
            generalize W.alloc (.cells #[.int .i64 6, .int .i64 40, .int .i64 140] 3) = V at *
            refine (next_any h7.again 3 (by omega) (by omega) (by omega)).mono ?_
            rintro _ y3 ⟨r3, rfl, e0, e1, h8⟩
            obtain ⟨R3, rfl⟩ : ∃ R3 : Nat, r3 = (R3 : Int) := ⟨r3.toNat, by omega⟩
            have hS3 := (h8.3.block _ (Array.getElem?_eq_some_iff.1 hS).1 (by intro e; injection e with e; omega)).trans hS
            have hN3 := (h8.3.block _ (Array.getElem?_eq_some_iff.1 hV).1 (by intro e; injection e with e; omega)).trans hV
            have HO8 : Hid (Nt.Own y3 w.heap.size (.slice lo LN lc) ats) := HO7.out.grown h8.3 hgw
            replace h8 := h7.then h8
            obtain ⟨mo, mo0, mo1, k1⟩ : ∃ mo : Int, 0 < mo ∧ mo ≤ 140 ∧ y3.cell? ⟨W.heap.size, R3, none⟩ = some (.int .i64 mo) := by
              obtain rfl | rfl | rfl : R3 = 0 ∨ R3 = 1 ∨ R3 = 2 := by omega
              · exact ⟨6, by omega, by omega, (blk3 hS3).1.1⟩
              · exact ⟨40, by omega, by omega, (blk3 hS3).1.2.1⟩
              · exact ⟨140, by omega, by omega, (blk3 hS3).1.2.2⟩
            have k2 : y3.cell? ((⟨W.heap.size, 0, none⟩ : Addr).add R3) = some (.int .i64 mo) := by rw [add0]; exact k1
            have k3 : y3.cell? ⟨y2.heap.size + 1, R3, none⟩ = some (.int .i64 mo) := by rw [← sW]; exact k1
            have k4 : y3.cell? ((⟨y2.heap.size + 1, 0, none⟩ : Addr).add R3) = some (.int .i64 mo) := by rw [← sW]; exact k2
            have hR3 : R3 < 3 := by omega
            clear h7 HO7 hS hV hS3
            go_wp2_with fail
            refine (value_any h8.again mo mo0 mo1 (by omega)).mono ?_
            rintro _ y4 ⟨sv, a4, rfl, hsv, i0, i1, h9⟩
            have hn3 := (h9.3.block _ (Array.getElem?_eq_some_iff.1 hN3).1 (by intro e; injection e with e; omega)).trans hN3
            have hn4 : (y4.setCell ⟨y2.heap.size, 1, none⟩ (.string sv)).heap[y2.heap.size]? = some (.cells #[.int .i64 t, .string sv, .slice none 0 0] 38) := setCell_heap hn3 1 _
            have HO9 : Hid (Nt.Own (y4.setCell ⟨y2.heap.size, 1, none⟩ (.string sv)) w.heap.size (.slice lo LN lc) ats) := (HO8.out.grown h9.3 hgw).keep fun q hq => setCell_ne (by have := HB.out q hq; omega) _ _
            have HOK : Hid (Nt.Own (y4.setCell ⟨y2.heap.size, 1, none⟩ (.string sv)) y2.heap.size (.slice none 0 0) []) := own_nil _ _
            have h10 := h8.then h9
            replace h10 := Lm.row h10 h.2 hgw ((Below.refl w.heap.size y4).setCell (p := ⟨y2.heap.size, 1, none⟩) hs2 (.string sv))
            have HF : Hid (M + 1 + cnt (er []) ≤ 60 ∧ a2 ≤ a4 ∧ a4 ≤ a2 + 141) := ⟨by simp only [er, cnt]; omega, by omega, by omega⟩
            obtain ⟨⟨n0, n1, n2⟩, fz⟩ := blk3 hn3
            have f2 := fz 1
            obtain ⟨⟨m0, m1, m2⟩, fm⟩ := blk3 hn4
            clear h8 h9 HO8 fz fm hn3 hn4 hN3 k1 k2 k3 k4
            have own1 := HO9.out.row
            rw [HLN.out] at own1
            have OWN1 : Hid (World.ownsRow (y4.setCell ⟨y2.heap.size, 1, none⟩ (.string sv)) w.heap.size 38 3 (.slice lo LN lc) LN (cs ats)) := own1
            have hsX : w.heap.size ≤ (y4.setCell ⟨y2.heap.size, 1, none⟩ (.string sv)).heap.size := h10.3.size
            obtain ⟨ia, hia, hza0, hza1, hza2⟩ := info_parts infoNN
            have hXs : (y4.setCell ⟨y2.heap.size, 1, none⟩ (.string sv)).heap.size = y4.heap.size := by simp [World.setCell, World.setRow]
            have HNW : ∀ ob, ((y4.setCell ⟨y2.heap.size, 1, none⟩ (.string sv)).alloc ob).heap[y4.heap.size]? = some ob := fun ob => by have := heap_alloc_new (y4.setCell ⟨y2.heap.size, 1, none⟩ (.string sv)) ob; rwa [hXs] at this
            rw [hXs] at hsX
            clear own1
            go_wp2_with (at_builtin; refine wpList_append_lies _ rfl _ _ _ rfl w.heap.size 38 ia _ 3 48 Try.underlying23 hia hza0 hza1 hza2 rfl (by omega) _ LN _ rfl (OWN1.out.alloc _) ⟨y4.heap.size, 0, Option.none⟩ 1 1 _ rfl (by rfl) (World.news_of_block (HNW _)) (by simp [Value.oneCell']) (by omega) (by unfold maxLen; omega) (by omega) (by first | omega | (simp <;> omega)) (y4.heap.size + 1) (by first | (simp; done) | (simp [World.setCell, World.setRow]; done)) ?_; intro g1 c1 w1 own1 gr1 hat1 hlt1)
            have B1 := grow3 (by rw [hXs]; exact hsX) OWN1.out gr1
            have hl5 := Lm.row h10 h.2 hgw B1
            have hp := own_push HO9.out HOK.out HB.out (by omega) (show sv.size ≤ 1048576 by omega) HTB.out (by have := HLN.out; omega) gr1 (by rw [HLN.out]; exact own1) (by rw [hXs]; exact hat1)
            have hcnt : m + cnt (er (ats ++ [AT.mk t sv (.slice none 0 0) []])) = M + 1 + cnt (er []) := by rw [er_append, cnt_app]; simp only [er, cnt]; have := HM.out; omega
            refine ⟨⟨z - 1, ats ++ [AT.mk t sv (.slice none 0 0) []], a4, rfl, by omega, by omega, ?_, ⟨?_, ?_⟩, ?_, ?_, ?_, ?_⟩, ?_⟩
            · have e : (ats ++ [AT.mk t sv (.slice none 0 0) []]).length = LN + 1 := by rw [List.length_append, HLN.out]; rfl
              rw [e] at hp
              exact hp
            · rw [er_append]
              exact good_app d _ _ HG.out.1 (by simp only [er, good]; exact ⟨⟨by omega, by rw [if_neg (by rw [HMK.out.1]; simp)]; exact ⟨HMK.out.2, by simp only [er]⟩⟩, trivial⟩)
            · rw [er_append]
              exact sm_app _ _ HG.out.2 (by simp only [er, sm]; exact ⟨⟨hsv, by simp only [er, sm]⟩, trivial⟩)
            · rw [hcnt]; have := HF.out; omega
            · have := HF.out; omega
            · have := HF.out; omega
            · rw [hcnt]; simp only [er, cnt, Nat.add_zero]; exact hl5
            · simp [intOf]; omega
          --ENDMAIN--
        · have g3' : ¬ (a' : Int) < (n : Int) := by omega
          go_wp2_with fail
          go_quiet (fail)
          have bq := below_drewN (Below.refl wr.heap.size wr) nq
          have hl2 := hl.below bq
          have ho2 := HO.out.below bq
          clear c0 c1 c2 fz HO bq
          generalize wr.drewN nq = y at *
          go_wp2
          go_ret
          exact ⟨_, ats, rfl, ho2, HG.out.1, HG.out.2, by rw [HM.out]; exact hfew, a', ha0, by have := HM.out; omega, by rw [HM.out]; exact hl2⟩
      · have HD : Hid (decide ((M : Int) < 60) = false) := decide_eq_false (by omega)
        go_wp2_with fail
        have hd2 := HD.out
        go_quiet (fail)
        have bq := below_drewN (Below.refl wr.heap.size wr) nq
        have hl2 := hl.below bq
        have ho2 := HO.out.below bq
        clear c0 c1 c2 fz HO bq
        generalize wr.drewN nq = y at *
        go_wp2
        go_ret
        exact ⟨_, ats, rfl, ho2, HG.out.1, HG.out.2, by rw [HM.out]; exact hfew, a', ha0, by have := HM.out; omega, by rw [HM.out]; exact hl2⟩
    · have HD : Hid (decide (0 < z) = false) := decide_eq_false g1
      clear g1
      go_wp2_with fail
      have hd2 := HD.out
      go_quiet (fail)
      have bq := below_drewN (Below.refl wr.heap.size wr) nq
      have hl2 := hl.below bq
      have ho2 := HO.out.below bq
      clear c0 c1 c2 fz HO bq
      generalize wr.drewN nq = y at *
      go_wp2
      go_ret
      exact ⟨_, ats, rfl, ho2, HG.out.1, HG.out.2, by rw [HM.out]; exact hfew, a', ha0, by have := HM.out; omega, by rw [HM.out]; exact hl2⟩
theorem list_all : ∀ f, ListC f := by
  intro f
  induction f with
  | zero => exact list_step (fun f' h => absurd h (by omega))
  | succ k ih => exact list_step (fun f' h => by obtain rfl : f' = k := by omega
                                                 exact ih)
end Go.Proofs.Ytgidjfhlooggkab.Ml
