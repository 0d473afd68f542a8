/- The reader: a node, its kids, nodes. -/
import Derived.Test.YtgidjfhlooggkaaNp
import Derived.Test.YtgidjfhlooggkaaGh
import Derived.BigQuiet
namespace Go.Proofs.Ytgidjfhlooggkaa.Gj
set_option linter.unusedVariables false
set_option linter.unusedSimpArgs false
open Go.RowKit Kb Ga Gb Gc Gd Ge Gf Gg Gh Nt Np
def PostN (w : World) (g : Nat) (s : ByteArray) (e d : Nat) : NR → Ending → World → Prop
  | .bad y a, x, w' => x = .panicked (up y a) ∧ w.grownBy w' (some g)
  | .ok ts k b, x, w' => ∃ v ats, x = .returned v ∧ er ats = ts ∧ Own w' w.heap.size v ats ∧ Lft w g s (k : Int) (e : Int) (d : Int) (b : Int) w'
def PostO (w : World) (g : Nat) (s : ByteArray) (e d : Nat) : OR → Ending → World → Prop
  | .bad y a, x, w' => x = .panicked (up y a) ∧ w.grownBy w' (some g)
  | .ok t k b, x, w' => ∃ tag val kv ats, x = .returned (.agg #[.int .i64 tag, .string val, kv]) ∧ t = .mk tag val (er ats) ∧ Own w' w.heap.size kv ats ∧ val.size ≤ 1048576 ∧ tagB tag ∧ Lft w g s (k : Int) (e : Int) (d : Int) (b : Int) w'
def NodesC (s : ByteArray) (f : Nat) : Prop := ∀ (w : World) (g k e d b : Nat), Rd w g s (k : Int) (e : Int) (d : Int) (b : Int) → k ≤ e → e ≤ s.size → s.size ≤ 1048576 → b ≤ 500 → e - k ≤ f → d ≤ 8 →
  Calls Try.prog 35 #[.pointer (some ⟨g, 0, none⟩)] w (PostN w g s e d (nodesR s f k e (d + 1) b))
theorem own_back {w x y : World} {g : Nat} {v : Value} {ats : List AT} (hw : w.heap.size ≤ x.heap.size) (h : Own y x.heap.size v ats) : Own y w.heap.size v ats := h.base hw
set_option maxRecDepth 100000 in
theorem kids_any {s : ByteArray} {f : Nat} (ih : NodesC s f) {w : World} {g k e d b : Nat} (h : Rd w g s (k : Int) (e : Int) (d : Int) (b : Int)) (hk : k ≤ e) (he : e ≤ s.size) (hs : s.size ≤ 1048576) (hb : b ≤ 500) (n : Nat) (hn : k + n ≤ e) (hf : n ≤ f) (hd : d ≤ 8) :
    Calls Try.prog 94 #[.pointer (some ⟨g, 0, none⟩), .int .i64 (n : Int)] w (PostN w g s e d (nodesR s f k (k + n) (d + 1) b)) := by
  go_enter Try.func94, Try.ntmps94
  go_wp2_with fail
  refine (want_ok h n (by omega) (by omega) (by omega) (by omega) (by omega)).mono ?_
  rintro _ x ⟨rfl, hl⟩
  obtain ⟨⟨c0, c1, c2, c3, c4⟩, fz⟩ := hl.1.at
  have f1 := fz 2
  have hl2 := hl.then (left_set2 hl.1 ((k : Int) + (n : Int)))
  clear fz c0 c3 c4
  have hsz := hl.2.size
  go_wp2_with fail
  clear c1 c2 f1
  generalize x.setCell { block := g, off := 2 } (Value.int IntKind.i64 ((k : Int) + (n : Int))) = y at *
  have c := ih y g k (k + n) d b (by have := hl2.1; rw [show ((k + n : Nat) : Int) = (k : Int) + (n : Int) by omega]; exact this) (by omega) (by omega) hs hb (by omega) hd
  refine c.mono ?_
  have hsz2 := hl2.2.size
  have hgl : g < y.heap.size := (Array.getElem?_eq_some_iff.1 hl2.1).1
  have hgw : g < w.heap.size := (Array.getElem?_eq_some_iff.1 h).1
  intro en z hz
  generalize nodesR s f k (k + n) (d + 1) b = R at *
  cases R with
  | bad yy a =>
    obtain ⟨rfl, hg⟩ := hz
    exact ⟨rfl, rfl, gr_trans hl2.2 hg⟩
  | ok ts k' b' =>
    obtain ⟨v, ats, rfl, he, ho, hz⟩ := hz
    obtain ⟨⟨c0, c1, c2, c3, c4⟩, fz⟩ := hz.1.at
    have f1 := fz 2
    have hl3 := (hl2.then hz).then (left_set2 hz.1 (e : Int))
    have ho2 : Own (z.setCell ⟨g, 2, none⟩ (.int .i64 (e : Int))) w.heap.size v ats := (ho.base hsz2).keep fun q hq => setCell_ne (by have := (ho.lt q hq).1; omega) _ _
    clear fz c0 c1 c3 c4 c
    go_wp2_with fail
    go_ret
    exact ⟨v, ats, rfl, he, ho2, hl3⟩
set_option maxRecDepth 100000 in
theorem kids_bad {w : World} {g k : Nat} {s : ByteArray} {e d b : Int} (h : Rd w g s (k : Int) e d b) (n : Int) (hn : ¬ n ≤ e - (k : Int)) (h1 : (k : Int) ≤ 1048576) (h2 : 0 ≤ e) (h3 : e ≤ 1048576) :
    Calls Try.prog 94 #[.pointer (some ⟨g, 0, none⟩), .int .i64 n] w fun x w' => x = .panicked (up 10 e) ∧ w.grownBy w' (some g) := by
  go_enter Try.func94, Try.ntmps94
  go_wp2_with fail
  refine (want_bad h n (by omega) (by omega) h1 h2 h3).mono ?_
  rintro _ x ⟨rfl, hg⟩
  exact ⟨rfl, rfl, hg⟩
theorem left_row {w z : World} {g R : Nat} {s : ByteArray} {a e d b : Int} (h : Lft w g s a e d b z) (hg : g < w.heap.size) (hR : w.heap.size ≤ R) (c : Array Value) : Lft w g s a e d b (z.setRow R c) :=
  ⟨(setRow_ne (by omega) c).trans h.1, ⟨h.2.os, h.2.tape, h.2.output, by have := h.2.size; simpa [World.setRow] using this, fun k hk hne => (setRow_ne (by omega) c).trans (h.2.block k hk hne)⟩⟩
theorem left_below {w y z : World} {g : Nat} {s : ByteArray} {a e d b : Int} (h : Lft w g s a e d b y) (hg : g < w.heap.size) (hb : Below w.heap.size y z) : Lft w g s a e d b z :=
  ⟨(hb.block g hg).trans h.1, ⟨hb.os.trans h.2.os, hb.tape.trans h.2.tape, hb.output.trans h.2.output, Nat.le_trans h.2.size hb.size, fun k hk hne => (hb.block k hk).trans (h.2.block k hk hne)⟩⟩
theorem grow3 {base e n size : Nat} {x y : World} {v : Value} {xs : List Value} {o : Obj} (hb : base ≤ x.heap.size) (ho : x.ownsRow base e size v n xs) (g : (x.alloc o).grownBy y v.ownBlock) : Below base x y :=
  ((Below.refl base x).alloc hb o).grown g (by simp; omega) fun k hk => (ho.lt k hk).1
theorem infoN : (Try.prog.info? 40).map (·.size) = some 3 := by kernel_rfl
abbrev zn : Array Value := #[.int .i64 0, .string ⟨#[]⟩, .slice none 0 0]
set_option maxRecDepth 100000 in
set_option maxHeartbeats 1600000 in
theorem node_any {s : ByteArray} {f : Nat} (ih : NodesC s f) {w : World} {g k e d b : Nat} (h : Rd w g s (k : Int) (e : Int) (d : Int) (b : Int)) (hk : k < e) (he : e ≤ s.size) (hs : s.size ≤ 1048576) (hb : b ≤ 500) (hf : e - k ≤ f + 1) (hd : d ≤ 9) :
    Calls Try.prog 67 #[.pointer (some ⟨g, 0, none⟩)] w (PostO w g s e d (oneR (nodesR s f) s k e d b)) := by
  have hgw : g < w.heap.size := (Array.getElem?_eq_some_iff.1 h).1
  have hl0 : Lft w g s (k : Int) (e : Int) (d : Int) (b : Int) (w.alloc (.cells zn 40)) := ⟨h.next (below_one w _), gr_below (below_one w _) _⟩
  have hu := h1_0 w (.cells zn 40)
  have hsu : (w.alloc (.cells zn 40)).heap.size = w.heap.size + 1 := by simp
  by_cases h5 : b < 500
  case neg =>
    rw [show oneR (nodesR s f) s k e d b = .bad 93 k by unfold oneR; rw [if_neg h5]]
    go_enter Try.func67, Try.ntmps67
    go_wp2_with fail
    generalize w.alloc (.cells zn 40) = u at *
    refine (begin_bad hl0.1 (by omega)).mono ?_
    rintro _ x ⟨rfl, hg⟩
    exact ⟨rfl, rfl, gr_trans hl0.2 hg⟩
  by_cases h8 : d ≤ 8
  case neg =>
    rw [show oneR (nodesR s f) s k e d b = .bad 92 k by unfold oneR; rw [if_pos h5, if_neg h8]]
    go_enter Try.func67, Try.ntmps67
    go_wp2_with fail
    generalize w.alloc (.cells zn 40) = u at *
    refine (begin_ok hl0.1 (by omega) (by omega)).mono ?_
    rintro _ x ⟨rfl, hl⟩
    obtain ⟨⟨c0, c1, c2, c3, c4⟩, fz⟩ := hl.1.at
    have hgl : g < x.heap.size := (Array.getElem?_eq_some_iff.1 hl.1).1
    clear fz c0 c2 c4
    go_wp2_with fail
    refine Ql.region_lastL (C := Ql.Cl x) (by kernel_rfl) rfl (by kernel_rfl) (by kernel_rfl) (by kernel_rfl) rfl ((Below.refl _ _).drew) ?_
    dsimp only [List.dropLast]
    repeat (first | go_big_quiet_skip | (go_big_quiet_want; go_big_quiet_op; first | go_big_quiet_on | (refine ⟨_, fun _ _ => rfl, ?_⟩; go_big_quiet_on) | (refine ⟨_, fun _ _ => ⟨rfl, rfl⟩, ?_⟩; go_big_quiet_on)) | (refine wpQuiet_step (fun K hK => ?_); first
      | (refine Ql.q_cell (by rfl) 3 _ rfl g 1 rfl _ c1 hgl (fun y => Try.isAgg3 y) (hK _ ?_); clear hK K; simp only [Act.put, List.setIfInBounds_toArray, List.set_cons_succ, List.set_cons_zero])
      | (refine Ql.q_cell (by rfl) 3 _ rfl g 3 rfl _ c3 hgl (fun y => Try.isAgg3 y) (hK _ ?_); clear hK K; simp only [Act.put, List.setIfInBounds_toArray, List.set_cons_succ, List.set_cons_zero])
      | fail))
    refine wpQuiet_nil ?_
    intro y1 hy1
    go_simp
    rw [show decide ((d : Int) ≤ 8) = false from decide_eq_false (by omega)]
    refine (must_bad _ _ _).mono ?_
    rintro _ z ⟨rfl, rfl⟩
    exact ⟨rfl, rfl, gr_trans hl0.2 (gr_trans hl.2 (gr_below hy1 _))⟩
  rw [show oneR (nodesR s f) s k e d b = headR (nodesR s f) s k e d b by unfold oneR; rw [if_pos h5, if_pos h8]]
  obtain ⟨R0, HR⟩ : ∃ R0, Hid (headR (nodesR s f) s k e d b = R0) := ⟨_, rfl⟩
  rw [HR.out]
  go_enter Try.func67, Try.ntmps67
  go_wp2_with fail
  generalize w.alloc (.cells zn 40) = u at *
  have hgu : g < u.heap.size := by omega
  refine (begin_ok hl0.1 (by omega) (by omega)).mono ?_
  rintro _ x ⟨rfl, hl⟩
  obtain ⟨⟨c0, c1, c2, c3, c4⟩, fz⟩ := hl.1.at
  have d8 : (d : Int) ≤ 8 := by omega
  clear fz c0 c2 c4
  go_wp2_with fail
  go_quiet ((go_at_call 66; exact Calls.quiet_of_same (must_ok _ _ _)))
  have hl2 := left_drew hl nq
  clear c1 c3
  generalize x.drewN nq = y at *
  go_wp2_with fail
  refine (tag_any hl2.1 (by omega) (by omega) (by omega)).mono ?_
  intro en z hz
  cases hT : tagR s k e with
  | bad yy a =>
    rw [hT] at hz
    obtain ⟨rfl, hg⟩ := hz
    refine ⟨rfl, ?_⟩
    rw [show R0 = .bad yy a by rw [← HR.out]; unfold headR; rw [hT]]
    exact ⟨rfl, gr_trans hl0.2 (gr_trans hl2.2 hg)⟩
  | ok t k1 =>
    rw [hT] at hz
    obtain ⟨rfl, hl3⟩ := hz
    replace hl3 := hl2.then hl3
    have aT := tagR_ok hT
    have HT : Hid (tagR s k e = .ok t k1) := hT
    clear hT
    go_wp2_with fail
    refine (length_any hl3.1 (by omega) (by omega) (by omega)).mono ?_
    intro en z2 hz
    cases hL : lenR s k1 e with
    | bad yy a =>
      rw [hL] at hz
      obtain ⟨rfl, hg⟩ := hz
      refine ⟨rfl, ?_⟩
      rw [show R0 = .bad yy a by rw [← HR.out]; unfold headR; rw [HT.out]; simp only; rw [hL]]
      exact ⟨rfl, gr_trans hl0.2 (gr_trans hl3.2 hg)⟩
    | ok n k2 =>
      rw [hL] at hz
      obtain ⟨rfl, hl4⟩ := hz
      replace hl4 := hl3.then hl4
      have aL := lenR_ok hL
      obtain ⟨N, rfl⟩ : ∃ N : Nat, n = (N : Int) := ⟨n.toNat, by omega⟩
      have HC : Hid (R0 = conR (nodesR s f) s t (N : Int) k2 e d b) := by show _ = _; rw [← HR.out]; unfold headR; rw [HT.out]; simp only; rw [hL]
      clear hL HR HT
      go_wp2_with fail
      refine (marked_any t _ (by omega)).mono ?_
      rintro _ z3 ⟨rfl, hz3⟩
      have hl5 : Lft u g s (k2 : Int) (e : Int) (d : Int) ((b : Int) + 1) z3 := hl4.then ⟨hl4.1.next hz3, gr_below hz3 _⟩
      have hsz5 := hl5.2.size
      clear hl hl2 hl3 hl4 hz3
      by_cases hm : mkd t = true
      · rw [hm]
        by_cases hn : (N : Int) ≤ (e : Int) - (k2 : Int)
        · have HD : Hid (R0 = match nodesR s f k2 (k2 + N) (d + 1) (b + 1) with
            | .bad y a => .bad y a
            | .ok ks _ b2 => .ok (.mk t mt ks) (k2 + N) b2) := by show _ = _; rw [HC.out]; unfold conR; rw [if_pos hn, if_pos hm]; rfl
          have ck := kids_any ih (w := z3) (g := g) (k := k2) (e := e) (d := d) (b := b + 1) (by have := hl5.1; rw [show ((b + 1 : Nat) : Int) = (b : Int) + 1 by omega]; exact this) (by omega) he hs (by omega) N (by omega) (by omega) h8
          have hEnd := fun ts k' b' => nodesR_end (s := s) f k2 (k2 + N) (d + 1) (b + 1) ts k' b' (by omega) (by omega)
          clear hn
          go_wp2_with fail
          refine ck.mono ?_
          intro en z4 hz
          generalize nodesR s f k2 (k2 + N) (d + 1) (b + 1) = R at *
          cases R with
          | bad yy a =>
            obtain ⟨rfl, hg⟩ := hz
            refine ⟨rfl, ?_⟩
            rw [show R0 = .bad yy a from HD.out]
            exact ⟨rfl, gr_trans hl0.2 (gr_trans hl5.2 hg)⟩
          | ok ts k' b' =>
            obtain ⟨v, ats, rfl, he2, ho, hz⟩ := hz
            clear ck
            obtain rfl := hEnd ts k' b' rfl
            obtain ⟨o, cap, rfl⟩ := ho.form
            obtain ⟨L, HL⟩ : ∃ L, Hid (ats.length = L) := ⟨_, rfl⟩
            rw [HL.out] at ho
            rw [HL.out]
            have hend := hl5.then hz
            have hR : z4.heap[w.heap.size]? = some (.cells zn 40) := (hend.2.block _ (by omega) (by intro e; injection e with e; omega)).trans hu
            clear hEnd hz hl5
            go_wp2_with (refine wpList_store_row rfl 40 _ _ rfl w.heap.size _ rfl rfl _ _ hR infoN rfl (by simp [Value.oneCell']) ?_)
            refine bodyPost_ret (v := .agg #[.int .i64 t, .string mt, .slice o L cap]) (results_cell_row rfl _ _ w.heap.size _ _ _ _ rfl (setRow_at hR _) Try.underlying40 rfl infoN) rfl ?_
            rw [HD.out]
            exact ⟨t, mt, _, ats, rfl, by rw [he2], (ho.keep fun q hq => setRow_ne (by have := (ho.lt q hq).1; omega) _).base (by omega), by decide, ⟨by omega, by omega⟩, left_row (hl0.then hend) hgw (Nat.le_refl _) _⟩
        · have HD : Hid (R0 = .bad 10 e) := by show _ = _; rw [HC.out]; unfold conR; rw [if_neg hn]
          go_wp2_with fail
          refine (kids_bad hl5.1 N (by omega) (by omega) (by omega) (by omega)).mono ?_
          rintro _ z4 ⟨rfl, hg⟩
          refine ⟨rfl, ?_⟩
          rw [HD.out]
          exact ⟨rfl, gr_trans hl0.2 (gr_trans hl5.2 hg)⟩
      · have hm' : mkd t = false := by simpa using hm
        rw [hm']
        by_cases hn : (N : Int) ≤ (e : Int) - (k2 : Int)
        · have HD : Hid (R0 = .ok (.mk t (s.extract k2 (k2 + N)) []) (k2 + N) (b + 1)) := by show _ = _; rw [HC.out]; unfold conR; rw [if_pos hn, if_neg hm]; rfl
          have tx := text_ok hl5.1 hn (by omega) (by omega) hs
          clear hn
          go_wp2_with fail
          refine tx.mono ?_
          rintro _ z4 ⟨rfl, hl6⟩
          have hend := hl5.then hl6
          have hR : z4.heap[w.heap.size]? = some (.cells zn 40) := (hend.2.block _ (by omega) (by intro e; injection e with e; omega)).trans hu
          clear hl5 hl6
          go_wp2_with (refine wpList_store_row rfl 40 _ _ rfl w.heap.size _ rfl rfl _ _ hR infoN rfl (by simp [Value.oneCell']) ?_)
          refine bodyPost_ret (v := .agg #[.int .i64 t, .string (s.extract k2 (k2 + N)), .slice none 0 0]) (results_cell_row rfl _ _ w.heap.size _ _ _ _ rfl (setRow_at hR _) Try.underlying40 rfl infoN) rfl ?_
          rw [HD.out]
          exact ⟨t, _, _, [], rfl, by simp only [er], own_nil _ _, by rw [ByteArray.size_extract]; omega, ⟨by omega, by omega⟩, left_row (hl0.then hend) hgw (Nat.le_refl _) _⟩
        · have HD : Hid (R0 = .bad 10 e) := by show _ = _; rw [HC.out]; unfold conR; rw [if_neg hn]
          go_wp2_with fail
          refine (text_bad hl5.1 N (by omega) (by omega) (by omega) (by omega)).mono ?_
          rintro _ z4 ⟨rfl, hg⟩
          refine ⟨rfl, ?_⟩
          rw [HD.out]
          exact ⟨rfl, gr_trans hl0.2 (gr_trans hl5.2 hg)⟩
theorem infoNN : (Try.prog.info? 40).map (fun i => (i.zero, i.size, i.bytes)) = some (some (.agg zn), 3, 48) := by kernel_rfl
def numAt (x : World) (b o : Nat) : Int := intOf ((x.cell? ⟨b, o, none⟩).getD undef)
theorem numAt_rd {x : World} {g : Nat} {s : ByteArray} {a e d b : Int} (h : Rd x g s a e d b) : numAt x g 1 = a := by unfold numAt; rw [h.at.1.2.1]; rfl
set_option maxRecDepth 100000 in
set_option maxHeartbeats 1600000 in
theorem nodes_step {s : ByteArray} {f : Nat} (ih : ∀ m, m < f → NodesC s m) (hs : s.size ≤ 1048576) : ∀ (w : World) (g k e d b : Nat), Rd w g s (k : Int) (e : Int) (d : Int) (b : Int) → k ≤ e → e ≤ s.size → b ≤ 500 → e - k ≤ f → d ≤ 8 →
    Calls Try.prog 35 #[.pointer (some ⟨g, 0, none⟩)] w (PostN w g s e d (nodesR s f k e (d + 1) b)) := by
  intro w g k e d b h hk he hb hf hd
  have hgw : g < w.heap.size := (Array.getElem?_eq_some_iff.1 h).1
  obtain ⟨R0, HR⟩ : ∃ R0, Hid (nodesR s f k e (d + 1) b = R0) := ⟨_, rfl⟩
  rw [HR.out]
  obtain ⟨⟨c0, c1, c2, c3, c4⟩, fz⟩ := h.at
  have f3 := fz 3
  have hl0 : Lft w g s (k : Int) (e : Int) ((d : Int) + 1) (b : Int) (w.setCell ⟨g, 3, none⟩ (.int .i64 ((d : Int) + 1))) := left_set3 h _
  clear c0 c1 c2 c4 fz
  go_enter Try.func35, Try.ntmps35
  go_wp2_with fail
  clear c3 f3
  generalize w.setCell { block := g, off := 3 } (Value.int IntKind.i64 ((d : Int) + 1)) = u at *
  go_loopw [3] (fun lv wr => ∃ (ats : List AT) (k' b' f' : Nat), Own wr w.heap.size lv ats ∧ Lft w g s (k' : Int) (e : Int) ((d : Int) + 1) (b' : Int) wr ∧ k' ≤ e ∧ b' ≤ 500 ∧ ats.length ≤ b' ∧ e - k' ≤ f' ∧ f' ≤ f ∧ Hid (R0 = preR (er ats) (nodesR s f' k' e (d + 1) b'))) (fun _ wr => ((e : Int) - numAt wr g 1).toNat)
  case atStart => exact ⟨[], k, b, f, own_nil _ _, hl0, hk, hb, Nat.zero_le _, hf, Nat.le_refl _, by show _ = _; rw [← HR.out]; simp only [er]; rw [preR_nil]⟩
  case round =>
    obtain ⟨ats, k', b', f', ho, hl, hk', hb', hlen, hf', hff, HP⟩ := hrel
    rename World => wr
    have hnum := numAt_rd hl.1
    obtain ⟨⟨c0, c1, c2, c3, c4⟩, fz⟩ := hl.1.at
    have f3 := fz 3
    clear c0 c4 fz
    obtain ⟨o, cap, rfl⟩ := ho.form
    by_cases hlt : k' < e
    · have hlt' : (k' : Int) < (e : Int) := by omega
      obtain ⟨f2, rfl⟩ : ∃ f2, f' = f2 + 1 := ⟨f' - 1, by omega⟩
      have HQ : Hid (R0 = preR (er ats) (thenR (oneR (nodesR s f2) s k' e (d + 1) b') (fun k2 b2 => nodesR s f2 k2 e (d + 1) b2))) := by show _ = _; rw [HP.out, nodesR_step hlt]
      have hone := fun tr k2 b2 => oneR_ok (rec := nodesR s f2) (fun k e d b ts k' b' hb h => nodesR_ok f2 k e d b ts k' b' hb h) (s := s) (k := k') (e := e) (d := d + 1) (b := b') (tr := tr) (k' := k2) (b' := b2)
      clear HP HR c3 f3
      go_wp2_with fail
      go_quiet (fail)
      have bq := below_drewN (Below.refl wr.heap.size wr) nq
      have hl2 := left_drew hl nq
      have ho2 := ho.below bq
      clear c1 c2 bq
      generalize wr.drewN nq = x at *
      have hsx := hl2.2.size
      go_wp2_with fail
      refine (node_any (ih f2 (by omega)) (d := d + 1) (by have := hl2.1; rw [show ((d + 1 : Nat) : Int) = (d : Int) + 1 by omega]; exact this) hlt he hs hb' (by omega) (by omega)).mono ?_
      intro en y hy
      generalize oneR (nodesR s f2) s k' e (d + 1) b' = R at *
      cases R with
      | bad yy a =>
        obtain ⟨rfl, hg⟩ := hy
        refine ⟨rfl, ?_⟩
        rw [show R0 = .bad yy a from HQ.out]
        exact ⟨rfl, gr_trans hl2.2 hg⟩
      | ok tr k2 b2 =>
        obtain ⟨tag, val, kv, aks, rfl, htr, hok, hval, htag, hl3⟩ := hy
        have ha := hone tr k2 b2 rfl
        have hl4 := hl2.then (show Lft x g s (k2 : Int) (e : Int) ((d : Int) + 1) (b2 : Int) y by have := hl3; rw [show ((d + 1 : Nat) : Int) = (d : Int) + 1 by omega] at this; exact this)
        have ho3 : Own y w.heap.size (.slice o ats.length cap) ats := ho2.keep fun q hq => hl3.2.block q (ho2.lt q hq).2 (by have := (ho2.lt q hq).1; intro e; injection e with e; omega)
        obtain ⟨ko, kc, rfl⟩ := hok.form
        obtain ⟨ia, hia, hza0, hza1, hza2⟩ := info_parts infoNN
        obtain ⟨LN, HLN, hLN⟩ : ∃ LN, Hid (ats.length = LN) ∧ LN ≤ 500 := ⟨_, rfl, by omega⟩
        obtain ⟨LK, HLK⟩ : ∃ LK, Hid (aks.length = LK) := ⟨_, rfl⟩
        rw [HLK.out] at hok
        rw [HLK.out]
        have HO3 : Hid (Own y w.heap.size (.slice o ats.length cap) ats) := ho3
        have HOK : Hid (Own y x.heap.size (.slice ko LK kc) aks) := hok
        have own1 := ho3.row
        rw [HLN.out] at own1
        have OWN1 : Hid (World.ownsRow y w.heap.size 40 3 (.slice o LN cap) LN (cs ats)) := own1
        have hsy : w.heap.size ≤ y.heap.size := hl4.2.size
        have HB : Hid (∀ q ∈ (Value.slice o ats.length cap).ownBlock.toList ++ fp ats, q < x.heap.size) := fun q hq => (ho2.lt q hq).2
        have HA : Hid (k' + 2 ≤ k2 ∧ k2 ≤ e ∧ b' < b2 ∧ b2 ≤ 500) := ha
        have HN : Hid (ats.length ≤ b') := hlen
        rw [HLN.out]
        clear own1 ho ho2 ho3 hok hl hl2 hl3 hone ha hlen
        go_wp2_with (at_builtin; refine wpList_append_lies _ rfl _ _ _ rfl w.heap.size 40 ia _ 3 48 Try.underlying23 hia hza0 hza1 hza2 rfl (by omega) _ LN _ rfl (OWN1.out.alloc _) ⟨y.heap.size, 0, Option.none⟩ 1 1 _ rfl (by rfl) (World.news_of_block (heap_alloc_new y _)) (by simp [Value.oneCell']) (by omega) (by unfold maxLen; omega) (by omega) (by first | omega | (simp <;> omega)) (y.heap.size + 1) (by simp) ?_; intro g1 c1 w1 own1 gr1 hat1 hlt1)
        have B1 := grow3 hsy OWN1.out gr1
        have hl5 := left_below hl4 hgw B1
        have gr2 : (y.alloc (.cells #[.int .i64 tag, .string val, .slice ko LK kc] 40)).grownBy w1 (Value.slice o ats.length cap).ownBlock := by
          have := gr1
          rw [HLN.out]
          exact this
        have hat2 : (Value.slice o ats.length cap).ownBlock = some g1 ∨ g1 = y.heap.size + 1 := by
          have := hat1
          rw [HLN.out]
          exact this
        have hp := own_push HO3.out HOK.out HB.out (by omega) hval htag (by have := HLN.out; omega) gr2 (by rw [HLN.out]; exact own1) hat2
        have hnum2 := numAt_rd hl5.1
        obtain ⟨a1, a2, a3, a4⟩ := HA.out
        have hn := HN.out
        refine ⟨⟨ats ++ [.mk tag val (.slice ko LK kc) aks], k2, b2, f2, ?_, hl5, a2, a4, ?_, ?_, ?_, ?_⟩, ?_⟩
        · have e : (ats ++ [AT.mk tag val (.slice ko LK kc) aks]).length = LN + 1 := by rw [List.length_append, HLN.out]; rfl
          rw [e] at hp
          exact hp
        · rw [List.length_append]; simp only [List.length_cons, List.length_nil]; omega
        · omega
        · omega
        · show _ = _
          rw [HQ.out, er_append, htr]
          simp only [thenR, er]
          rw [preR_and]
        · rw [hnum, hnum2]; omega
    · have hlt' : ¬ (k' : Int) < (e : Int) := by omega
      have HQ : Hid (R0 = .ok (er ats) k' b') := by show _ = _; rw [HP.out, nodesR_done hlt]; simp only [preR, List.append_nil]
      clear HP HR
      obtain ⟨LN, HLN, hLN⟩ : ∃ LN, Hid (ats.length = LN) ∧ LN ≤ 500 := ⟨_, rfl, by omega⟩
      have HO : Hid (Own wr w.heap.size (.slice o ats.length cap) ats) := ho
      rw [HLN.out]
      clear ho hlen
      go_wp2_with fail
      go_quiet (fail)
      have bq := below_drewN (Below.refl wr.heap.size wr) nq
      have hl2 := left_drew hl nq
      have ho2 := HO.out.below bq
      clear c1 c2 c3 f3 bq
      generalize wr.drewN nq = x at *
      obtain ⟨⟨c0, c1, c2, c3, c4⟩, fz⟩ := hl2.1.at
      have f3 := fz 3
      have hl3 := hl2.then (left_set3 hl2.1 (d : Int))
      have HO3 : Hid (Own (x.setCell ⟨g, 3, none⟩ (.int .i64 (d : Int))) w.heap.size (.slice o ats.length cap) ats) := ho2.keep fun q hq => setCell_ne (by have := (ho2.lt q hq).1; omega) _ _
      have hdd : (d : Int) + 1 - 1 = (d : Int) := by omega
      clear c0 c1 c2 c4 fz ho2 HO
      go_wp2_with fail
      go_ret
      rw [HQ.out]
      exact ⟨_, ats, rfl, rfl, by rw [← HLN.out]; exact HO3.out, hl3⟩
theorem nodes_all (s : ByteArray) (hs : s.size ≤ 1048576) : ∀ f, NodesC s f := by
  intro f
  induction f using Nat.strongRecOn with
  | ind f ih =>
    intro w g k e d b h hk he _ hb hf hd
    exact nodes_step ih hs w g k e d b h hk he hb hf hd
end Go.Proofs.Ytgidjfhlooggkaa.Gj
