/- The laws' lend: its walk. -/
import Derived.Test.YtgidjfhlooggkaaLe
import Derived.Test.YtgidjfhlooggkaaBs
namespace Go.Proofs.Ytgidjfhlooggkaa.Lw
set_option linter.unusedVariables false
set_option linter.unusedSimpArgs false
open Go.RowKit Kb Gd Nt Li Bo Bp Bq Bs Le
def PostE (w : World) (ts : List Tr) (e : Ending) (w' : World) : Prop := ∃ v ats, e = .returned v ∧ er ats = ts ∧ Lnt w' w.heap.size v ats ∧ Below w.heap.size w w'
def LendC (n : Nat) : Prop := ∀ (ts : List AT) (v : Value) (w : World), SizeOf.sizeOf ts < n → Rdn w v ts →
  Calls Try.prog 16 #[v] w (PostE w (er ts))
theorem er_take (ts : List AT) (i : Nat) (h : i < ts.length) : er (ts.take (i + 1)) = er (ts.take i) ++ er [ts[i]] := by
  rw [List.take_succ_eq_append_getElem h, er_append]
theorem Lnt.form {w : World} {base : Nat} {v : Value} {ts : List AT} (h : Lnt w base v ts) : ∃ o cap, v = .slice o ts.length cap := by
  obtain ⟨g, cap, e, _⟩ := h.row
  exact ⟨_, cap, e⟩
theorem bset {B : Nat} {a x : World} (h : Below B a x) {q : Nat} (hq : B ≤ q) (o : Nat) (v : Value) : Below B a (x.setCell ⟨q, o, none⟩ v) :=
  ⟨h.os, h.tape, h.output, by have := h.size; simpa [World.setCell] using this, fun k hk => (setCell_ne (by omega) o v).trans (h.block k hk)⟩
theorem blk3f {x : World} {g : Nat} {a b c : Value} {t : TypeId} (h : x.heap[g]? = some (.cells #[a, b, c] t)) : ∀ o, x.frozen? ⟨g, o, none⟩ = false := fun o => by simp [World.frozen?, h]
theorem grow3 {base e n size : Nat} {x y : World} {v : Value} {xs : List Value} {o : Obj} (hb : base ≤ x.heap.size) (ho : x.ownsRow base e size v n xs) (g : (x.alloc o).grownBy y v.ownBlock) : Below base x y :=
  ((Below.refl base x).alloc hb o).grown g (by simp; omega) fun k hk => (ho.lt k hk).1
set_option maxRecDepth 100000 in
set_option maxHeartbeats 3200000 in
theorem lend_step {n : Nat} (ih : LendC n) (ts : List AT) (v : Value) (w : World) (hsz : SizeOf.sizeOf ts < n + 1) (hr : Rdn w v ts) :
    Calls Try.prog 16 #[v] w (PostE w (er ts)) := by
  have HR : Hid (Rdn w v ts) := hr
  obtain ⟨o, cap, e, hN, -⟩ := hr.row
  obtain ⟨N, HN, hN2⟩ : ∃ N : Nat, Hid (ts.length = N) ∧ N ≤ 1048576 := ⟨_, rfl, hN⟩
  rw [HN.out] at e
  subst e
  obtain ⟨R, HRR⟩ : ∃ R, Hid (er ts = R) := ⟨_, rfl⟩
  rw [HRR.out]
  have HZ : Hid (SizeOf.sizeOf ts < n + 1) := hsz
  obtain ⟨ia, hia, hza0, hza1, hza2⟩ := info_parts infoNN
  clear hr hN hsz
  go_enter Try.func16, Try.ntmps16
  go_wp2
  go_loopw [3, 4] (fun vo vi wr => ∃ (i : Nat) (ats : List AT), i ≤ N ∧ vi = .int .i64 (i : Int) ∧ Half wr w.heap.size vo ats ∧ Hid (er ats = er (ts.take i)) ∧ Hid (ats.length = i) ∧ Below w.heap.size w wr) (fun _ vi _ => N - (intOf vi).toNat)
  case atStart => exact ⟨0, [], Nat.zero_le _, rfl, half_nil _ _, by show _ = _; simp, rfl, Below.refl _ _⟩
  case round =>
    obtain ⟨i, ats, hi, rfl, hh, HE, HLN, hwr⟩ := hrel
    rename World => wr
    have row1 := hh.row
    rw [HLN.out] at row1
    obtain ⟨uo, uc, rfl⟩ := formL row1
    have HH : Hid (Half wr w.heap.size (.slice uo i uc) ats) := hh
    have hsw : w.heap.size ≤ wr.heap.size := hwr.size
    clear hh
    by_cases hlt : i < N
    · have hlt' : (i : Int) < (N : Int) := by omega
      have hia2 : i < ts.length := by rw [HN.out]; exact hlt
      have ht := er_take ts i hia2
      have rd := HR.out.below hwr
      have ka := rdL_at ts i hia2 rd.kids
      have hzl := kids_lt hia2
      have hz0 := HZ.out
      obtain ⟨x, hx⟩ : ∃ y, y = ts[i] := ⟨_, rfl⟩
      obtain ⟨o', cap', e', _, hc2⟩ := rd.row
      obtain ⟨a, ea, q0, q1, q2⟩ := hc2 i hia2
      rw [HN.out] at e'
      obtain ⟨rfl, rfl⟩ : o = o' ∧ cap = cap' := by simpa using e'
      subst ea
      rw [← hx] at ht ka hzl q0 q1 q2
      clear hc2 e' hx rd
      cases x with
      | mk tag val kv ks =>
      simp only [AT.tag, AT.val, AT.kv, AT.kids] at ht ka hzl q0 q1 q2
      obtain ⟨lo, lc, hkv, -⟩ := ka.1.row
      obtain ⟨KL, HKL⟩ : ∃ L, Hid (ks.length = L) := ⟨_, rfl⟩
      rw [HKL.out] at hkv
      subst hkv
      have HT : Hid (er (ts.take (i + 1)) = er (ts.take i) ++ [.mk tag val (er ks)]) := by show _ = _; rw [ht]; simp [er]
      have hR := h1_0 wr (.cells zn 40)
      have hX := setRow_at hR #[.int .i64 tag, .string val, .slice lo KL lc]
      have B1 : Below wr.heap.size wr ((wr.alloc (.cells zn 40)).setRow wr.heap.size #[.int .i64 tag, .string val, .slice lo KL lc]) := below_setRow (below_one wr _) (Nat.le_refl _) _
      have ci := ih ks (.slice lo KL lc) _ (by omega) (ka.1.below B1)
      have hva := ka.2.1
      have htb := ka.2.2
      have bq2 := (B1.cell (World.block_lt_of_cell? wr _ q2)).trans q2
      have hsz1 : wr.heap.size < ((wr.alloc (.cells zn 40)).setRow wr.heap.size #[.int .i64 tag, .string val, .slice lo KL lc]).heap.size := (Array.getElem?_eq_some_iff.1 hX).1
      have HB1 : Hid (Below wr.heap.size wr ((wr.alloc (.cells zn 40)).setRow wr.heap.size #[.int .i64 tag, .string val, .slice lo KL lc])) := B1
      have HX : Hid (((wr.alloc (.cells zn 40)).setRow wr.heap.size #[.int .i64 tag, .string val, .slice lo KL lc]).heap[wr.heap.size]? = some (.cells #[.int .i64 tag, .string val, .slice lo KL lc] 40)) := hX
      clear ka hzl hz0 ht B1 hX row1
      go_wp2_with (refine wpList_store_row rfl 40 _ _ rfl wr.heap.size _ rfl rfl _ _ hR infoN rfl (by simp [Value.oneCell']) ?_)
      obtain ⟨BX, HBX⟩ : ∃ BX, Hid (wr.heap.size = BX) := ⟨_, rfl⟩
      obtain ⟨Y, HY⟩ : ∃ Y, Hid (Y = (wr.alloc (.cells zn 40)).setRow wr.heap.size #[.int .i64 tag, .string val, .slice lo KL lc]) := ⟨_, rfl⟩
      rw [← HY.out] at HX HB1 ci bq2 hsz1 ⊢
      rw [HBX.out] at HX hsz1 hsw HB1 ⊢
      clear HY hR q0 q1 q2
      refine ci.mono ?_
      clear ci bq2
      rintro _ z ⟨v2, bts, rfl, hbe, hl2, hbz⟩
      obtain ⟨ko, kc, rfl⟩ := Lnt.form hl2
      obtain ⟨LK, HLK⟩ : ∃ LK, Hid (bts.length = LK) := ⟨_, rfl⟩
      rw [HLK.out] at hl2 ⊢
      have hX4 : z.heap[BX]? = some (.cells #[.int .i64 tag, .string val, .slice lo KL lc] 40) := (hbz.block BX hsz1).trans HX.out
      have hX5 : (z.setCell ⟨BX, 2, none⟩ (.slice ko LK kc)).heap[BX]? = some (.cells #[.int .i64 tag, .string val, .slice ko LK kc] 40) := by rw [setCell_heap hX4]; rfl
      have bwz : Below w.heap.size w z := (hwr.trans (HB1.out.mono hsw)).trans (hbz.mono (by omega))
      have HWZ : Hid (Below w.heap.size w (z.setCell ⟨BX, 2, none⟩ (.slice ko LK kc))) := bset bwz hsw 2 _
      have HLT : Hid (∀ q ∈ (Value.slice uo i uc).ownBlock.toList ++ fp ats, q < BX) := fun q hq => by have := (HH.out.lt q hq).2; rw [HBX.out] at this; exact this
      have HHX : Hid (Half (z.setCell ⟨BX, 2, none⟩ (.slice ko LK kc)) w.heap.size (.slice uo i uc) ats) := HH.out.keep fun q hq => by
        have h1 := HLT.out q hq
        rw [setCell_ne (by omega) _ _, hbz.block q (by omega), HB1.out.block q h1]
      have HLX : Hid (Lnt (z.setCell ⟨BX, 2, none⟩ (.slice ko LK kc)) Y.heap.size (.slice ko LK kc) bts) := hl2.keep fun q hq => setCell_ne (by have := (hl2.lt q hq).1; omega) _ _
      obtain ⟨x0, x1, x2⟩ := blk3 hX4
      have xf2 := blk3f hX4 2
      obtain ⟨y0, y1, y2⟩ := blk3 hX5
      have hXs : (z.setCell ⟨BX, 2, none⟩ (.slice ko LK kc)).heap.size = z.heap.size := by simp [World.setCell]
      have HNW : ∀ ob, ((z.setCell ⟨BX, 2, none⟩ (.slice ko LK kc)).alloc ob).heap[z.heap.size]? = some ob := fun ob => by have := heap_alloc_new (z.setCell ⟨BX, 2, none⟩ (.slice ko LK kc)) ob; rwa [hXs] at this
      have hsX : w.heap.size ≤ z.heap.size := bwz.size
      have own1 := HHX.out.row
      rw [HLN.out] at own1
      have OWN1 : Hid (World.ownsRow (z.setCell ⟨BX, 2, none⟩ (.slice ko LK kc)) w.heap.size 40 3 (.slice uo i uc) i (cs ats)) := own1
      clear own1 hX4 hX5 hl2 bwz hbz
      go_wp2_with (at_builtin; refine halt ?_)
      intro _
      refine wpList_append_lies _ rfl _ _ _ rfl w.heap.size 40 ia _ 3 48 Try.underlying23 hia hza0 hza1 hza2 rfl (by omega) _ i _ rfl (OWN1.out.alloc _) ⟨z.heap.size, 0, Option.none⟩ 1 1 _ rfl (by rfl) (World.news_of_block (HNW _)) (by simp [Value.oneCell']) (by omega) (by unfold maxLen; omega) (by omega) (by simp [World.setCell]; omega) (z.heap.size + 1) (by simp [World.setCell]) ?_
      intro g1 c1 w1 own1 gr1 hat1 hlt1
      clear x0 x1 x2 xf2 y0 y1 y2
      go_wp2_with fail
      have gr3 : ((z.setCell ⟨BX, 2, none⟩ (.slice ko LK kc)).alloc (.cells #[.int .i64 tag, .string val, .slice ko LK kc] 40)).grownBy w1 (Value.slice uo i uc).ownBlock := gr1
      have hat2 : (Value.slice uo i uc).ownBlock = some g1 ∨ g1 = (z.setCell ⟨BX, 2, none⟩ (.slice ko LK kc)).heap.size + 1 := by
        rw [hXs]
        exact hat1
      have B1 := grow3 (by rw [hXs]; exact hsX) OWN1.out gr3
      have hp := half_push (t := tag) HHX.out HLX.out (fun q hq => by have := HLT.out q hq; omega) (by omega) hva htb gr3 (by rw [HLN.out]; exact own1) hat2
      have e1 : (ats ++ [AT.mk tag val (.slice ko LK kc) bts]).length = i + 1 := by rw [List.length_append, HLN.out]; rfl
      rw [e1] at hp
      exact ⟨⟨i + 1, _, by omega, by go_num, hp, by show _ = _; rw [er_append, HE.out, HT.out]; simp only [er, hbe], e1, HWZ.out.trans B1⟩, by simp [intOf]; omega⟩
    · have hlt' : ¬ (i : Int) < (N : Int) := by omega
      obtain rfl : i = N := by omega
      have HER : Hid (er ats = R) := by
        show _ = _
        rw [HE.out, List.take_of_length_le (by rw [HN.out]; exact Nat.le_refl _)]
        exact HRR.out
      have OWN1 : Hid (World.ownsRow wr w.heap.size 40 3 (.slice uo i uc) i (cs ats)) := row1
      have HWR : Hid (Below w.heap.size w wr) := hwr
      clear row1 hwr HE
      go_wp2_with (at_builtin; refine halt ?_)
      intro _
      have hsX := HWR.out.size
      refine wpList_append_lies _ rfl _ _ _ rfl w.heap.size 40 ia _ 3 48 Try.underlying23 hia hza0 hza1 hza2 rfl (by omega) _ i _ rfl (OWN1.out.alloc _) ⟨wr.heap.size, 0, Option.none⟩ 3 3 _ rfl (by rfl) (World.news_of_block (heap_alloc_new wr _)) (by simp [Value.oneCell']) (by omega) (by unfold maxLen; omega) (by omega) (by simp; omega) (wr.heap.size + 1) (by simp) ?_
      intro g1 c1 w1 own1 gr1 hat1 hlt1
      have gr3 : (wr.alloc (.cells #[.int .i64 (-7), .string ⟨#[]⟩, .slice none 0 0, .int .i64 (-7), .string ⟨#[]⟩, .slice none 0 0, .int .i64 (-7), .string ⟨#[]⟩, .slice none 0 0] 40)).grownBy w1 (Value.slice uo i uc).ownBlock := gr1
      have B1 := grow3 hsX OWN1.out gr3
      have hp := half_lent HH.out (by rw [HLN.out]; exact hN2) gr3 (by rw [HLN.out]; exact own1) hat1
      rw [HLN.out] at hp
      have HP : Hid (Lnt w1 w.heap.size (.slice (some ⟨g1, 0, none⟩) i c1) ats) := hp
      have HB : Hid (Below w.heap.size w w1) := HWR.out.trans B1
      have hcap : (i : Int) ≤ (c1 : Int) := by
        rcases own1.2 with ⟨e, _⟩ | ⟨g', cap', cur, e, _, _, hn, _⟩
        · cases e
        · injection e with e1 e2 e3
          omega
      clear own1 gr1 hat1 gr3 B1 hp
      go_wp2_with fail
      go_ret
      exact ⟨_, ats, rfl, HER.out, HP.out, HB.out⟩
theorem lend_all : ∀ n, LendC n
  | 0 => fun ts v w h => absurd h (Nat.not_lt_zero _)
  | n + 1 => fun ts v w hsz hr => lend_step (lend_all n) ts v w hsz hr
theorem lend_any (ts : List AT) (v : Value) (w : World) (hr : Rdn w v ts) : Calls Try.prog 16 #[v] w (PostE w (er ts)) := lend_all _ ts v w (Nat.lt_succ_self _) hr
end Go.Proofs.Ytgidjfhlooggkaa.Lw
