import Derived.Test.YtgchdjjafgkcbaaQf09
import Derived.Test.YtgchdjjafgkcbaaQf04
import Derived.Deep.RegionLaw
import Derived.Deep.AppendLies
import Derived.Great.BuildSlice
/- A wheel of *turnstile/pending.held: put, Add. -/
namespace Go.Proofs.Ytgchdjjafgkcbaa.Gh
set_option linter.unusedVariables false
set_option linter.unusedSimpArgs false
open Go.RowKit Go.Maps Lib0 Kb Xp Ih Dh Eh Fh
attribute [local go_sem] Oper.semAt_some
theorem hidW {p : Prop} (h : p) : Hid p := h
theorem infoL : (Try.prog.info? tL).map (fun i => (i.zero, i.size, i.bytes)) = some (some (.agg #[.int .i64 0, .int .i64 0, Value.pointer none]), 3, 24) := by kernel_rfl
def upS (S : Nat → Value) (j : Nat) (v : Value) : Nat → Value := fun i => if i = j then v else S i
theorem slots_set (n : Nat) (S : Nat → Value) (j : Nat) (v : Value) : (((List.range n).map S).toArray).setIfInBounds j v = ((List.range n).map (upS S j v)).toArray := by
  apply Array.ext_getElem?
  intro i
  by_cases hi : i < n
  · rw [slots_at _ _ _ hi, Array.getElem?_setIfInBounds]
    by_cases e : j = i
    · subst e; simp [upS, hi]
    · rw [if_neg e, slots_at _ _ _ hi, upS, if_neg (fun x => e x.symm)]
  · rw [Array.getElem?_eq_none (by simp; omega), Array.getElem?_eq_none (by simp; omega)]
def PutPost (w : World) (b sb mb n : Nat) (S : Nat → Value) (c : Nat) (L : LT) (now last : Int) (x : XT) (w' : World) : Prop := ∃ S' D', Wm w' b sb mb n S' (c + 1) D' (L ++ [x]) now last ∧ FrP (Bk b sb mb n S) w w' ∧ ∀ g, Bk b sb mb n S' g → Bk b sb mb n S g ∨ w.heap.size ≤ g
theorem put_end {w z W5 y3 w1 : World} {b sb mb n : Nat} {S : Nat → Value} {c : Nat} {D : DataW Unit} {L : LT} {now last : Int} {x0 x1 : Int} {x2 : Value} {j gg ln cap : Nat} (hM : Wm w b sb mb n S c D L now last) (hMz : Wm z b sb mb n S c D L now last) (hx : lkG L x0 = none) (hj : x1.toNat % n = j) (hjn : j < n) (hln : (slotL L n j).length = ln) (hc : c + 1 ≤ last.toNat)
    (h5 : W5.heap[sb]? = some (.cells ((List.range n).map (upS S j (.slice (some ⟨gg, 0, none⟩) (ln + 1) cap))).toArray tS) ∧ (∀ g, g < z.heap.size → g ≠ sb → (S j).ownBlock ≠ some g → W5.heap[g]? = z.heap[g]?) ∧ W5.ownsRow 0 tL 3 (.slice (some ⟨gg, 0, none⟩) (ln + 1) cap) (ln + 1) (gc (slotL L n j) ++ gc [(x0, x1, x2)]) ∧ FrP (Bk b sb mb n S) w W5 ∧ ((S j).ownBlock = some gg ∨ w.heap.size < gg))
    (hb5 : W5.heap[b]? = some (.cells #[.slice (some ⟨sb, 0, none⟩) n n, .map (some mb), .int .i64 now, .int .i64 last] tW)) (hm5 : W5.ownsMap Try.prog tI (plainElem Try.prog tI) mb c D) (hy : Below W5.heap.size W5 y3) (ho : w1.ownsMap Try.prog tI (plainElem Try.prog tI) mb (c + 1) (D.put (.int .i64 x0) (.lit (.int .i64 x1)))) (ht : y3.mapTurned w1 mb) : PutPost w b sb mb n S c L now last (x0, x1, x2) w1 := by
  obtain ⟨f1, f2, f3, f4, f5⟩ := h5
  have kk : ∀ g o, W5.heap[g]? = some o → g ≠ mb → w1.heap[g]? = some o := fun g o hg hne => by
    have h3 := kept hy hg
    exact (ht.grown.block g (Array.getElem?_eq_some_iff.1 h3).1 (fun e => hne (by simpa using e))).trans h3
  have hown : ∀ (v : Value) k xs, W5.ownsRow 0 tL 3 v k xs → w1.ownsRow 0 tL 3 v k xs := fun v k xs hv => own_keep hv fun g hg => by
    obtain ⟨cy, hcy⟩ := own_ty hv hg
    rw [kk g _ hcy (map_ne hcy hm5), hcy]
  have hzw : ∀ i, i < n → ∀ g, (S i).ownBlock = some g → g < w.heap.size := fun i hi g hg => (hM.row_lt hi hg).1
  have hup : ∀ i, i ≠ j → upS S j (.slice (some ⟨gg, 0, none⟩) (ln + 1) cap) i = S i := fun i hi => by rw [upS, if_neg hi]
  have hupj : upS S j (.slice (some ⟨gg, 0, none⟩) (ln + 1) cap) j = .slice (some ⟨gg, 0, none⟩) (ln + 1) cap := by rw [upS, if_pos rfl]
  refine ⟨upS S j (.slice (some ⟨gg, 0, none⟩) (ln + 1) cap), D.put (.int .i64 x0) (.lit (.int .i64 x1)), ⟨kk b _ hb5 (map_ne hb5 hm5), kk sb _ f1 (map_ne f1 hm5), fun i hi => ?_, fun i k hi hk hne g hg hg2 => ?_, ho, hM.mp.put (x := (x0, x1, x2)) hx, hc⟩, ?_, ?_⟩
  · rw [slotL_add]
    by_cases e : i = j
    · subst e
      rw [if_pos hj, hupj, List.length_append, gc_append, hln]
      exact hown _ _ _ f3
    · rw [if_neg (by show ¬ x1.toNat % n = i; omega), hup i e]
      refine hown _ _ _ (own_keep (hMz.row i hi) fun g hg => ?_)
      have h1 := hMz.row_lt hi hg
      exact f2 g h1.1 h1.2.2.1 (hMz.apart i j hi hjn e g hg)
  · by_cases e : i = j
    · subst e
      rw [hupj] at hg
      rw [hup k (fun e => hne e.symm)] at hg2
      have eg : gg = g := by simpa [Value.ownBlock] using hg
      subst eg
      rcases f5 with e5 | e5
      · exact hM.apart i k hi hk hne gg e5 hg2
      · have := hzw k hk gg hg2; omega
    · rw [hup i e] at hg
      by_cases e2 : k = j
      · subst e2
        rw [hupj] at hg2
        have eg : gg = g := by simpa [Value.ownBlock] using hg2
        subst eg
        rcases f5 with e5 | e5
        · exact hM.apart i k hi hk hne gg hg e5
        · have := hzw i hi gg hg; omega
      · rw [hup k e2] at hg2
        exact hM.apart i k hi hk hne g hg hg2
  · exact (f4.behind hy).grown ht.grown (fun g hg => by cases hg; exact .inl (.inr (.inr (.inl rfl))))
  · rintro g (rfl | rfl | rfl | ⟨i, hi, hg⟩)
    · exact .inl (.inl rfl)
    · exact .inl (.inr (.inl rfl))
    · exact .inl (.inr (.inr (.inl rfl)))
    · by_cases e : i = j
      · subst e
        rw [hupj] at hg
        have eg : gg = g := by simpa [Value.ownBlock] using hg
        subst eg
        rcases f5 with e5 | e5
        · exact .inl (.inr (.inr (.inr ⟨i, hi, e5⟩)))
        · exact .inr (by omega)
      · rw [hup i e] at hg
        exact .inl (.inr (.inr (.inr ⟨i, hi, hg⟩)))
set_option maxRecDepth 100000 in
set_option maxHeartbeats 3200000 in
theorem put_m (w : World) (b sb mb n : Nat) (S : Nat → Value) (c : Nat) (D : DataW Unit) (L : LT) (now last : Int) (x : XT) (h : Wm w b sb mb n S c D L now last) (ok : Ok n L now last) (hone : x.2.2.oneCell' = true) (ht : 0 ≤ x.2.1) (hx : lkG L x.1 = none) (w1 : (Lit.int .i64 x.1).wf = true) (w2 : (Lit.int .i64 x.2.1).wf = true) (hc : c + 1 ≤ last.toNat) (hlen : L.length + 1 ≤ 5864062014805) :
    Calls Try.prog 46 #[.pointer (some ⟨b, 0, none⟩), agv x] w fun e w' => e = .returned (.tuple #[]) ∧ PutPost w b sb mb n S c L now last x w' := by
  obtain ⟨i0, hi, hz0, hz1, hz2⟩ := info_parts infoL
  obtain ⟨x0, x1, x2⟩ := x
  dsimp only at hone ht hx w1 w2
  have HM : Hid (Wm w b sb mb n S c D L now last) := h
  have HX : Hid (lkG L x0 = none) := hx
  obtain ⟨j, HJ⟩ : ∃ j, Hid (x1.toNat % n = j) := ⟨_, rfl⟩
  have hj : j < n := by rw [← HJ.out]; exact Nat.mod_lt _ (by have := ok.pos; omega)
  have HJN : Hid (j < n) := hj
  obtain ⟨y, hy⟩ : ∃ y, w.alloc (.cells #[.int .i64 x0, .int .i64 x1, x2] tL) = y := ⟨_, rfl⟩
  have HY : Hid (Below w.heap.size w y) := hy ▸ below_one _ _
  have HYX : Hid (y.heap[w.heap.size]? = some (.cells #[.int .i64 x0, .int .i64 x1, x2] tL)) := hy ▸ h1_0 _ _
  have hsl := slot_any y b sb mb n _ _ x1 (kept HY.out h.blk) ht ok.pos ok.top
  rw [HJ.out] at hsl
  have hst : ∀ (a : Addr) (m : Mode) (w : World), Sem.run Try.prog (store a x2 m) w = stored Try.prog w a x2 m := fun a m w => run_store Try.prog w a _ m hone
  have d1 : y.cell? ⟨w.heap.size, 1, none⟩ = some (.int .i64 x1) := by simp [World.cell?, HYX.out]
  have HLN : Hid (L.length + 1 ≤ 5864062014805) := hlen
  have HC : Hid (c + 1 ≤ last.toNat) := hc
  have HLAST : Hid (last ≤ 5864062014805) := ok.last1
  have HONE : Hid (x2.oneCell' = true) := hone
  have HON3 : Hid (∀ u ∈ ([.int .i64 x0, .int .i64 x1, x2] : List Value), u.oneCell' = true) := by
    intro u hu
    simp at hu
    rcases hu with rfl | rfl | rfl
    · rfl
    · rfl
    · exact hone
  have HKEY : Hid (keyOf Try.prog tI (.int .i64 x0) = some (.int .i64 x0)) := keyOf_int_mk Try.underlying3 w1
  have HVAL : Hid (plainElem (H := Unit) Try.prog tI (.int .i64 x1) = some (.lit (.int .i64 x1), [])) := plainElem_int Try.underlying3 w2
  clear h ok ht hx hj hlen hc w1 w2
  unfold agv
  go_enter Try.func46, Try.ntmps46
  go_wp2_with fail
  try rw [hy]
  refine hsl.mono ?_
  rintro e u ⟨rfl, m, hu⟩
  have HU : Hid (Below w.heap.size w u) := by
    subst hu
    exact Kb.below_drewN HY.out m
  have HUX : Hid (u.heap[w.heap.size]? = some (.cells #[.int .i64 x0, .int .i64 x1, x2] tL)) := by
    subst hu
    exact kept (Kb.below_drewN (Below.refl _ y) m) HYX.out
  have HUS : Hid (w.heap.size < u.heap.size) := (Array.getElem?_eq_some_iff.1 HUX.out).1
  have HUM : Hid (Wm u b sb mb n S c D L now last) := HM.out.keep fun g hg => HU.out.block g (HM.out.lt g hg)
  obtain ⟨o, cc, hv, hcc1, hcc2, hcc3⟩ := own_form (HM.out.row j HJN.out)
  obtain ⟨ln, HLL⟩ : ∃ ln, Hid ((slotL L n j).length = ln) := ⟨_, rfl⟩
  have HLE : Hid (ln ≤ L.length) := by
    show ln ≤ L.length
    rw [← HLL.out]; exact List.length_filter_le _ _
  have HO : Hid (u.ownsRow 0 tL 3 (.slice o ln cc) ln (gc (slotL L n j))) := by
    have := HUM.out.row j HJN.out
    rw [hv, HLL.out] at this
    exact this
  rw [HLL.out] at hv
  have HV : Hid (S j = .slice o ln cc) := hv
  have a0 : u.cell? ⟨sb, j, none⟩ = some (.slice o ln cc) := by rw [cell_of_row _ _ _ _ _ _ HUM.out.slots, slots_at _ _ _ HJN.out, hv]
  have b0 : u.cell? ⟨w.heap.size, 0, none⟩ = some (.int .i64 x0) := by simp [World.cell?, HUX.out]
  have b1 : u.cell? ⟨w.heap.size, 1, none⟩ = some (.int .i64 x1) := by simp [World.cell?, HUX.out]
  have b2 : u.cell? ⟨w.heap.size, 2, none⟩ = some x2 := by simp [World.cell?, HUX.out]
  obtain ⟨N0, HN0⟩ : ∃ N0, Hid (w.heap.size = N0) := ⟨_, rfl⟩
  rw [HN0.out] at b0 b1 b2
  obtain ⟨z, hz⟩ : ∃ z, (u.alloc (.cells #[.int .i64 x0, .int .i64 x1, x2] tL)).drew = z := ⟨_, rfl⟩
  have HZ : Hid (Below u.heap.size u z) := hz ▸ (below_one u _).drew
  have HZX : Hid (z.heap[u.heap.size]? = some (.cells #[.int .i64 x0, .int .i64 x1, x2] tL)) := hz ▸ h1_0 u _
  have HZS : Hid (z.heap.size = u.heap.size + 1) := hz ▸ World.size_alloc u _
  have HOZ : Hid (z.ownsRow 0 tL 3 (.slice o ln cc) ln (gc (slotL L n j))) := hz ▸ (HO.out.alloc _).drew
  have HZM : Hid (Wm z b sb mb n S c D L now last) := HUM.out.keep fun g hg => HZ.out.block g (HUM.out.lt g hg)
  have k0 : z.cell? ⟨sb, j, none⟩ = some (.slice o ln cc) := by rw [cell_of_row _ _ _ _ _ _ HZM.out.slots, slots_at _ _ _ HJN.out, hv]
  have HK : Hid (∀ z1 : World, z.grownBy z1 (Value.slice o ln cc).ownBlock → z1.heap[sb]? = some (.cells ((List.range n).map S).toArray tS)) := fun z1 hg => by
    refine (hg.block sb (Array.getElem?_eq_some_iff.1 HZM.out.slots).1 (fun e2 => ?_)).trans HZM.out.slots
    exact (HZM.out.row_lt HJN.out (g := sb) (by rw [HV.out]; exact e2.symm)).2.2.1 rfl
  have HKC : Hid (∀ z1 : World, z.grownBy z1 (Value.slice o ln cc).ownBlock → z1.cell? ⟨sb, j, none⟩ = some (.slice o ln cc) ∧ z1.frozen? ⟨sb, j, none⟩ = false) := fun z1 hg => by
    have e := HK.out z1 hg
    exact ⟨by rw [cell_of_row _ _ _ _ _ _ e, slots_at _ _ _ HJN.out, HV.out], frozen_of_row _ _ _ _ _ e⟩
  have a1 : u.drew.cell? ⟨sb, j, none⟩ = some (.slice o ln cc) := a0
  have b3 : u.drew.cell? ⟨N0, 0, none⟩ = some (.int .i64 x0) := b0
  have b4 : u.drew.cell? ⟨N0, 1, none⟩ = some (.int .i64 x1) := b1
  have b5 : u.drew.cell? ⟨N0, 2, none⟩ = some x2 := b2
  rw [HN0.out]
  clear hsl hy d1 hv hcc1 hcc2 hcc3 hu
  go_wp2_with fail
  go_region_law
    ((refine step_append_lies _ (by rfl) _ _ _ (by rfl) 0 tL i0 _ 3 24 Try.underlying108 hi hz0 hz1 hz2 rfl (by omega) _ ln (gc (slotL L n j)) (by rfl) HOZ.out ⟨u.heap.size, 0, none⟩ 1 1 _ (by rfl) (by rfl) (World.news_of_block HZX.out) (by exact HON3.out) (by omega) (by have := HLE.out; have := HLN.out; unfold maxLen; omega) (by have := HLE.out; have := HLN.out; omega) (Nat.zero_le _) z.heap.size rfl ?_; intro gg cap z1 hown1 hgrow hat hlt1; obtain ⟨g0, g1⟩ := HKC.out z1 hgrow; have HG := hidW (And.intro hown1 (And.intro hgrow hat)); clear hown1 hgrow hat hlt1))
  all_goals
    have HW5 : Hid (Below u.heap.size u z ∧ z1.heap[sb]? = some (.cells ((List.range n).map S).toArray tS)) := ⟨HZ.out, HK.out z1 HG.out.2.1⟩
    obtain ⟨W5, h5⟩ : ∃ W5, z1.setCell ⟨sb, j, none⟩ (.slice (some ⟨gg, 0, none⟩) (ln + 1) cap) = W5 := ⟨_, rfl⟩
    have HF5 : Hid (W5.heap[sb]? = some (.cells ((List.range n).map (upS S j (.slice (some ⟨gg, 0, none⟩) (ln + 1) cap))).toArray tS) ∧ (∀ g, g < z.heap.size → g ≠ sb → (S j).ownBlock ≠ some g → W5.heap[g]? = z.heap[g]?) ∧ W5.ownsRow 0 tL 3 (.slice (some ⟨gg, 0, none⟩) (ln + 1) cap) (ln + 1) (gc (slotL L n j) ++ gc [(x0, x1, x2)]) ∧ FrP (Bk b sb mb n S) w W5 ∧ ((S j).ownBlock = some gg ∨ w.heap.size < gg)) := by
      subst h5
      have hs5 := setCell_heap HW5.out.2 j (.slice (some ⟨gg, 0, none⟩) (ln + 1) cap)
      rw [slots_set] at hs5
      have hrl : ∀ g, (S j).ownBlock = some g → Bk b sb mb n S g := fun g hg => .inr (.inr (.inr ⟨j, HJN.out, hg⟩))
      refine ⟨hs5, fun g h1 h2 h3 => ?_, ?_, ?_, ?_⟩
      · rw [setCell_ne (fun e : sb = g => h2 e.symm)]
        exact HG.out.2.1.block g h1 (fun e => h3 (by rw [HV.out]; exact e.symm))
      · refine own_keep HG.out.1 fun g hg => setCell_ne (fun e : sb = g => ?_) _
        obtain ⟨cy, hcy⟩ := own_ty HG.out.1 hg
        exact ty_ne hcy HW5.out.2 (by decide) e.symm
      · refine ((((FrP.of HU.out).trans (FrP.of (B := fun _ => False) HZ.out) (fun _ hh => hh.elim)).grown HG.out.2.1 (fun g hg => .inl (hrl g (by rw [HV.out]; exact hg))))).set (p := ⟨sb, j, none⟩) (.inl (.inr (.inl rfl))) _
      · rcases HG.out.2.2 with e | e
        · exact .inl (by rw [HV.out]; exact e)
        · right
          have := HZS.out
          have := HUS.out
          omega
    have HBX5 : Hid (W5.heap[N0]? = some (.cells #[.int .i64 x0, .int .i64 x1, x2] tL)) := by
      have hx0 : z.heap[N0]? = some (.cells #[.int .i64 x0, .int .i64 x1, x2] tL) := kept HZ.out (HN0.out ▸ HUX.out)
      refine (HF5.out.2.1 N0 (Array.getElem?_eq_some_iff.1 hx0).1 (ty_ne hx0 HZM.out.slots (by decide)) (fun e => ?_)).trans hx0
      have := (HM.out.row_lt HJN.out e).1
      have := HN0.out
      omega
    have HB5 : Hid (W5.heap[b]? = some (.cells #[.slice (some ⟨sb, 0, none⟩) n n, .map (some mb), .int .i64 now, .int .i64 last] tW)) := by
      refine (HF5.out.2.1 b (Array.getElem?_eq_some_iff.1 HZM.out.blk).1 (ty_ne HZM.out.blk HZM.out.slots (by decide)) (fun e => ?_)).trans HZM.out.blk
      exact (HZM.out.row_lt HJN.out e).2.1 rfl
    have HM5 : Hid (W5.ownsMap Try.prog tI (plainElem Try.prog tI) mb c D) := by
      obtain ⟨es, cl, hk, r⟩ := HZM.out.map
      refine ⟨es, cl, (HF5.out.2.1 mb HZM.out.map.lt (fun e => map_ne HZM.out.slots HZM.out.map e.symm) (fun e => ?_)).trans hk, r⟩
      exact (HZM.out.row_lt HJN.out e).2.2.2 rfl
    have r1 : W5.cell? ⟨b, 1, none⟩ = some (.map (some mb)) := by simp [World.cell?, HB5.out]
    have r2 : W5.cell? ⟨N0, 0, none⟩ = some (.int .i64 x0) := by simp [World.cell?, HBX5.out]
    have r3 : W5.cell? ⟨N0, 1, none⟩ = some (.int .i64 x1) := by simp [World.cell?, HBX5.out]
    have l1 : b < W5.heap.size := (Array.getElem?_eq_some_iff.1 HB5.out).1
    have l2 : N0 < W5.heap.size := (Array.getElem?_eq_some_iff.1 HBX5.out).1
    clear a0 b0 b1 b2 a1 b3 b4 b5 k0
    go_wp2_with fail
    try rw [h5]
    clear g0 g1
    refine Qt.region_tail 8 0 (C := Ql.Cl W5) (by kernel_rfl) rfl (by kernel_rfl) (by kernel_rfl) (by kernel_rfl) ((Below.refl _ _).drew) ?_
    simp only [List.take_succ_cons, List.take_zero, List.drop_succ_cons, List.drop_zero]
    repeat (first | go_big_quiet_skip | (go_big_quiet_want; go_big_quiet_op; first | go_big_quiet_on | (refine ⟨_, fun _ _ => rfl, ?_⟩; go_big_quiet_on) | (refine ⟨_, fun _ _ => ⟨rfl, rfl⟩, ?_⟩; go_big_quiet_on)) | (refine wpQuiet_step (fun K hK => ?_); first
      | (refine Ql.q_cell (by rfl) 96 _ rfl b 1 rfl _ r1 l1 (fun y => Try.isAgg96 y) (hK _ ?_); clear hK K; simp only [Act.put, List.setIfInBounds_toArray, List.set_cons_succ, List.set_cons_zero])
      | (refine Ql.q_cell (by rfl) 3 _ rfl N0 0 rfl _ r2 l2 (fun y => Try.isAgg3 y) (hK _ ?_); clear hK K; simp only [Act.put, List.setIfInBounds_toArray, List.set_cons_succ, List.set_cons_zero])
      | (refine Ql.q_cell (by rfl) 3 _ rfl N0 1 rfl _ r3 l2 (fun y => Try.isAgg3 y) (hK _ ?_); clear hK K; simp only [Act.put, List.setIfInBounds_toArray, List.set_cons_succ, List.set_cons_zero])
      | fail))
    refine wpQuiet_nil ?_
    intro y3 hy3
    have HY3 : Hid (Below W5.heap.size W5 y3) := hy3
    have hown3 : y3.ownsMap Try.prog tI (plainElem Try.prog tI) mb c D := HM5.out.kept (row := none) ⟨hy3.os, hy3.tape, hy3.output, hy3.size, fun g hg _ => hy3.block g hg⟩ (by simp)
    clear hy3
    go_wp2_with (first | (at_mapUpdate; refine wpList_mapUpdate_in _ rfl _ _ _ 96 rfl tI tI law Try.underlying96 _ mb c D rfl hown3 (by have := HC.out; have := HLAST.out; unfold maxLen; omega) _ _ _ rfl rfl HKEY.out _ [] HVAL.out ?_; intro w1 hown1 hturn1) | fail)
    go_end0
    exact ⟨rfl, put_end HM.out HZM.out HX.out HJ.out HJN.out HLL.out HC.out HF5.out HB5.out HM5.out HY3.out hown1 hturn1⟩
end Go.Proofs.Ytgchdjjafgkcbaa.Gh
/- A wheel of *turnstile/pending.held: Add. -/
namespace Go.Proofs.Ytgchdjjafgkcbaa.Hh
set_option linter.unusedVariables false
set_option linter.unusedSimpArgs false
open Go.RowKit Go.Maps Lib0 Kb Xp Ih Dh Eh Fh Gh
attribute [local go_sem] Oper.semAt_some
/-- what has become of a wheel; what it has come to lie in is its own, or new -/
def Trn (w : World) (b : Nat) (B : Nat → Prop) (n : Nat) (L' : LT) (now' last' : Int) (w' : World) : Prop := ∃ B', Wl w' b B' n L' now' last' ∧ FrP B w w' ∧ ∀ g, B' g → B g ∨ w.heap.size ≤ g
theorem Wm.set {w : World} {b sb mb n : Nat} {S : Nat → Value} {c : Nat} {D : DataW Unit} {L : LT} {now last now' last' : Int} (h : Wm w b sb mb n S c D L now last) (k : Nat) (v : Value) (hk : #[Value.slice (some ⟨sb, 0, none⟩) n n, .map (some mb), .int .i64 now, .int .i64 last].setIfInBounds k v = #[Value.slice (some ⟨sb, 0, none⟩) n n, .map (some mb), .int .i64 now', .int .i64 last']) (hl : last ≤ last') : Wm (w.setCell ⟨b, k, none⟩ v) b sb mb n S c D L now' last' := by
  have hne : ∀ g, b ≠ g → (w.setCell ⟨b, k, none⟩ v).heap[g]? = w.heap[g]? := fun g hg => setCell_ne (p := ⟨b, k, none⟩) hg v
  refine ⟨?_, (hne sb (ty_ne h.blk h.slots (by decide))).trans h.slots, fun j hj => own_keep (h.row j hj) fun g hg => hne g (fun e => (h.row_lt hj hg).2.1 e.symm), h.apart, ?_, h.mp, ?_⟩
  · rw [setCell_heap h.blk, hk]
  · exact h.map.setCell (fun e => map_ne h.blk h.map e.symm) v
  · have := h.cnt; omega
theorem Wm.len {w : World} {b sb mb n : Nat} {S : Nat → Value} {c : Nat} {D : DataW Unit} {L : LT} {now last : Int} (h : Wm w b sb mb n S c D L now last) : L.length ≤ last.toNat := by
  have := h.mp.size
  have := h.map.size_le
  have := h.cnt
  omega
theorem Ok.up {n : Nat} {L : LT} {now last last' : Int} (h : Ok n L now last) (h1 : last ≤ last') (h2 : last' ≤ 5864062014805) : Ok n L now last' := ⟨h.pos, h.top, h.one, h.inc, fun x hx => by have := h.num x hx; omega, h.tik, h.now0, h.now1, by have := h.last0; omega, h2⟩
theorem Ok.none_new {n : Nat} {L : LT} {now last : Int} (h : Ok n L now last) : lkG L (last + 1) = none := lkG_none.2 fun x hx => by have := h.num x hx; omega
theorem Ok.add {n : Nat} {L : LT} {now last t : Int} {v : Value} (h : Ok n L now last) (hv : v.oneCell' = true) (h1 : 1 ≤ t) (h2 : t ≤ 100000) (h3 : last + 1 ≤ 5864062014805) : Ok n (L ++ [(last + 1, now + t, v)]) now (last + 1) := by
  refine ⟨h.pos, h.top, h.one.append (fun x hx => by simp at hx; rw [hx]; exact hv), ?_, fun x hx => ?_, fun x hx => ?_, h.now0, h.now1, by have := h.last0; omega, h3⟩
  · rw [Inc, List.pairwise_append]
    exact ⟨h.inc, by simp, fun x hx y hy => by simp at hy; rw [hy]; have := h.num x hx; show x.1 < last + 1; omega⟩
  · rcases List.mem_append.1 hx with hx | hx
    · have := h.num x hx; omega
    · simp at hx; rw [hx]; have := h.last0; constructor <;> dsimp only <;> omega
  · rcases List.mem_append.1 hx with hx | hx
    · exact h.tik x hx
    · simp at hx; rw [hx]; constructor <;> dsimp only <;> omega
theorem add_no (w : World) (b : Nat) (ticks : Int) (v : Value) (h : ticks < 1 ∨ 100000 < ticks) : Calls Try.prog 37 #[.pointer (some ⟨b, 0, none⟩), .int .i64 ticks, v] w fun e w' => e = .returned (.tuple #[.int .i64 0, .int .i64 1]) ∧ w' = w := by
  by_cases h1 : ticks < 1
  · clear h
    go_enter Try.func37, Try.ntmps37
    go_wp2
    go_ret2
    exact ⟨rfl, rfl⟩
  · have h2 : 100000 < ticks := by omega
    clear h
    go_enter Try.func37, Try.ntmps37
    go_wp2
    go_ret2
    exact ⟨rfl, rfl⟩
theorem wf64 {t : Int} (h0 : 0 ≤ t) (h1 : t ≤ 9223372036854775807) : (Lit.int .i64 t).wf = true := WalkArith.wf_i64 (by omega)
theorem build_any (a b : Int) (v : Value) (hv : v.oneCell' = true) : Try.prog.built tL [(0, .int .i64 a), (1, .int .i64 b), (2, v)] = some #[.int .i64 a, .int .i64 b, v] := by
  cases v <;> first | (simp [Value.oneCell'] at hv; done) | kernel_rfl
set_option maxRecDepth 100000 in
set_option maxHeartbeats 1600000 in
theorem add_yes (w : World) (b : Nat) (B : Nat → Prop) (n : Nat) (L : LT) (now last ticks : Int) (v : Value) (h : Wl w b B n L now last) (ok : Ok n L now last) (hv : v.oneCell' = true) (h1 : ¬ ticks < 1) (h2 : ¬ 100000 < ticks) (hl : last + 1 ≤ 5864062014805) :
    Calls Try.prog 37 #[.pointer (some ⟨b, 0, none⟩), .int .i64 ticks, v] w fun e w' => e = .returned (.tuple #[.int .i64 (last + 1), .int .i64 0]) ∧ Trn w b B n (L ++ [(last + 1, now + ticks, v)]) now (last + 1) w' := by
  obtain ⟨sb, mb, S, c, D, hm, hB⟩ := h
  have HB : Hid (∀ g, B g ↔ Bk b sb mb n S g) := hB
  have hb := hm.blk
  have c2 : w.cell? ⟨b, 2, none⟩ = some (.int .i64 now) := by simp [World.cell?, hb]
  have c3 : w.cell? ⟨b, 3, none⟩ = some (.int .i64 last) := by simp [World.cell?, hb]
  have f3 : w.frozen? ⟨b, 3, none⟩ = false := by simp [World.frozen?, hb]
  have n0 := ok.now0
  have n1 := ok.now1
  have l0 := ok.last0
  obtain ⟨y, hy⟩ : ∃ y, w.setCell ⟨b, 3, none⟩ (.int .i64 (last + 1)) = y := ⟨_, rfl⟩
  have hmy : Wm y b sb mb n S c D L now (last + 1) := hy ▸ Wm.set hm 3 _ rfl (by omega)
  have HF : Hid (FrP B w y) := hy ▸ (FrP.refl B w).set (p := ⟨b, 3, none⟩) (.inl ((hB b).2 (.inl rfl))) _
  have hln := Wm.len hm
  have d2 : y.cell? ⟨b, 2, none⟩ = some (.int .i64 now) := by simp [World.cell?, hmy.blk]
  have d3 : y.cell? ⟨b, 3, none⟩ = some (.int .i64 (last + 1)) := by simp [World.cell?, hmy.blk]
  have lb : b < y.heap.size := (Array.getElem?_eq_some_iff.1 hmy.blk).1
  have HPUT : Hid (∀ y3, Below y.heap.size y y3 → Calls Try.prog 46 #[.pointer (some ⟨b, 0, none⟩), agv (last + 1, now + ticks, v)] y3 fun e w' => e = .returned (.tuple #[]) ∧ PutPost y3 b sb mb n S c L now (last + 1) (last + 1, now + ticks, v) w') := fun y3 h3 =>
    put_m y3 b sb mb n S c D L now (last + 1) (last + 1, now + ticks, v) (hmy.keep fun g hg => h3.block g (hmy.lt g hg)) (Ok.up ok (by omega) (by omega)) hv (by show 0 ≤ now + ticks; omega) (Ok.none_new ok) (wf64 (by show 0 ≤ last + 1; omega) (by show last + 1 ≤ _; omega)) (wf64 (by show 0 ≤ now + ticks; omega) (by show now + ticks ≤ _; omega)) (by have := hm.cnt; omega) (by omega)
  have hcl : v.cells = #[v] := by cases v <;> first | (simp [Value.oneCell'] at hv; done) | rfl
  simp only [Value.cells] at hcl
  have s0 : last + 1 ≤ 9223372036854775807 := by omega
  have s1 : -9223372036854775808 ≤ last + 1 := by omega
  have s2 : now + ticks ≤ 9223372036854775807 := by omega
  have s3 : -9223372036854775808 ≤ now + ticks := by omega
  have wr1 : IntKind.i64.wrap (now + ticks) = now + ticks := by rw [IntKind.wrap_i64]; omega
  clear hm hb ok hB n0 n1 l0 hln hmy
  go_enter Try.func37, Try.ntmps37
  go_wp2_with fail
  try rw [hy]
  clear hy c2 c3 f3
  refine Qt.region_tail 13 0 (C := Ql.Cl y) (by kernel_rfl) rfl (by kernel_rfl) (by kernel_rfl) (by kernel_rfl) ((Below.refl _ _).drew) ?_
  simp only [List.take_succ_cons, List.take_zero, List.drop_succ_cons, List.drop_zero]
  repeat (first | go_big_quiet_skip | (go_big_quiet_want; go_big_quiet_op; first | go_big_quiet_on | (refine ⟨_, fun _ _ => rfl, ?_⟩; go_big_quiet_on) | (refine ⟨_, fun _ _ => ⟨rfl, rfl⟩, ?_⟩; go_big_quiet_on)) | (refine wpQuiet_step (fun K hK => ?_); first
    | (refine Ql.q_cell (by rfl) 3 _ rfl b 3 rfl _ d3 lb (fun y => Try.isAgg3 y) (hK _ ?_); clear hK K; simp only [Act.put, List.setIfInBounds_toArray, List.set_cons_succ, List.set_cons_zero])
    | (refine Ql.q_cell (by rfl) 3 _ rfl b 2 rfl _ d2 lb (fun y => Try.isAgg3 y) (hK _ ?_); clear hK K; simp only [Act.put, List.setIfInBounds_toArray, List.set_cons_succ, List.set_cons_zero])
    | fail))
  refine wpQuiet_nil ?_
  intro y3 hy3
  have HY3 : Hid (Below y.heap.size y y3) := hy3
  clear hy3
  go_wp2_with fail
  refine (HPUT.out y3 HY3.out).mono ?_
  rintro e z ⟨rfl, S', D', hz, hf, hg⟩
  have e3 : z.cell? ⟨b, 3, none⟩ = some (.int .i64 (last + 1)) := by simp [World.cell?, hz.blk]
  have HZ : Hid (Trn w b B n (L ++ [(last + 1, now + ticks, v)]) now (last + 1) z) := by
    refine ⟨Bk b sb mb n S', ⟨sb, mb, S', c + 1, D', hz, fun g => Iff.rfl⟩, ?_, ?_⟩
    · exact (HF.out.behind HY3.out).trans hf (fun g h => .inl ((HB.out g).2 h))
    · intro g hgg
      rcases hg g hgg with h | h
      · exact .inl ((HB.out g).2 h)
      · have := HF.out.size
        have := HY3.out.size
        exact .inr (by omega)
  clear hz hf hg d2 d3
  go_wp2_with fail
  go_ret2
  exact ⟨rfl, HZ.out⟩
end Go.Proofs.Ytgchdjjafgkcbaa.Hh
