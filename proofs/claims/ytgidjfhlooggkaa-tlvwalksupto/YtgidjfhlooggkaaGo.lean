/- Sub-elements are read. -/
import Derived.Test.YtgidjfhlooggkaaGl
import Derived.Test.YtgidjfhlooggkaaGn
import Derived.Shelf.Abstract
namespace Go.Proofs.Ytgidjfhlooggkaa.Go_
set_option linter.unusedVariables false
set_option linter.unusedSimpArgs false
open Go.RowKit Kb Ga Gb Gc Gd Ge Gf Gg Gh Gj Gl Gn Nt Np
def vis (c : UInt8) : Bool := decide (32 ≤ c.toNat ∧ c.toNat ≤ 126)
/-- how many bytes stand ahead of the first one that can't be seen -/
def seen (s : ByteArray) : Nat := Lib0.fuL vis s.data.toList
theorem seen_le (s : ByteArray) : seen s ≤ s.size := by
  have := Lib0.fuL_le vis s.data.toList
  unfold seen; simpa using this
theorem take_snoc_all {p : UInt8 → Bool} (s : ByteArray) (k : Nat) (h : k < s.size) (ha : (s.data.toList.take k).all p = true) (hp : p s[k] = true) : (s.data.toList.take (k + 1)).all p = true := by
  rw [Lib0.take_snoc s k h, List.all_append, ha]; simp [hp]
set_option maxRecDepth 100000 in
theorem seen_any (s : ByteArray) (w : World) (hs : s.size ≤ 4194304) :
    Calls Try.prog 79 #[.string s] w fun e w' => e = .returned (.int .i64 (seen s : Int)) ∧ w' = w := by
  go_enter Try.func79, Try.ntmps79
  go_wp2
  go_loop [6] (fun i => ∃ k : Nat, k ≤ s.size ∧ i = .int .i64 k ∧ Hid ((s.data.toList.take k).all vis = true)) (fun i => s.size - (intOf i).toNat)
  case atStart => exact ⟨0, Nat.zero_le _, rfl, rfl⟩
  case round =>
    obtain ⟨k, hk, rfl, Hal⟩ := hrel
    by_cases hlt : k < s.size
    · obtain ⟨C, hC⟩ : ∃ C : Int, C = (s[k].toNat : Int) := ⟨_, rfl⟩
      by_cases h1 : C < 32
      · have HE : Hid (seen s = k) := Lib0.fuL_hit vis _ k (by simpa using hlt) Hal.out (by
          show vis s[k] = false
          unfold vis; simp; omega)
        have h1' : (s[k].toNat : Int) < 32 := by omega
        clear hC h1
        go_wp2
        go_ret
        exact ⟨by rw [HE.out]; rfl, rfl⟩
      · by_cases h2 : C ≤ 126
        · have HV : Hid (vis s[k] = true) := by
            show vis s[k] = true
            unfold vis; simp; omega
          have h1' : ¬ (s[k].toNat : Int) < 32 := by omega
          have h2' : ¬ 126 < (s[k].toNat : Int) := by omega
          clear hC h1 h2
          go_wp2
          go_round
          case rel => exact ⟨k + 1, by omega, by go_num, take_snoc_all s k hlt Hal.out HV.out⟩
          case measure => simp [intOf]; omega
        · have HE : Hid (seen s = k) := Lib0.fuL_hit vis _ k (by simpa using hlt) Hal.out (by
            show vis s[k] = false
            unfold vis; simp; omega)
          have h1' : ¬ (s[k].toNat : Int) < 32 := by omega
          have h2' : 126 < (s[k].toNat : Int) := by omega
          clear hC h1 h2
          go_wp2
          go_ret
          exact ⟨by rw [HE.out]; rfl, rfl⟩
    · have HE : Hid (seen s = s.size) := by
        have := Hal.out
        rw [Lib0.take_all s k (by omega)] at this
        have e := Lib0.fuL_all vis _ this
        show seen s = s.size
        unfold seen; rw [e]; simp
      go_wp2
      go_ret
      exact ⟨by rw [HE.out]; rfl, rfl⟩
/-- one sub-element -/
def subR (s : ByteArray) (k e b : Nat) : OR :=
  if b < 500 then match pairR s k e 90 with
    | .bad y a => .bad y a
    | .ok t k1 => match pairR s k1 e 91 with
      | .bad y a => .bad y a
      | .ok n k2 => if n ≤ (e : Int) - (k2 : Int) then
          if seen (s.extract k2 (k2 + n.toNat)) = n.toNat then .ok (.mk t (s.extract k2 (k2 + n.toNat)) []) (k2 + n.toNat) (b + 1) else .bad 11 ((k2 : Int) + (seen (s.extract k2 (k2 + n.toNat)) : Int))
        else .bad 10 e
  else .bad 93 k
def subsR (s : ByteArray) : Nat → Nat → Nat → Nat → NR
  | 0, k, e, b => .ok [] k b
  | f + 1, k, e, b => if k < e then thenR (subR s k e b) (fun k' b' => subsR s f k' e b') else .ok [] k b
theorem subR_ok {s : ByteArray} {k e b : Nat} {tr : Tr} {k' b' : Nat} (h : subR s k e b = .ok tr k' b') : k + 4 ≤ k' ∧ k' ≤ e ∧ b' = b + 1 ∧ b' ≤ 500 := by
  unfold subR at h
  split at h
  · cases e1 : pairR s k e 90 with
    | bad y a => rw [e1] at h; exact absurd h (by simp)
    | ok t k1 =>
      rw [e1] at h
      simp only at h
      cases e2 : pairR s k1 e 91 with
      | bad y a => rw [e2] at h; exact absurd h (by simp)
      | ok n k2 =>
        rw [e2] at h
        simp only at h
        have a1 := pairR_ok e1
        have a2 := pairR_ok e2
        obtain ⟨rfl, _⟩ := a1
        obtain ⟨rfl, _⟩ := a2
        split at h
        · split at h
          · injection h with h1 h2 h3
            omega
          · exact absurd h (by simp)
        · exact absurd h (by simp)
  · exact absurd h (by simp)
theorem subsR_step {s : ByteArray} {f k e b : Nat} (h : k < e) : subsR s (f + 1) k e b = thenR (subR s k e b) (fun k' b' => subsR s f k' e b') := by
  conv => lhs; unfold subsR
  rw [if_pos h]
theorem subsR_done {s : ByteArray} {f k e b : Nat} (h : ¬ k < e) : subsR s f k e b = .ok [] k b := by
  cases f with
  | zero => unfold subsR; rfl
  | succ f => unfold subsR; rw [if_neg h]
set_option maxRecDepth 100000 in
set_option maxHeartbeats 1600000 in
theorem sub_any {s : ByteArray} {w : World} {g k e d b : Nat} (h : Rd w g s (k : Int) (e : Int) (d : Int) (b : Int)) (hk : k < e) (he : e ≤ s.size) (hs : s.size ≤ 1048576) (hb : b ≤ 500) :
    Calls Try.prog 78 #[.pointer (some ⟨g, 0, none⟩)] w (PostO w g s e d (subR s k e b)) := by
  have hgw : g < w.heap.size := (Array.getElem?_eq_some_iff.1 h).1
  have hl0 : Lft w g s (k : Int) (e : Int) (d : Int) (b : Int) (w.alloc (.cells zn 40)) := ⟨h.next (below_one w _), gr_below (below_one w _) _⟩
  have hu := h1_0 w (.cells zn 40)
  have hsu : (w.alloc (.cells zn 40)).heap.size = w.heap.size + 1 := by simp
  by_cases h5 : b < 500
  case neg =>
    rw [show subR s k e b = .bad 93 k by unfold subR; rw [if_neg h5]]
    go_enter Try.func78, Try.ntmps78
    go_wp2_with fail
    generalize w.alloc (.cells zn 40) = u at *
    refine (begin_bad hl0.1 (by omega)).mono ?_
    rintro _ x ⟨rfl, hg⟩
    exact ⟨rfl, rfl, gr_trans hl0.2 hg⟩
  obtain ⟨R0, HR⟩ : ∃ R0, Hid (subR s k e b = R0) := ⟨_, rfl⟩
  rw [HR.out]
  go_enter Try.func78, Try.ntmps78
  go_wp2_with fail
  generalize w.alloc (.cells zn 40) = u at *
  have hgu : g < u.heap.size := by omega
  refine (begin_ok hl0.1 (by omega) (by omega)).mono ?_
  rintro _ x ⟨rfl, hl⟩
  go_wp2_with fail
  refine (pair_any hl.1 (by omega) (by omega) (by omega) 90).mono ?_
  intro en z hz
  cases hT : pairR s k e 90 with
  | bad yy a =>
    rw [hT] at hz
    obtain ⟨rfl, hg⟩ := hz
    refine ⟨rfl, ?_⟩
    rw [show R0 = .bad yy a by rw [← HR.out]; unfold subR; rw [if_pos h5, hT]]
    exact ⟨rfl, gr_trans hl0.2 (gr_trans hl.2 hg)⟩
  | ok t k1 =>
    rw [hT] at hz
    obtain ⟨rfl, hl3⟩ := hz
    replace hl3 := hl.then hl3
    obtain ⟨a1, a2, a3, a4, -⟩ := pairR_ok hT
    have HT : Hid (pairR s k e 90 = .ok t k1) := hT
    clear hT
    have HE : Hid (k1 = k + 2) := a1
    clear a1
    go_wp2_with fail
    refine (pair_any hl3.1 a2 (by omega) (by omega) 91).mono ?_
    intro en z2 hz
    cases hL : pairR s k1 e 91 with
    | bad yy a =>
      rw [hL] at hz
      obtain ⟨rfl, hg⟩ := hz
      refine ⟨rfl, ?_⟩
      rw [show R0 = .bad yy a by rw [← HR.out]; unfold subR; rw [if_pos h5, HT.out]; simp only; rw [hL]]
      exact ⟨rfl, gr_trans hl0.2 (gr_trans hl3.2 hg)⟩
    | ok n k2 =>
      rw [hL] at hz
      obtain ⟨rfl, hl4⟩ := hz
      replace hl4 := hl3.then hl4
      obtain ⟨b1, b2, b3, b4, -⟩ := pairR_ok hL
      obtain ⟨N, rfl⟩ : ∃ N : Nat, n = (N : Int) := ⟨n.toNat, by omega⟩
      have HC : Hid (R0 = if (N : Int) ≤ (e : Int) - (k2 : Int) then
          if seen (s.extract k2 (k2 + N)) = N then .ok (.mk t (s.extract k2 (k2 + N)) []) (k2 + N) (b + 1) else .bad 11 ((k2 : Int) + (seen (s.extract k2 (k2 + N)) : Int))
        else .bad 10 e) := by show _ = _; rw [← HR.out]; unfold subR; rw [if_pos h5, HT.out]; simp only; rw [hL]; simp only [Int.toNat_natCast]
      clear hL HR HT b1 HE hl hl3
      obtain ⟨⟨c0, c1, c2, c3, c4⟩, fz⟩ := hl4.1.at
      clear c0 c2 c3 c4 fz
      by_cases hn : (N : Int) ≤ (e : Int) - (k2 : Int)
      · have HD : Hid (R0 = if seen (s.extract k2 (k2 + N)) = N then .ok (.mk t (s.extract k2 (k2 + N)) []) (k2 + N) (b + 1) else .bad 11 ((k2 : Int) + (seen (s.extract k2 (k2 + N)) : Int))) := by show _ = _; rw [HC.out, if_pos hn]
        have tx := text_ok hl4.1 hn (by omega) (by omega) hs
        have hsz : (s.extract k2 (k2 + N)).size = N := by rw [ByteArray.size_extract]; omega
        have hle := seen_le (s.extract k2 (k2 + N))
        rw [hsz] at hle
        have sn := fun y => seen_any (s.extract k2 (k2 + N)) y (by omega)
        have HSZ : Hid ((s.extract k2 (k2 + N)).size ≤ 1048576) := by show _ ≤ _; omega
        clear hn HC hsz
        generalize s.extract k2 (k2 + N) = X at *
        obtain ⟨S, HS, hS⟩ : ∃ S : Nat, Hid (seen X = S) ∧ S ≤ N := ⟨_, rfl, hle⟩
        rw [HS.out] at HD
        simp only [HS.out] at sn
        clear hle
        go_wp2_with fail
        refine tx.mono ?_
        rintro _ z4 ⟨rfl, hl6⟩
        have hend := hl4.then hl6
        have hR : z4.heap[w.heap.size]? = some (.cells zn 40) := (hend.2.block _ (by omega) (by intro e; injection e with e; omega)).trans hu
        clear hl4 hl6 tx c1
        go_wp2_with fail
        refine (sn z4).mono ?_
        rintro _ z5 ⟨rfl, h5⟩
        rw [h5]
        clear h5 z5 sn
        by_cases hSN : S = N
        · have HQ : Hid (R0 = .ok (.mk t X []) (k2 + N) (b + 1)) := by show _ = _; rw [HD.out, if_pos hSN]
          subst hSN
          go_wp2_with fail
          refine (must_ok _ _ _).mono ?_
          rintro _ y ⟨rfl, hy⟩
          rw [hy]; clear hy y
          go_wp2_with (refine wpList_store_row rfl 40 _ _ rfl w.heap.size _ rfl rfl _ _ hR infoN rfl (by simp [Value.oneCell']) ?_)
          refine bodyPost_ret (v := .agg #[.int .i64 t, .string X, .slice none 0 0]) (results_cell_row rfl _ _ w.heap.size _ _ _ _ rfl (setRow_at hR _) Try.underlying40 rfl infoN) rfl ?_
          rw [HQ.out]
          exact ⟨t, _, _, [], rfl, by simp only [er], own_nil _ _, HSZ.out, ⟨by omega, by omega⟩, left_row (hl0.then hend) hgw (Nat.le_refl _) _⟩
        · have HQ : Hid (R0 = .bad 11 ((k2 : Int) + (S : Int))) := by show _ = _; rw [HD.out, if_neg hSN]
          have dS : ((S : Int) == (N : Int)) = false := by simp; omega
          go_wp2_with fail
          refine (must_bad _ _ _).mono ?_
          rintro _ y ⟨rfl, hy⟩
          rw [hy]; clear hy y
          refine ⟨rfl, ?_⟩
          rw [HQ.out]
          exact ⟨rfl, gr_trans hl0.2 hend.2⟩
      · have HD : Hid (R0 = .bad 10 e) := by show _ = _; rw [HC.out, if_neg hn]
        go_wp2_with fail
        refine (text_bad hl4.1 N (by omega) (by omega) (by omega) (by omega)).mono ?_
        rintro _ z4 ⟨rfl, hg⟩
        refine ⟨rfl, ?_⟩
        rw [HD.out]
        exact ⟨rfl, gr_trans hl0.2 (gr_trans hl4.2 hg)⟩
set_option maxRecDepth 100000 in
set_option maxHeartbeats 1600000 in
theorem subs_all {s : ByteArray} {f : Nat} (hs : s.size ≤ 1048576) : ∀ (w : World) (g k e d b : Nat), Rd w g s (k : Int) (e : Int) (d : Int) (b : Int) → k ≤ e → e ≤ s.size → b ≤ 500 → e - k ≤ f →
    Calls Try.prog 43 #[.pointer (some ⟨g, 0, none⟩)] w (PostN w g s e d (subsR s f k e b)) := by
  intro w g k e d b h hk he hb hf
  have hgw : g < w.heap.size := (Array.getElem?_eq_some_iff.1 h).1
  obtain ⟨R0, HR⟩ : ∃ R0, Hid (subsR s f k e b = R0) := ⟨_, rfl⟩
  rw [HR.out]
  have hl0 : Lft w g s (k : Int) (e : Int) (d : Int) (b : Int) w := ⟨h, gr_refl _ _⟩
  go_enter Try.func43, Try.ntmps43
  go_wp2_with fail
  go_loopw [3] (fun lv wr => ∃ (ats : List AT) (k' b' f' : Nat), Own wr w.heap.size lv ats ∧ Lft w g s (k' : Int) (e : Int) (d : Int) (b' : Int) wr ∧ k' ≤ e ∧ b' ≤ 500 ∧ ats.length ≤ b' ∧ e - k' ≤ f' ∧ f' ≤ f ∧ Hid (R0 = preR (er ats) (subsR s f' k' e b'))) (fun _ wr => ((e : Int) - numAt wr g 1).toNat)
  case atStart => exact ⟨[], k, b, f, own_nil _ _, hl0, hk, hb, Nat.zero_le _, hf, Nat.le_refl _, by show _ = _; rw [← HR.out]; simp only [er]; rw [preR_nil]⟩
  case round =>
    obtain ⟨ats, k', b', f', ho, hl, hk', hb', hlen, hf', hff, HP⟩ := hrel
    rename World => wr
    have hnum := numAt_rd hl.1
    obtain ⟨⟨c0, c1, c2, c3, c4⟩, fz⟩ := hl.1.at
    have f3 := fz 3
    clear c0 c4 fz
    obtain ⟨o, cap, rfl⟩ := ho.form
    by_cases hlt : k' < e
    · have hlt' : (k' : Int) < (e : Int) := by omega
      obtain ⟨f2, rfl⟩ : ∃ f2, f' = f2 + 1 := ⟨f' - 1, by omega⟩
      have HQ : Hid (R0 = preR (er ats) (thenR (subR s k' e b') (fun k2 b2 => subsR s f2 k2 e b2))) := by show _ = _; rw [HP.out, subsR_step hlt]
      have hone := fun tr k2 b2 => subR_ok (s := s) (k := k') (e := e) (b := b') (tr := tr) (k' := k2) (b' := b2)
      clear HP HR c3 f3
      go_wp2_with fail
      go_quiet (fail)
      have bq := below_drewN (Below.refl wr.heap.size wr) nq
      have hl2 := left_drew hl nq
      have ho2 := ho.below bq
      clear c1 c2 bq
      generalize wr.drewN nq = x at *
      have hsx := hl2.2.size
      go_wp2_with fail
      refine (sub_any (d := d) hl2.1 hlt he hs hb').mono ?_
      intro en y hy
      generalize subR s k' e b' = R at *
      cases R with
      | bad yy a =>
        obtain ⟨rfl, hg⟩ := hy
        refine ⟨rfl, ?_⟩
        rw [show R0 = .bad yy a from HQ.out]
        exact ⟨rfl, gr_trans hl2.2 hg⟩
      | ok tr k2 b2 =>
        obtain ⟨tag, val, kv, aks, rfl, htr, hok, hval, htag, hl3⟩ := hy
        have ha := hone tr k2 b2 rfl
        have hl4 := hl2.then hl3
        have ho3 : Own y w.heap.size (.slice o ats.length cap) ats := ho2.keep fun q hq => hl3.2.block q (ho2.lt q hq).2 (by have := (ho2.lt q hq).1; intro e; injection e with e; omega)
        obtain ⟨ko, kc, rfl⟩ := hok.form
        obtain ⟨ia, hia, hza0, hza1, hza2⟩ := info_parts infoNN
        obtain ⟨LN, HLN, hLN⟩ : ∃ LN, Hid (ats.length = LN) ∧ LN ≤ 500 := ⟨_, rfl, by omega⟩
        obtain ⟨LK, HLK⟩ : ∃ LK, Hid (aks.length = LK) := ⟨_, rfl⟩
        rw [HLK.out] at hok
        rw [HLK.out]
        have HO3 : Hid (Own y w.heap.size (.slice o ats.length cap) ats) := ho3
        have HOK : Hid (Own y x.heap.size (.slice ko LK kc) aks) := hok
        have own1 := ho3.row
        rw [HLN.out] at own1
        have OWN1 : Hid (World.ownsRow y w.heap.size 40 3 (.slice o LN cap) LN (cs ats)) := own1
        have hsy : w.heap.size ≤ y.heap.size := hl4.2.size
        have HB : Hid (∀ q ∈ (Value.slice o ats.length cap).ownBlock.toList ++ fp ats, q < x.heap.size) := fun q hq => (ho2.lt q hq).2
        have HA : Hid (k' + 2 ≤ k2 ∧ k2 ≤ e ∧ b' < b2 ∧ b2 ≤ 500) := ⟨by omega, ha.2.1, by omega, ha.2.2.2⟩
        have HN : Hid (ats.length ≤ b') := hlen
        rw [HLN.out]
        clear own1 ho ho2 ho3 hok hl hl2 hl3 hone ha hlen
        go_wp2_with (at_builtin; refine wpList_append_lies _ rfl _ _ _ rfl w.heap.size 40 ia _ 3 48 Try.underlying23 hia hza0 hza1 hza2 rfl (by omega) _ LN _ rfl (OWN1.out.alloc _) ⟨y.heap.size, 0, Option.none⟩ 1 1 _ rfl (by rfl) (World.news_of_block (heap_alloc_new y _)) (by simp [Value.oneCell']) (by omega) (by unfold maxLen; omega) (by omega) (by first | omega | (simp <;> omega)) (y.heap.size + 1) (by simp) ?_; intro g1 c1 w1 own1 gr1 hat1 hlt1)
        have B1 := grow3 hsy OWN1.out gr1
        have hl5 := left_below hl4 hgw B1
        have gr2 : (y.alloc (.cells #[.int .i64 tag, .string val, .slice ko LK kc] 40)).grownBy w1 (Value.slice o ats.length cap).ownBlock := by
          have := gr1
          rw [HLN.out]
          exact this
        have hat2 : (Value.slice o ats.length cap).ownBlock = some g1 ∨ g1 = y.heap.size + 1 := by
          have := hat1
          rw [HLN.out]
          exact this
        have hp := own_push HO3.out HOK.out HB.out (by omega) hval htag (by have := HLN.out; omega) gr2 (by rw [HLN.out]; exact own1) hat2
        have hnum2 := numAt_rd hl5.1
        obtain ⟨a1, a2, a3, a4⟩ := HA.out
        have hn := HN.out
        refine ⟨⟨ats ++ [.mk tag val (.slice ko LK kc) aks], k2, b2, f2, ?_, hl5, a2, a4, ?_, ?_, ?_, ?_⟩, ?_⟩
        · have e : (ats ++ [AT.mk tag val (.slice ko LK kc) aks]).length = LN + 1 := by rw [List.length_append, HLN.out]; rfl
          rw [e] at hp
          exact hp
        · rw [List.length_append]; simp only [List.length_cons, List.length_nil]; omega
        · omega
        · omega
        · show _ = _
          rw [HQ.out, er_append, htr]
          simp only [thenR, er]
          rw [preR_and]
        · rw [hnum, hnum2]; omega
    · have hlt' : ¬ (k' : Int) < (e : Int) := by omega
      have HQ : Hid (R0 = .ok (er ats) k' b') := by show _ = _; rw [HP.out, subsR_done hlt]; simp only [preR, List.append_nil]
      clear HP HR
      obtain ⟨LN, HLN, hLN⟩ : ∃ LN, Hid (ats.length = LN) ∧ LN ≤ 500 := ⟨_, rfl, by omega⟩
      have HO : Hid (Own wr w.heap.size (.slice o ats.length cap) ats) := ho
      rw [HLN.out]
      clear ho hlen
      go_wp2_with fail
      go_quiet (fail)
      have bq := below_drewN (Below.refl wr.heap.size wr) nq
      have hl2 := left_drew hl nq
      have ho2 := HO.out.below bq
      clear c1 c2 c3 f3 bq
      generalize wr.drewN nq = x at *
      have HO3 : Hid (Own x w.heap.size (.slice o ats.length cap) ats) := ho2
      clear ho2 HO
      go_wp2_with fail
      go_ret
      rw [HQ.out]
      exact ⟨_, ats, rfl, rfl, by rw [← HLN.out]; exact HO3.out, hl2⟩
/-- what Parse and ParseSub tell -/
def parseR (s : ByteArray) : NR := if s.size ≤ 9999 then nodesR s s.size 0 s.size 1 0 else .bad 91 0
def parseS (s : ByteArray) : NR := if s.size ≤ 9999 then subsR s s.size 0 s.size 0 else .bad 91 0
set_option maxRecDepth 100000 in
theorem parse_any (s : ByteArray) (w : World) (hs : s.size ≤ 4611686018427387904) : Calls Try.prog 10 #[.string s] w (PostR w (parseR s)) := by
  have c : Calls Try.prog 34 #[.string s, .func (.func 35) #[] #[]] w (PostR w (parseR s)) := by
    unfold parseR
    by_cases h9 : s.size ≤ 9999
    · rw [if_pos h9]
      exact read_any s _ _ w h9 (enters_of Try.func35 (by kernel_rfl) rfl) fun W g hr => nodes_all s (by omega) _ W g 0 s.size 0 0 hr (by omega) (Nat.le_refl _) (by omega) (by omega) (by omega) (by omega)
    · rw [if_neg h9]
      exact read_long s _ w h9 hs
  generalize parseR s = R at *
  go_enter Try.func10, Try.ntmps10
  go_wp2_with fail
  refine c.mono ?_
  intro en y hy
  cases R with
  | bad yy a =>
    obtain ⟨rfl, hb⟩ := hy
    go_wp2_with fail
    go_ret3
    exact ⟨rfl, hb⟩
  | ok ts k b =>
    obtain ⟨v, ats, rfl, he, ho, hb⟩ := hy
    have HO : Hid (Own y w.heap.size v ats) := ho
    clear ho
    go_wp2_with fail
    go_ret3
    exact ⟨v, ats, rfl, he, HO.out, hb⟩
set_option maxRecDepth 100000 in
theorem parseSub_any (s : ByteArray) (w : World) (hs : s.size ≤ 4611686018427387904) : Calls Try.prog 20 #[.string s] w (PostR w (parseS s)) := by
  have c : Calls Try.prog 34 #[.string s, .func (.func 43) #[] #[]] w (PostR w (parseS s)) := by
    unfold parseS
    by_cases h9 : s.size ≤ 9999
    · rw [if_pos h9]
      exact read_any s _ _ w h9 (enters_of Try.func43 (by kernel_rfl) rfl) fun W g hr => subs_all (by omega) W g 0 s.size 0 0 hr (by omega) (Nat.le_refl _) (by omega) (by omega)
    · rw [if_neg h9]
      exact read_long s _ w h9 hs
  generalize parseS s = R at *
  go_enter Try.func20, Try.ntmps20
  go_wp2_with fail
  refine c.mono ?_
  intro en y hy
  cases R with
  | bad yy a =>
    obtain ⟨rfl, hb⟩ := hy
    go_wp2_with fail
    go_ret3
    exact ⟨rfl, hb⟩
  | ok ts k b =>
    obtain ⟨v, ats, rfl, he, ho, hb⟩ := hy
    have HO : Hid (Own y w.heap.size v ats) := ho
    clear ho
    go_wp2_with fail
    go_ret3
    exact ⟨v, ats, rfl, he, HO.out, hb⟩
end Go.Proofs.Ytgidjfhlooggkaa.Go_
