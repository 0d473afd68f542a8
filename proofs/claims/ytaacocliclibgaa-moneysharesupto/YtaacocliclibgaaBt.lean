/- The book settles: the walk. -/
import Derived.Test.YtaacocliclibgaaBs
namespace Go.Proofs.Ytaacocliclibgaa.Bt
set_option linter.unusedVariables false
set_option linter.unusedSimpArgs false
open Go.RowKit Sl Kb Ow Ds Bb Bc Bd Be Bs
def LM (L : List (Value × Int)) : Prop := ∀ k (h : k < L.length), L[k].2 = -100 - ((k / 12 : Nat) : Int)
def SM (L : List (Value × Int)) : Prop := ∀ p ∈ L, ln p.1 ≤ 200
theorem own_some {w : World} {b e n : Nat} {v : Value} {xs : List Value} (h : w.ownsRow b e 1 v n xs) (hn : 0 < n) : ∃ g c, v = .slice (some ⟨g, 0, none⟩) n c := by
  rcases owns_form h with ⟨_, rfl⟩ | ⟨g, c, e, _⟩
  · omega
  · exact ⟨g, c, e⟩
theorem quo12 (a t : Nat) (h : a = 12 * t) : ((a : Nat) : Int).tdiv 12 = (t : Int) := by
  rw [Int.tdiv_eq_ediv_of_nonneg (by omega)]; omega
theorem quoD (a : Nat) : ((a : Nat) : Int).tdiv 12 = ((a / 12 : Nat) : Int) := by
  rw [Int.tdiv_eq_ediv_of_nonneg (by omega)]; omega
theorem fin {w0 w : World} {base gB r T : Nat} {Pr : List (Nat × Obj)} {A : List Value} {vf vw vl x : Value} {m0 m : Int} {L : List (Value × Int)} (S : T5 w0 w base gB Pr A vf vw m0 r x m L vl) (hL : L.length = 12 * T) (hT : T ≤ 8) (h1 : LM L) (h2 : SM L) :
    Bk w0 ((w.setCell ⟨gB, 0, none⟩ (.slice none 0 0)).setCell ⟨gB, 1, none⟩ (.slice none 0 0)) base gB Pr [] [] L (.slice none 0 0) (.slice none 0 0) vl := by
  have hk : ∀ b, b ≠ gB → ((w.setCell ⟨gB, 0, none⟩ (.slice none 0 0)).setCell ⟨gB, 1, none⟩ (.slice none 0 0)).heap[b]? = w.heap[b]? := fun b hb => (sc_ne (Ne.symm hb) _ _).trans (sc_ne (Ne.symm hb) _ _)
  have kr : ∀ {b e s n : Nat} {v : Value} {xs : List Value}, w.ownsRow b e s v n xs → e ≠ 37 → ((w.setCell ⟨gB, 0, none⟩ (.slice none 0 0)).setCell ⟨gB, 1, none⟩ (.slice none 0 0)).ownsRow b e s v n xs := fun r he => owns_keep r fun p hp => hk p (fun e2 => bk_ne S.blk r he (by rw [hp, e2]))
  refine ⟨by rw [sc_heap (sc_heap S.blk 0 _) 1]; rfl, own_nil _ _ _, own_nil _ _ _, kr S.lrow (by decide), fun b h => ?_, fun b h => ?_, fun b h => ?_, fun p hp => by simp at hp, fun p hp => by simp at hp, fun p hp => kr (S.ent p hp) (by decide), fun i j hi => by simp at hi, fun p hp => by simp at hp, fun p hp => by simp at hp, S.kl, fun q hq => ?_, S.kb, S.gb, S.low, (S.fr.setCell (p := ⟨gB, 0, none⟩) S.gb _).setCell (p := ⟨gB, 1, none⟩) S.gb _, by simp, fun p hp => by simp at hp, h2, ⟨T, hT, hL⟩, h1⟩
  · simp [Value.ownBlock] at h
  · simp [Value.ownBlock] at h
  · simp [Value.ownBlock] at h
  · refine (hk q.1 (fun e => ?_)).trans (S.kp q hq)
    obtain ⟨c, fr, hc⟩ := S.kb q hq
    have := S.kp q hq
    rw [e, S.blk, hc] at this
    cases this
set_option maxRecDepth 100000 in
set_option maxHeartbeats 6400000 in
theorem settles_any {w0 w : World} {base gB : Nat} {Pr : List (Nat × Obj)} {F W : List (Value × List Int)} {L : List (Value × Int)} {vf vw vl : Value} (S : Bk w0 w base gB Pr F W L vf vw vl) (heq : F.map (·.2) = W.map (·.2)) (t : Nat) (ht : L.length = 12 * t) (htF : t + F.length ≤ 8) (hF0 : 0 < F.length) :
    Calls Try.prog 14 #[.pointer (some ⟨gB, 0, none⟩)] w fun e w' => e = .returned (.bool true) ∧ ∃ L' vl', L'.length = 12 * (t + F.length) ∧ Bk w0 w' base gB Pr [] [] L' (.slice none 0 0) (.slice none 0 0) vl' := by
  obtain ⟨j0, hj, jz0, jz1, jz2⟩ := info_parts infoL
  obtain ⟨i0, hi, hz0, hz1, hz2⟩ := info_parts info3'
  have hWl : W.length = F.length := by have := congrArg List.length heq; simpa using this.symm
  obtain ⟨gf, cf, ef⟩ := own_some S.frow hF0
  obtain ⟨gw, cw, ew⟩ := own_some S.wrow (by omega)
  obtain ⟨lo, lc, el⟩ := owns_slice S.lrow
  obtain ⟨n, Hn⟩ : ∃ n, Hid (F.length = n) := ⟨_, rfl⟩
  have HS : Hid (Bk w0 w base gB Pr F W L vf vw vl) := S
  have HEQ : Hid (F.map (·.2) = W.map (·.2)) := heq
  have HWn : Hid (W.length = n) := hWl.trans Hn.out
  obtain ⟨LN, HLN⟩ : ∃ LN, Hid (L.length = LN) := ⟨_, rfl⟩
  have Ht : Hid (LN = 12 * t) := HLN.out.symm.trans ht
  rw [Hn.out] at ef htF hF0
  rw [hWl, Hn.out] at ew
  rw [HLN.out] at el
  subst ef; subst ew; subst el
  have n8 : (n : Int) ≤ 8 := by omega
  have t8 : (t : Int) ≤ 8 := by omega
  have q12 : ((LN : Nat) : Int).tdiv 12 = (t : Int) := quo12 LN t Ht.out
  obtain ⟨m0, Hm0⟩ : ∃ m0 : Int, Hid (m0 = -100 - (t : Int)) := ⟨_, rfl⟩
  clear S heq ht hWl
  rw [Hn.out]
  go_enter Try.func14, Try.ntmps14
  go_wp2_with fail
  go_loopw [3] (fun vi wr => ∃ (i m : Nat), i ≤ n ∧ vi = .int .i64 (i : Int) ∧ Hid (wr = w.drewN m)) (fun vi _ => n + 1 - (intOf vi).toNat)
  case atStart => exact ⟨0, 0, Nat.zero_le _, rfl, rfl⟩
  case round =>
    obtain ⟨i, m, hi', rfl, HW⟩ := hrel
    rename World => wr
    have HSr : Hid (Bk w0 wr base gB Pr F W L (.slice (some ⟨gf, 0, none⟩) n cf) (.slice (some ⟨gw, 0, none⟩) n cw) (.slice lo LN lc)) := by
      have := HS.out.dn m
      rw [← HW.out] at this
      exact this
    obtain ⟨⟨c0, c1, c2⟩, f0, f1, f2⟩ := cells3 HSr.out.blk
    by_cases hlt : i < n
    · have q : (i : Int) < (n : Int) := by omega
      have hiF : i < F.length := by have := Hn.out; omega
      have hiW : i < W.length := by have := HWn.out; omega
      have ez : F[i].2 = W[i].2 := by
        have h1 := congrArg (fun l => l[i]?) HEQ.out
        simpa [hiF, hiW] using h1
      have r1 := HSr.out.frow
      have r2 := HSr.out.wrow
      rw [Hn.out] at r1
      rw [HWn.out] at r2
      have d1 := (own_cell r1 (j := i) (u := F[i].1) (by simp [hiF])).1
      have d2 := (own_cell r2 (j := i) (u := W[i].1) (by simp [hiW])).1
      have ps : ∀ k, Calls Try.prog 23 #[F[i].1, W[i].1] (wr.drewN k) fun e w' => e = .returned (.bool true) ∧ ∃ m, w' = (wr.drewN k).drewN m := fun k => same_any F[i].2 _ _ base base _ (by have := HSr.out.sm2 _ (List.getElem_mem hiF); omega) ((HSr.out.dn k).fo _ (List.getElem_mem hiF)) (by rw [ez]; exact (HSr.out.dn k).wo _ (List.getElem_mem hiW))
      obtain ⟨o1, e1', ev1⟩ := owns_slice (HSr.out.fo _ (List.getElem_mem hiF))
      obtain ⟨o2, e2', ev2⟩ := owns_slice (HSr.out.wo _ (List.getElem_mem hiW))
      rw [ev1] at d1 ps
      rw [ev2] at d2 ps
      generalize F[i].2.length = z1 at *
      generalize W[i].2.length = z2 at *
      clear r1 r2 ez ev1 ev2 hiF hiW HSr
      go_wp2_with fail
      go_quiet ((go_at_call 23; exact Calls.quiet_of (ps _)))
      go_wp2_with fail
      exact ⟨⟨i + 1, m + nq, by omega, by go_num, by show _ = _; rw [HW.out, World.drewN_drewN]⟩, by simp only [intOf]; omega⟩
    · have nq : ¬ (i : Int) < (n : Int) := by omega
      have HM : Hid (M5 w0 wr base gB Pr F L (.slice (some ⟨gf, 0, none⟩) n cf) (.slice (some ⟨gw, 0, none⟩) n cw) (.slice lo LN lc) m0 0 0) := M5.of HSr.out m0
      have HLM : Hid (LM L ∧ SM L ∧ ∀ p ∈ F, p.2.length ≤ 100) := ⟨HSr.out.lm, HSr.out.sm3, HSr.out.sm2⟩
      clear HS HSr HW HEQ HWn
      go_wp2_with fail
      clear c0 c1 c2 f0 f1 f2 nq
      rename World => wq
      go_loopw [5] (fun vi wr => ∃ (i : Nat), i ≤ n ∧ vi = .int .i64 (i : Int) ∧ Hid (M5 w0 wr base gB Pr F L (.slice (some ⟨gf, 0, none⟩) n cf) (.slice (some ⟨gw, 0, none⟩) n cw) (.slice lo LN lc) m0 i 0)) (fun vi _ => n + 1 - (intOf vi).toNat)
      case atStart => exact ⟨0, Nat.zero_le _, rfl, HM⟩
      case round =>
        clear HM
        obtain ⟨i, hi', rfl, HM⟩ := hrel
        rename World => wr
        obtain ⟨⟨c0, c1, c2⟩, f0, f1, f2⟩ := cells3 HM.out.blk
        by_cases hlt : i < n
        · have q : (i : Int) < (n : Int) := by omega
          have hiF : i < F.length := by have := Hn.out; omega
          obtain ⟨N, HN⟩ : ∃ N, Hid (F[i].2.length = N) := ⟨F[i].2.length, (rfl : F[i].2.length = F[i].2.length)⟩
          have N1 : (N : Int) ≤ 100 := by have := HLM.out.2.2 _ (List.getElem_mem hiF); have := HN.out; omega
          obtain ⟨oi, ci, evi⟩ : ∃ oi ci, F[i].1 = .slice oi N ci := by
            obtain ⟨z, a, b, _⟩ := HM.out.mks i hiF
            obtain ⟨o, c, e⟩ := owns_slice b
            exact ⟨o, c, by rw [e, a, HN.out]⟩
          have HV : Hid (F[i].1 = .slice oi N ci) := evi
          clear evi
          go_wp2_with fail
          clear c0 c1 c2 f0 f1 f2
          go_loopw [6] (fun vk wx => ∃ (k : Nat), k ≤ N ∧ vk = .int .i64 (k : Int) ∧ Hid (M5 w0 wx base gB Pr F L (.slice (some ⟨gf, 0, none⟩) n cf) (.slice (some ⟨gw, 0, none⟩) n cw) (.slice lo LN lc) m0 i k)) (fun vk _ => N + 1 - (intOf vk).toNat)
          case atStart => exact ⟨0, Nat.zero_le _, rfl, HM⟩
          case round =>
            clear HM
            obtain ⟨k, hk', rfl, HM⟩ := hrel
            rename World => wx
            obtain ⟨⟨c0, c1, c2⟩, f0, f1, f2⟩ := cells3 HM.out.blk
            have r1 := HM.out.frow
            rw [Hn.out] at r1
            have d1 := (own_cell r1 (j := i) (u := F[i].1) (by simp [hiF])).1
            rw [HV.out] at d1
            clear r1
            by_cases hlk : k < N
            · have q2 : (k : Int) < (N : Int) := by omega
              obtain ⟨z, za, zb, zc⟩ := HM.out.mks i hiF
              unfold Own at zb
              rw [za, HN.out, HV.out] at zb
              obtain ⟨g, c, eg⟩ := own_some zb (by omega)
              injection eg with eg1 eg2 eg3
              subst eg1
              have hzl : z.length = N := by rw [za, HN.out]
              obtain ⟨d2, f4⟩ := own_cell zb (j := k) (u := .int .i64 z[k]) (iv_at z k (by omega))
              generalize z[k] = zk at *
              have HM2 : Hid (M5 w0 (wx.setCell ⟨g, k, none⟩ (.int .i64 (m0 - (i : Int)))) base gB Pr F L (.slice (some ⟨gf, 0, none⟩) n cf) (.slice (some ⟨gw, 0, none⟩) n cw) (.slice lo LN lc) m0 i (k + 1)) := HM.out.store hiF HN.out HV.out hlk
              have HM3 : Hid (M5 w0 (wx.setCell ⟨g, k, none⟩ (.int .i64 (-100 - (t : Int) - (i : Int)))).drew base gB Pr F L (.slice (some ⟨gf, 0, none⟩) n cf) (.slice (some ⟨gw, 0, none⟩) n cw) (.slice lo LN lc) m0 i (k + 1)) := by
                have := HM2.out
                rw [Hm0.out] at this ⊢
                exact this.below (Below.refl _ _).drew
              clear HM HM2 za zb zc hzl
              go_wp2_with fail
              go_region
              go_wp2_with fail
              exact ⟨⟨k + 1, by omega, by go_num, HM3⟩, by simp only [intOf]; omega⟩
            · have nq : ¬ (k : Int) < (N : Int) := by omega
              have HM2 : Hid (M5 w0 wx base gB Pr F L (.slice (some ⟨gf, 0, none⟩) n cf) (.slice (some ⟨gw, 0, none⟩) n cw) (.slice lo LN lc) m0 (i + 1) 0) := HM.out.next hiF (by rw [HN.out]; omega)
              clear HM
              go_wp2_with fail
              exact ⟨⟨i + 1, by omega, by go_num, HM2⟩, by simp only [intOf]; omega⟩
        · have nq : ¬ (i : Int) < (n : Int) := by omega
          have HT0 := HM.out.t5 (by have := Hn.out; omega)
          obtain ⟨A, eA⟩ : ∃ A : List Value, F.map (fun p : Value × List Int => p.1) = A := ⟨_, rfl⟩
          have HPA : Hid (∀ i j (hi : i < A.length) (hj : j < A.length), i < j → ∀ g, A[i].ownBlock = some g → A[j].ownBlock ≠ some g) := by
            subst eA
            intro i j hi hj hij g
            rw [List.getElem_map, List.getElem_map]
            exact HM.out.fsep i j (by simpa using hi) (by simpa using hj) hij g
          have HA : Hid (∀ j (h : j < A.length), ∃ o N c, A[j] = .slice o N c ∧ N ≤ 100) := by
            subst eA
            intro j h
            have hj : j < F.length := by simpa using h
            rw [List.getElem_map]
            obtain ⟨z, a, b, _⟩ := HM.out.mks j hj
            obtain ⟨o, c, e⟩ := owns_slice b
            exact ⟨o, _, c, e, by rw [a]; exact HLM.out.2.2 _ (List.getElem_mem hj)⟩
          have HAn : Hid (A.length = n) := by show _ = _; rw [← eA, List.length_map]; exact Hn.out
          have HT : Hid (T5 w0 wr base gB Pr A (.slice (some ⟨gf, 0, none⟩) n cf) (.slice (some ⟨gw, 0, none⟩) n cw) m0 0 (.slice none 0 0) 0 L (.slice lo LN lc)) := by
            rw [← eA]; exact HT0
          clear HT0 eA
          clear HM
          go_wp2_with fail
          clear c0 c1 c2 f0 f1 f2 nq
          rename World => wp
          have HZ0 : Hid (L.length = 12 * (t + 0) ∧ LM L ∧ SM L) := ⟨by rw [HLN.out, Ht.out]; omega, HLM.out.1, HLM.out.2.1⟩
          clear HLM q12 Hn hi'
          go_loopw [7] (fun vi wr => ∃ (i : Nat) (L' : List (Value × Int)) (vl' : Value), i ≤ n ∧ vi = .int .i64 (i : Int) ∧ Hid (T5 w0 wr base gB Pr A (.slice (some ⟨gf, 0, none⟩) n cf) (.slice (some ⟨gw, 0, none⟩) n cw) m0 i (.slice none 0 0) 0 L' vl') ∧ Hid (L'.length = 12 * (t + i) ∧ LM L' ∧ SM L')) (fun vi _ => n + 1 - (intOf vi).toNat)
          case atStart => exact ⟨0, L, _, Nat.zero_le _, rfl, HT, HZ0⟩
          case round =>
            clear HT HZ0 HLN Ht
            obtain ⟨i, L, vl, hi', rfl, HT, HZ⟩ := hrel
            rename World => wr
            obtain ⟨⟨c0, c1, c2⟩, f0, f1, f2⟩ := cells3 HT.out.blk
            obtain ⟨lo, lc, el⟩ := owns_slice HT.out.lrow
            obtain ⟨LN, HLN⟩ : ∃ LN, Hid (L.length = LN) := ⟨_, rfl⟩
            rw [HLN.out] at el
            subst el
            by_cases hlt : i < n
            · have q : (i : Int) < (n : Int) := by omega
              have hiA : i < A.length := by rw [HAn.out]; exact hlt
              have q12 : ((LN : Nat) : Int).tdiv 12 = ((t + i : Nat) : Int) := quo12 LN (t + i) (by rw [← HLN.out]; exact HZ.out.1)
              obtain ⟨T, HT'⟩ : ∃ T : Nat, Hid (t + i = T) := ⟨_, rfl⟩
              rw [HT'.out] at q12
              have T8 : (T : Int) ≤ 8 := by have := HT'.out; omega
              have ar := HT.out.arow
              rw [HAn.out] at ar
              have d1 := (own_cell ar (j := i) (u := A[i]) (by simp [hiA])).1
              obtain ⟨oi, N, ci, evi, hN100⟩ := HA.out i hiA
              have HT2 : Hid (T5 w0 wr base gB Pr A (.slice (some ⟨gf, 0, none⟩) n cf) (.slice (some ⟨gw, 0, none⟩) n cw) m0 (i + 1) (.slice oi N ci) (-100 - (T : Int)) L (.slice lo LN lc)) := by
                have := T5.take HPA.out HT.out hiA (m' := -100 - (T : Int)) (by rw [Hm0.out]; have := HT'.out; omega)
                rw [evi] at this
                exact this
              rw [evi] at d1
              have HZ2 : Hid (L.length = 12 * T + 0 ∧ LM L ∧ SM L) := ⟨by rw [HZ.out.1, HT'.out]; rfl, HZ.out.2⟩
              clear HT HZ ar evi
              go_wp2_with fail
              clear c0 c1 c2 f0 f1 f2 q12 d1
              go_loopw [8, 10] (fun vx vk wx => ∃ (k : Nat) (L' : List (Value × Int)) (vl' : Value), k ≤ 12 ∧ vk = .int .i64 (k : Int) ∧ Hid (T5 w0 wx base gB Pr A (.slice (some ⟨gf, 0, none⟩) n cf) (.slice (some ⟨gw, 0, none⟩) n cw) m0 (i + 1) vx (-100 - (T : Int)) L' vl') ∧ Hid (L'.length = 12 * T + k ∧ LM L' ∧ SM L') ∧ Hid (ln vx = N + k)) (fun _ vk _ => 13 - (intOf vk).toNat)
              case atStart => exact ⟨0, L, _, by omega, rfl, HT2, HZ2, rfl⟩
              case round =>
                clear HT2 HZ2 HLN
                obtain ⟨k, L, vl, hk', rfl, HT, HZ, HX⟩ := hrel
                rename World => wx
                by_cases hlk : k < 12
                · have q2 : (k : Int) < 12 := by omega
                  obtain ⟨⟨c0, c1, c2⟩, f0, f1, f2⟩ := cells3 HT.out.blk
                  obtain ⟨xo, xc, ex⟩ := owns_slice HT.out.xrow
                  obtain ⟨NK, HNK⟩ : ∃ NK, Hid (N + k = NK) := ⟨_, rfl⟩
                  rw [mkI_len, HX.out, HNK.out] at ex
                  subst ex
                  obtain ⟨LN, HLN⟩ : ∃ LN, Hid (L.length = LN) := ⟨_, rfl⟩
                  have lrow := HT.out.lrow
                  rw [HLN.out] at lrow
                  have LN1 : LN ≤ 200 := by have := HLN.out; have := HZ.out.1; omega
                  have NK1 : NK ≤ 120 := by have := HNK.out; omega
                  have hs : base ≤ wx.heap.size := Nat.le_trans HT.out.low HT.out.fr.size
                  have HLM2 : Hid (LM (L ++ [(.slice xo NK xc, -100 - (T : Int))]) ∧ SM (L ++ [(.slice xo NK xc, -100 - (T : Int))])) := by
                    obtain ⟨z1, z2, z3⟩ := HZ.out
                    refine ⟨fun j hj => ?_, fun p hp => ?_⟩
                    · rw [List.length_append, List.length_singleton] at hj
                      by_cases hjL : j < L.length
                      · rw [List.getElem_append_left hjL]; exact z2 j hjL
                      · have : j = L.length := by omega
                        subst this
                        rw [List.getElem_append_right (Nat.le_refl _)]
                        simp only [Nat.sub_self, List.getElem_cons_zero]
                        have : L.length / 12 = T := by omega
                        rw [this]
                    · rcases List.mem_append.1 hp with hp | hp
                      · exact z3 p hp
                      · obtain rfl := List.mem_singleton.1 hp
                        simp only [ln]; omega
                  have HLL : Hid ((L ++ [((.slice xo NK xc : Value), (-100 - (T : Int)))]).length = 12 * T + (k + 1)) := by
                    show _ = _
                    rw [List.length_append, List.length_singleton, HZ.out.1]; omega
                  obtain ⟨vlo, vlc, evl⟩ := owns_slice lrow
                  subst evl
                  go_wp2_with (first
                    | (at_builtin; refine wpList_append_lies _ rfl _ _ _ rfl base 32 j0 _ 1 24 Try.underlying35 hj jz0 jz1 jz2 rfl (by omega) _ LN _ rfl (lrow.alloc _) ⟨wx.heap.size, 0, none⟩ 1 1 _ rfl (by rfl) (World.news_of_block (heap_alloc_new wx _)) (by simp [Value.oneCell']) (by omega) (by unfold maxLen; omega) (by omega) (by simp; omega) (wx.heap.size + 1) (by simp) ?_; intro gl cl y1 hown1 hgrow1 hat1 hlt1; have hbk1 := (al_block hgrow1 gB (Array.getElem?_eq_some_iff.1 HT.out.blk).1 (bk_ne HT.out.blk HT.out.lrow (by decide))).trans HT.out.blk; obtain ⟨⟨b0, b1, b2⟩, e0, e1, e2⟩ := cells3 hbk1; have T1 := HT.out.lpush (by rw [HLN.out]) hgrow1 hown1 hat1; have xr1 := T1.xrow; have hs1 : base ≤ (y1.setCell ⟨gB, 2, none⟩ (.slice (some ⟨gl, 0, none⟩) (LN + 1) cl)).heap.size := Nat.le_trans T1.low T1.fr.size; have hl1 : ln (Value.slice xo NK xc) = NK := rfl; unfold Own at xr1; rw [mkI_len, hl1] at xr1; have HT1 : Hid _ := T1; clear T1 hown1 hgrow1 hat1)
                    | (at_builtin; refine halt ?_))
                  intro _
                  have y1s : (y1.setCell ⟨gB, 2, none⟩ (.slice (some ⟨gl, 0, none⟩) (LN + 1) cl)).heap.size = y1.heap.size := by simp
                  rw [← y1s]
                  clear b0 b1 b2 e0 e1 e2 hbk1 lrow c0 c1 c2 f0 f1 f2 y1s
                  generalize y1.setCell ⟨gB, 2, none⟩ (.slice (some ⟨gl, 0, none⟩) (LN + 1) cl) = x1 at *
                  refine wpList_append_keeps _ rfl _ _ _ rfl base 3 i0 _ 1 8 Try.underlying32 hi hz0 hz1 hz2 rfl (by omega) _ NK _ rfl (xr1.alloc _) ⟨x1.heap.size, 0, none⟩ 1 1 _ rfl (by rfl) (World.news_of_block (heap_alloc_new x1 _)) (by simp [Value.oneCell']) (by omega) (by unfold maxLen; omega) (by omega) (by simp; omega) (x1.heap.size + 1) (by simp) ?_
                  intro gx cx y2 hown2 hold2 hgrow2 hat2 hlt2
                  have HT3 : Hid (T5 w0 y2 base gB Pr A (.slice (some ⟨gf, 0, none⟩) n cf) (.slice (some ⟨gw, 0, none⟩) n cw) m0 (i + 1) (.slice (some ⟨gx, 0, none⟩) (NK + 1) cx) (-100 - (T : Int)) (L ++ [(.slice xo NK xc, -100 - (T : Int))]) (.slice (some ⟨gl, 0, none⟩) (LN + 1) cl)) := HT1.out.xpush rfl hgrow2 hown2 (by unfold Own; rw [mkI_len, hl1]; exact hold2) hat2
                  have HX3 : Hid (ln (Value.slice (some ⟨gx, 0, none⟩) (NK + 1) cx) = N + (k + 1)) := by show _ = _; simp only [ln]; have := HNK.out; omega
                  have HZ3 : Hid ((L ++ [((.slice xo NK xc : Value), (-100 - (T : Int)))]).length = 12 * T + (k + 1) ∧ LM (L ++ [(.slice xo NK xc, -100 - (T : Int))]) ∧ SM (L ++ [(.slice xo NK xc, -100 - (T : Int))])) := ⟨HLL.out, HLM2.out⟩
                  clear HT1 HT HZ HLM2 HLL xr1 hown2 hold2 hgrow2 hat2 hlt2 HX
                  go_wp2_with fail
                  exact ⟨⟨k + 1, _, _, by omega, by go_num, HT3, HZ3, HX3⟩, by simp only [intOf]; omega⟩
                · have nq : ¬ (k : Int) < 12 := by omega
                  have HT2 : Hid (T5 w0 wx base gB Pr A (.slice (some ⟨gf, 0, none⟩) n cf) (.slice (some ⟨gw, 0, none⟩) n cw) m0 (i + 1) (.slice none 0 0) 0 L vl) := T5.drop HT.out
                  have HZ2 : Hid (L.length = 12 * (t + (i + 1)) ∧ LM L ∧ SM L) := ⟨by rw [HZ.out.1]; have := HT'.out; omega, HZ.out.2⟩
                  clear HT HZ HX
                  go_wp2_with fail
                  exact ⟨⟨i + 1, L, vl, by omega, by go_num, HT2, HZ2⟩, by simp only [intOf]; omega⟩
            · obtain rfl : n = i := by omega
              obtain ⟨z1, z2, z3⟩ := HZ.out
              have HB := fin HT.out z1 (by omega) z2 z3
              have HBk : Hid (Bk w0 ((wr.setCell ⟨gB, 0, none⟩ (.slice none 0 0)).setCell ⟨gB, 1, none⟩ (.slice none 0 0)) base gB Pr [] [] L (.slice none 0 0) (.slice none 0 0) (.slice lo LN lc)) := HB
              have HLL : Hid (L.length = 12 * (t + n) ∧ LM L ∧ SM L) := HZ.out
              have g0 : (wr.setCell ⟨gB, 0, none⟩ (.slice none 0 0)).cell? ⟨gB, 1, none⟩ = some (.slice (some ⟨gw, 0, none⟩) n cw) := by
                have := sc_heap HT.out.blk 0 (.slice none 0 0)
                exact (cells3 this).1.2.1
              have g1 : (wr.setCell ⟨gB, 0, none⟩ (.slice none 0 0)).frozen? ⟨gB, 1, none⟩ = false := by
                have := sc_heap HT.out.blk 0 (.slice none 0 0)
                exact (cells3 this).2.2.1
              have nq : ¬ (n : Int) < (n : Int) := by omega
              have LN1 : LN ≤ 200 := by have := HLN.out; omega
              have LN0 : 0 < LN := by have := HLN.out; omega
              clear HB HT HZ z1 z2 z3
              go_wp2_with fail
              clear g0 g1 c0 c1 c2 f0 f1 f2 nq
              generalize (wr.setCell ⟨gB, 0, none⟩ (.slice none 0 0)).setCell ⟨gB, 1, none⟩ (.slice none 0 0) = y at *
              obtain ⟨⟨-, -, c2⟩, -, -, -⟩ := cells3 HBk.out.blk
              have lr := HBk.out.lrow
              rw [HLN.out] at lr
              obtain ⟨gl, cl, el⟩ := own_some lr LN0
              injection el with el1 el2 el3
              subst el1
              have HLR : Hid (y.ownsRow base 32 1 (.slice (some ⟨gl, 0, none⟩) LN lc) LN (L.map (·.1))) := lr
              clear lr
              go_loopw [11] (fun vi wx => ∃ (i : Nat), i ≤ LN ∧ vi = .int .i64 (i : Int) ∧ wx = y) (fun vi _ => LN + 1 - (intOf vi).toNat)
              case atStart => exact ⟨0, Nat.zero_le _, rfl, rfl⟩
              case round =>
                obtain ⟨i, hi2, rfl, rfl⟩ := hrel
                rename World => wx
                by_cases hlt2 : i < LN
                · have q : (i : Int) < (LN : Int) := by omega
                  have hiL : i < L.length := by rw [HLN.out]; exact hlt2
                  have d1 := (own_cell HLR.out (j := i) (u := L[i].1) (by simp [hiL])).1
                  have oi := HBk.out.lo _ (List.getElem_mem hiL)
                  obtain ⟨o, c, eo⟩ := owns_slice oi
                  obtain ⟨Ni, HNi⟩ : ∃ Ni, Hid (ln L[i].1 = Ni) := ⟨ln L[i].1, (rfl : ln L[i].1 = ln L[i].1)⟩
                  rw [mkI_len, HNi.out] at eo
                  have N2 : Ni ≤ 200 := by have := HLL.out.2.2 _ (List.getElem_mem hiL); have := HNi.out; omega
                  obtain ⟨D, HD⟩ : ∃ D, Hid (i / 12 = D) := ⟨i / 12, (rfl : i / 12 = i / 12)⟩
                  have qd := quoD i
                  rw [HD.out] at qd
                  have hD : (D : Int) ≤ 200 := by have := HD.out; omega
                  have hmm : L[i].2 = -100 - (D : Int) := by rw [HLL.out.2.1 i hiL, HD.out]
                  have HOI : Hid (wx.ownsRow base 3 1 (.slice o Ni c) Ni (iv (mkI (-100 - (D : Int)) Ni))) := by
                    have h := oi
                    unfold Own at h
                    rw [mkI_len, HNi.out, eo, hmm] at h
                    exact h
                  rw [eo] at d1
                  clear oi eo hmm
                  go_wp2_with fail
                  go_loopw [12] (fun vk wz => ∃ (k : Nat), k ≤ Ni ∧ vk = .int .i64 (k : Int) ∧ wz = wx) (fun vk _ => Ni + 1 - (intOf vk).toNat)
                  case atStart => exact ⟨0, Nat.zero_le _, rfl, rfl⟩
                  case round =>
                    obtain ⟨k, hk2, rfl, rfl⟩ := hrel
                    rename World => wz
                    by_cases hlk : k < Ni
                    · have q2 : (k : Int) < (Ni : Int) := by omega
                      obtain ⟨g, c', eg⟩ := own_some HOI.out (by omega)
                      injection eg with eg1 eg2 eg3
                      subst eg1
                      have d2 := (own_cell HOI.out (j := k) (u := .int .i64 (-100 - (D : Int))) (by simp [iv, mkI, hlk])).1
                      go_wp2_with fail
                      exact ⟨⟨k + 1, by omega, by go_num, by first | rfl | trivial⟩, by simp only [intOf]; omega⟩
                    · have nq : ¬ (k : Int) < (Ni : Int) := by omega
                      go_wp2_with fail
                      exact ⟨⟨i + 1, by omega, by go_num, by first | rfl | trivial⟩, by simp only [intOf]; omega⟩
                · have nq : ¬ (i : Int) < (LN : Int) := by omega
                  go_wp2_with fail
                  go_ret
                  exact ⟨rfl, L, HLL.out.1, _, HBk.out⟩
end Go.Proofs.Ytaacocliclibgaa.Bt
