/- Sub-elements are written. -/
import Derived.Test.YtgidjfhlooggkaaGo
import Derived.Test.YtgidjfhlooggkaaLs
import Derived.Lib.AppendStr
namespace Go.Proofs.Ytgidjfhlooggkaa.Sb
set_option linter.unusedVariables false
set_option linter.unusedSimpArgs false
open Go.RowKit Kb Ga Gb Gc Nt Go_ Ls
/-- why one of them can't be written; 0: it can -/
def ws1 (i : Nat) (a : AT) : Int := if 500 ≤ i then 93 else if a.tag < 0 ∨ 99 < a.tag ∨ 0 < a.kids.length then 90 else if 99 < a.val.size then 91 else if Go_.seen a.val < a.val.size then 11 else 0
def wsR : Nat → List AT → Int
  | _, [] => 0
  | i, a :: r => if ws1 i a = 0 then wsR (i + 1) r else ws1 i a
theorem cell3 {x : World} {g : Nat} {a b c : Value} {t : TypeId} (h : x.heap[g]? = some (.cells #[a, b, c] t)) : x.cell? ⟨g, 0, none⟩ = some a ∧ x.cell? ⟨g, 1, none⟩ = some b ∧ x.cell? ⟨g, 2, none⟩ = some c := by
  refine ⟨?_, ?_, ?_⟩ <;> simp only [World.cell?, h] <;> rfl
theorem wsR_cons {i : Nat} {a : AT} (r : List AT) (h : ws1 i a = 0) : wsR i (a :: r) = wsR (i + 1) r := by simp only [wsR]; rw [if_pos h]
theorem wsR_hit {i : Nat} {a : AT} (r : List AT) (h : ws1 i a ≠ 0) : wsR i (a :: r) = ws1 i a := by simp only [wsR]; rw [if_neg h]
theorem wsR_drop (ts : List AT) (i : Nat) (h : i < ts.length) (h0 : ws1 i ts[i] = 0) : wsR i (ts.drop i) = wsR (i + 1) (ts.drop (i + 1)) := by
  rw [List.drop_eq_getElem_cons h, wsR_cons _ h0]
theorem wsR_here (ts : List AT) (i : Nat) (h : i < ts.length) (h0 : ws1 i ts[i] ≠ 0) : wsR i (ts.drop i) = ws1 i ts[i] := by
  rw [List.drop_eq_getElem_cons h, wsR_hit _ h0]
theorem wsR_all : ∀ (r : List AT) (i : Nat), wsR i r = 0 → ∀ a ∈ r, 0 ≤ a.tag ∧ a.tag ≤ 99 ∧ a.kids = [] ∧ a.val.size ≤ 99 ∧ Go_.seen a.val = a.val.size
  | [], i, h, a, ha => by simp at ha
  | x :: r, i, h, a, ha => by
    by_cases h1 : ws1 i x = 0
    · rw [wsR_cons r h1] at h
      rcases List.mem_cons.1 ha with rfl | ha
      · have hs := seen_le a.val
        unfold ws1 at h1
        repeat' split at h1
        all_goals first
          | (exact absurd h1 (by decide))
          | (refine ⟨by omega, by omega, List.length_eq_zero_iff.1 (by omega), by omega, by omega⟩)
      · exact wsR_all r (i + 1) h a ha
    · rw [wsR_hit r h1] at h; exact absurd h h1
theorem wsR_few : ∀ (r : List AT) (i : Nat), i ≤ 500 → wsR i r = 0 → i + r.length ≤ 500
  | [], i, hi, _ => by simpa using hi
  | x :: r, i, hi, h => by
    by_cases h1 : ws1 i x = 0
    · rw [wsR_cons r h1] at h
      have : i + 1 ≤ 500 := by
        unfold ws1 at h1
        split at h1
        · exact absurd h1 (by decide)
        · omega
      have := wsR_few r (i + 1) this h
      rw [List.length_cons]; omega
    · rw [wsR_hit r h1] at h; exact absurd h h1
set_option maxRecDepth 100000 in
set_option maxHeartbeats 1600000 in
theorem wrongSubs_any (ts : List AT) (v : Value) (w : World) (hr : Rdn w v ts) :
    Calls Try.prog 45 #[v] w fun e w' => e = .returned (.int .i64 (wsR 0 ts)) ∧ Below w.heap.size w w' := by
  have HR : Hid (Rdn w v ts) := hr
  obtain ⟨o, cap, e, hN, -⟩ := hr.row
  obtain ⟨N, HN, hN2⟩ : ∃ N : Nat, Hid (ts.length = N) ∧ N ≤ 1048576 := ⟨_, rfl, hN⟩
  rw [HN.out] at e
  subst e
  obtain ⟨R, HRR⟩ : ∃ R, Hid (wsR 0 ts = R) := ⟨_, rfl⟩
  rw [HRR.out]
  clear hr hN
  go_enter Try.func45, Try.ntmps45
  go_wp2
  go_loopw [7] (fun vi wr => ∃ (i : Nat), i ≤ N ∧ vi = .int .i64 (i : Int) ∧ Hid (wsR i (ts.drop i) = R) ∧ Below w.heap.size w wr) (fun vi _ => N - (intOf vi).toNat)
  case atStart => exact ⟨0, Nat.zero_le _, rfl, by show _ = _; rw [List.drop_zero]; exact HRR.out, Below.refl _ _⟩
  case round =>
    obtain ⟨i, hi, rfl, HS, hwr⟩ := hrel
    rename World => wr
    by_cases hlt : i < N
    · have hlt' : (i : Int) < (N : Int) := by omega
      have hit : i < ts.length := by rw [HN.out]; exact hlt
      obtain ⟨o', cap', e', _, hc⟩ := (HR.out.below hwr).row
      obtain ⟨a, ea, d0, d1, d2⟩ := hc i hit
      rw [HN.out] at e'
      obtain ⟨rfl, rfl⟩ : o = o' ∧ cap = cap' := by simpa using e'
      subst ea
      have hk := rdL_at ts i hit HR.out.kids
      have HG := wsR_drop ts i hit
      have HB := wsR_here ts i hit
      clear hc e'
      obtain ⟨nd, hnd⟩ : ∃ nd, nd = ts[i] := ⟨_, rfl⟩
      rw [← hnd] at d0 d1 d2 hk HG HB
      clear hnd
      rw [HS.out] at HG HB
      cases nd with
      | mk tag val kv ks =>
      simp only [AT.tag, AT.val, AT.kv, AT.kids] at d0 d1 d2 hk
      obtain ⟨ko, kc, hkv, hkl, -⟩ := hk.1.row
      obtain ⟨KL, HKL, hKL⟩ : ∃ KL, Hid (ks.length = KL) ∧ KL ≤ 1048576 := ⟨_, rfl, hkl⟩
      rw [HKL.out] at hkv
      subst hkv
      obtain ⟨E, HE⟩ : ∃ E, Hid (ws1 i (AT.mk tag val (.slice ko KL kc) ks) = E) := ⟨_, rfl⟩
      rw [HE.out] at HG HB
      have HE2 : Hid (E = if 500 ≤ i then 93 else if tag < 0 ∨ 99 < tag ∨ 0 < ks.length then 90 else if 99 < val.size then 91 else if Go_.seen val < val.size then 11 else 0) := HE.out.symm
      have hvs := hk.2.1
      have sn := fun y => seen_any val y (by omega)
      have hsn := seen_le val
      obtain ⟨S, HSn⟩ : ∃ S, Hid (Go_.seen val = S) := ⟨_, rfl⟩
      have hn1 := h1_0 wr (.cells #[.int .i64 tag, .string val, .slice ko KL kc] 40)
      have hb1 := hwr.trans ((below_one wr (.cells #[.int .i64 tag, .string val, .slice ko KL kc] 40)).mono hwr.size)
      have ltn : wr.heap.size < (wr.alloc (.cells #[.int .i64 tag, .string val, .slice ko KL kc] 40)).heap.size := by simp
      obtain ⟨c0, c1, c2⟩ := cell3 hn1
      clear hk HE HS hn1 hkl
      by_cases g1 : 500 ≤ i
      · have HV : Hid (R = 93) := by
          have e : E = 93 := by rw [HE2.out, if_pos g1]
          show _ = _; rw [HB (by rw [e]; decide), e]
        have g1' : 500 ≤ (i : Int) := by omega
        clear HG HB HE2
        go_wp2
        go_ret
        exact ⟨by rw [HV.out]; rfl, hb1⟩
      have g1' : ¬ 500 ≤ (i : Int) := by omega
      by_cases g2 : tag < 0 ∨ 99 < tag ∨ 0 < ks.length
      · have HV : Hid (R = 90) := by
          have e : E = 90 := by rw [HE2.out, if_neg g1, if_pos g2]
          show _ = _; rw [HB (by rw [e]; decide), e]
        rw [HKL.out] at g2
        clear HG HB HE2
        by_cases t0 : tag < 0
        · clear g2
          go_wp2
          go_ret
          exact ⟨by rw [HV.out]; rfl, hb1⟩
        by_cases t1 : 99 < tag
        · clear g2
          go_wp2
          go_ret
          exact ⟨by rw [HV.out]; rfl, hb1⟩
        have t2 : 0 < (KL : Int) := by omega
        clear g2
        go_wp2
        go_ret
        exact ⟨by rw [HV.out]; rfl, hb1⟩
      have t0 : ¬ tag < 0 := by omega
      have t1 : ¬ 99 < tag := by omega
      have t2 : ¬ 0 < (KL : Int) := by have := HKL.out; omega
      by_cases g3 : 99 < val.size
      · have HV : Hid (R = 91) := by
          have e : E = 91 := by rw [HE2.out, if_neg g1, if_neg g2, if_pos g3]
          show _ = _; rw [HB (by rw [e]; decide), e]
        have g3' : 99 < (val.size : Int) := by omega
        clear HG HB HE2 g2
        go_wp2
        go_ret
        exact ⟨by rw [HV.out]; rfl, hb1⟩
      have g3' : ¬ 99 < (val.size : Int) := by omega
      simp only [HSn.out] at sn
      rw [HSn.out] at hsn
      by_cases g4 : S < val.size
      · have HV : Hid (R = 11) := by
          have e : E = 11 := by rw [HE2.out, if_neg g1, if_neg g2, if_neg g3, if_pos (by rw [HSn.out]; exact g4)]
          show _ = _; rw [HB (by rw [e]; decide), e]
        have g4' : (S : Int) < (val.size : Int) := by omega
        clear HG HB HE2 g2
        go_wp2_with fail
        generalize wr.alloc (.cells #[.int .i64 tag, .string val, .slice ko KL kc] 40) = W1 at *
        refine Ql.region_cl (by kernel_rfl) (by kernel_rfl) ?_
        repeat (first | go_big_quiet_skip | (go_big_quiet_want; go_big_quiet_op; first | go_big_quiet_on | (refine ⟨_, fun _ _ => rfl, ?_⟩; go_big_quiet_on) | (refine ⟨_, fun _ _ => ⟨rfl, rfl⟩, ?_⟩; go_big_quiet_on)) | (refine wpQuiet_step (fun K hK => ?_); first
          | (refine Ql.q_cell (by rfl) 9 _ rfl wr.heap.size 1 rfl _ c1 ltn (fun y => Try.isAgg9 y) (hK _ ?_); clear hK K; simp only [Act.put, List.setIfInBounds_toArray, List.set_cons_succ, List.set_cons_zero])
          | (go_simp; apply Exists.intro; refine ⟨fun y hy => ?_, hK _ ?_⟩; (first | (go_at_call 79; exact Ql.cl_same hy (sn _))); clear hK K)
          | fail))
        refine wpQuiet_nil ?_
        intro y hy
        have hb2 := keepB hb1 hy
        go_wp2
        go_ret
        exact ⟨by rw [HV.out]; rfl, hb2⟩
      · have HV : Hid (wsR (i + 1) (ts.drop (i + 1)) = R) := by
          have e : E = 0 := by rw [HE2.out, if_neg g1, if_neg g2, if_neg g3, if_neg (by rw [HSn.out]; exact g4)]
          exact (HG e).symm
        have g4' : ¬ (S : Int) < (val.size : Int) := by omega
        clear HG HB HE2 g2
        go_wp2_with fail
        generalize wr.alloc (.cells #[.int .i64 tag, .string val, .slice ko KL kc] 40) = W1 at *
        refine Ql.region_cl (by kernel_rfl) (by kernel_rfl) ?_
        repeat (first | go_big_quiet_skip | (go_big_quiet_want; go_big_quiet_op; first | go_big_quiet_on | (refine ⟨_, fun _ _ => rfl, ?_⟩; go_big_quiet_on) | (refine ⟨_, fun _ _ => ⟨rfl, rfl⟩, ?_⟩; go_big_quiet_on)) | (refine wpQuiet_step (fun K hK => ?_); first
          | (refine Ql.q_cell (by rfl) 9 _ rfl wr.heap.size 1 rfl _ c1 ltn (fun y => Try.isAgg9 y) (hK _ ?_); clear hK K; simp only [Act.put, List.setIfInBounds_toArray, List.set_cons_succ, List.set_cons_zero])
          | (go_simp; apply Exists.intro; refine ⟨fun y hy => ?_, hK _ ?_⟩; (first | (go_at_call 79; exact Ql.cl_same hy (sn _))); clear hK K)
          | fail))
        refine wpQuiet_nil ?_
        intro y hy
        have hb2 := keepB hb1 hy
        go_wp2
        exact ⟨⟨i + 1, by omega, by go_num, HV, hb2⟩, by simp [intOf]; omega⟩
    · have HE : Hid (R = 0) := by
        have := HS.out
        rw [List.drop_of_length_le (by rw [HN.out]; omega)] at this
        simp only [wsR] at this
        exact this.symm
      have hlt' : ¬ (i : Int) < (N : Int) := by omega
      go_wp2
      go_ret
      exact ⟨by rw [HE.out]; rfl, hwr⟩
/-- two digits -/
def prB (n : Int) : List UInt8 := [b8 (48 + n / 10), b8 (48 + n % 10)]
set_option maxRecDepth 100000 in
theorem appendPair_any (t : Int) (v : Value) (bs : List UInt8) (n base : Nat) (w : World) (ht0 : 0 ≤ t) (ht : t ≤ 99) (hn : n ≤ 1073741824) (hb : base ≤ w.heap.size) (ho : w.ownsRow base 5 1 v n (Lib.byteCells bs)) :
    Calls Try.prog 80 #[v, .int .i64 t] w fun e w' => ∃ v', e = .returned v' ∧ w'.ownsRow base 5 1 v' (n + 2) (Lib.byteCells (bs ++ prB t)) ∧ Below base w w' ∧ Gr w w' v v' := by
  obtain ⟨ia, hia, hza0, hza1, hza2⟩ := info_parts infoB
  have HO : Hid (w.ownsRow base 5 1 v n (Lib.byteCells bs)) := ho
  clear ho
  have q1 : t.tdiv 10 = t / 10 := Int.tdiv_eq_ediv_of_nonneg ht0
  have q2 : t.tmod 10 = t % 10 := Int.tmod_eq_emod_of_nonneg ht0
  have a1 : (48 + t / 10) % 256 = 48 + t / 10 := by omega
  have a2 : (48 + t % 10) % 256 = 48 + t % 10 := by omega
  go_enter Try.func80, Try.ntmps80
  go_wp2_with (at_builtin; refine wpList_append_lies _ rfl _ _ _ rfl base 5 ia _ 1 1 Try.underlying81 hia hza0 hza1 hza2 rfl (by omega) _ (n) _ rfl (HO.out.alloc _) ⟨w.heap.size, 0, Option.none⟩ 2 2 _ rfl (by rfl) (World.news_of_block (heap_alloc_new w _)) (by simp [Value.oneCell']) (by omega) (by unfold maxLen; omega) (by omega) (by first | omega | (simp <;> omega)) (w.heap.size + 1) (by simp) ?_; intro g1 c1 w1 own1 gr1 hat1 hlt1; have B1 : Below base w w1 := grow_step hb HO.out gr1; have G1 := (show Gr _ _ _ (.slice (some ⟨g1, 0, Option.none⟩) (n + 2) c1) from gr_step gr1 hat1); replace own1 : Hid (World.ownsRow _ _ _ _ _ _ _) := own1; clear gr1 hat1 hlt1)
  go_ret
  refine ⟨_, rfl, ?_, B1, G1⟩
  have := own1.out
  rw [Lib.byteCells_append]
  simp only [prB, Lib.byteCells, List.map_cons, List.map_nil, b8_val, a1, a2] at this ⊢
  exact this
/-- a row of bytes that may turn leaves nodes as they were -/
theorem row_ne {X : World} {base n : Nat} {v : Value} {xs : List Value} {k : Nat} {o : Obj} (ho : X.ownsRow base 5 1 v n xs) (hk : X.heap[k]? = some o) (hne : ∀ c fr, o ≠ .cells c 5 fr) : some k ≠ v.ownBlock := fun e => by
  rcases ho.2 with ⟨rfl, _⟩ | ⟨g, cap, cur, rfl, _, hg, _⟩
  · simp [Value.ownBlock] at e
  · simp only [Value.ownBlock, Option.some.injEq] at e
    subst e
    rw [hg] at hk; cases hk
    exact hne _ _ rfl
theorem on_row {base n : Nat} {X Y : World} {v : Value} {xs : List Value} {k : Nat} {c : Array Value} {t : TypeId} {fr : Nat × Nat} (h : X.grownBy Y v.ownBlock) (ho : X.ownsRow base 5 1 v n xs) (hk : X.heap[k]? = some (.cells c t fr)) (ht : t ≠ 5) : Y.heap[k]? = some (.cells c t fr) :=
  (h.block k (Array.getElem?_eq_some_iff.1 hk).1 (row_ne ho hk (fun c' fr' e => by cases e; exact ht rfl))).trans hk
theorem owns_sl {w : World} {base e s n : Nat} {v : Value} {xs : List Value} (h : w.ownsRow base e s v n xs) : ∃ o cap, v = .slice o n cap := by
  rcases h.2 with ⟨rfl, h0⟩ | ⟨g, cap, cur, rfl, _⟩
  · exact ⟨none, 0, by rw [h0]⟩
  · exact ⟨_, cap, rfl⟩
def es1 (a : AT) : List UInt8 := prB a.tag ++ prB (a.val.size : Int) ++ a.val.data.toList
def esS (l : List AT) : List UInt8 := l.flatMap es1
theorem esS_snoc (ts : List AT) (i : Nat) (h : i < ts.length) : esS (ts.take (i + 1)) = esS (ts.take i) ++ es1 ts[i] := by
  unfold esS
  rw [List.take_succ_eq_append_getElem h, List.flatMap_append]
  simp only [List.flatMap_cons, List.flatMap_nil, List.append_nil]
set_option maxRecDepth 100000 in
set_option maxHeartbeats 1600000 in
theorem subBytes_any (ts : List AT) (v : Value) (w : World) (hr : Rdn w v ts) (h0 : wsR 0 ts = 0) :
    Calls Try.prog 46 #[v] w fun e w' => e = .returned (.string ⟨(esS ts).toArray⟩) ∧ Below w.heap.size w w' ∧ (esS ts).length ≤ 51500 := by
  have HR : Hid (Rdn w v ts) := hr
  have hall := wsR_all ts 0 h0
  have hfew := wsR_few ts 0 (by omega) h0
  rw [Nat.zero_add] at hfew
  obtain ⟨o, cap, e, hN, -⟩ := hr.row
  obtain ⟨N, HN, hN2⟩ : ∃ N : Nat, Hid (ts.length = N) ∧ N ≤ 500 := ⟨_, rfl, hfew⟩
  rw [HN.out] at e
  subst e
  obtain ⟨R, HRR⟩ : ∃ R, Hid (esS ts = R) := ⟨_, rfl⟩
  rw [HRR.out]
  obtain ⟨ia, hia, hza0, hza1, hza2⟩ := info_parts infoB
  have HALL : Hid (∀ a ∈ ts, 0 ≤ a.tag ∧ a.tag ≤ 99 ∧ a.kids = [] ∧ a.val.size ≤ 99 ∧ Go_.seen a.val = a.val.size) := hall
  clear hr hN h0 hfew hall
  go_enter Try.func46, Try.ntmps46
  go_wp2
  go_loopw [3, 8] (fun vb vi wr => ∃ (i : Nat) (E : List UInt8), i ≤ N ∧ vi = .int .i64 (i : Int) ∧ Hid (esS (ts.take i) = E) ∧ E.length ≤ 103 * i ∧ wr.ownsRow w.heap.size 5 1 vb E.length (Lib.byteCells E) ∧ Below w.heap.size w wr) (fun _ vi _ => N - (intOf vi).toNat)
  case atStart => exact ⟨0, [], Nat.zero_le _, rfl, by show _ = _; simp [esS], by simp, World.ownsRow_nil _ _ _ _, Below.refl _ _⟩
  case round =>
    obtain ⟨i, E, hi, rfl, HS, hE, hown, hwr⟩ := hrel
    rename World => wr
    obtain ⟨uo, uc, rfl⟩ := owns_sl hown
    have HOWN : Hid (World.ownsRow wr w.heap.size 5 1 (.slice uo E.length uc) E.length (Lib.byteCells E)) := hown
    clear hown
    by_cases hlt : i < N
    · have hlt' : (i : Int) < (N : Int) := by omega
      have hit : i < ts.length := by rw [HN.out]; exact hlt
      obtain ⟨o', cap', e', _, hc⟩ := (HR.out.below hwr).row
      obtain ⟨a, ea, d0, d1, d2⟩ := hc i hit
      rw [HN.out] at e'
      obtain ⟨rfl, rfl⟩ : o = o' ∧ cap = cap' := by simpa using e'
      subst ea
      have hk := HALL.out _ (List.getElem_mem hit)
      have hkk := rdL_at ts i hit HR.out.kids
      have HS2 := esS_snoc ts i hit
      rw [HS.out] at HS2
      clear hc e'
      obtain ⟨nd, hnd⟩ : ∃ nd, nd = ts[i] := ⟨_, rfl⟩
      rw [← hnd] at d0 d1 d2 hk HS2 hkk
      clear hnd
      cases nd with
      | mk tag val kv ks =>
      simp only [AT.tag, AT.val, AT.kv, AT.kids, es1] at d0 d1 d2 hk HS2 hkk
      obtain ⟨ko, kc, hkv, hkl, -⟩ := hkk.1.row
      obtain ⟨KL, HKL⟩ : ∃ KL, Hid (ks.length = KL) := ⟨_, rfl⟩
      rw [HKL.out] at hkv
      subst hkv
      obtain ⟨t0, t9, -, v9, -⟩ := hk
      have HS3 : Hid (esS (ts.take (i + 1)) = E ++ (prB tag ++ prB (val.size : Int) ++ val.data.toList)) := HS2
      have hn1 := h1_0 wr (.cells #[.int .i64 tag, .string val, .slice ko KL kc] 40)
      have bb := below_one wr (.cells #[.int .i64 tag, .string val, .slice ko KL kc] 40)
      have hb1 := hwr.trans (bb.mono hwr.size)
      have own1 : Hid (World.ownsRow (wr.alloc (.cells #[.int .i64 tag, .string val, .slice ko KL kc] 40)) w.heap.size 5 1 (.slice uo E.length uc) E.length (Lib.byteCells E)) := owns_keep HOWN.out fun q hq => bb.block q (HOWN.out.lt q hq).2
      obtain ⟨c0, c1, c2⟩ := cell3 hn1
      obtain ⟨L0, HL0, hL0⟩ : ∃ L0, Hid (E.length = L0) ∧ L0 ≤ 51500 := ⟨_, rfl, by omega⟩
      rw [HL0.out] at own1
      rw [HL0.out]
      clear HS2 hkk hkl HOWN bb
      go_wp2_with fail
      clear d0 d1 d2
      generalize wr.alloc (.cells #[.int .i64 tag, .string val, .slice ko KL kc] 40) = W1 at *
      refine (appendPair_any tag (.slice uo L0 uc) E L0 w.heap.size W1 t0 t9 (by omega) hb1.size own1.out).mono ?_
      rintro _ x ⟨v1, rfl, ho1, hbx, hg1⟩
      obtain ⟨o1, cp1, rfl⟩ := owns_sl ho1
      have hn2 := on_row hg1.1 own1.out hn1 (by decide)
      have OX : Hid (World.ownsRow x w.heap.size 5 1 (.slice o1 (L0 + 2) cp1) (L0 + 2) (Lib.byteCells (E ++ prB tag))) := ho1
      have hb2 := hb1.trans hbx
      clear ho1 hbx hg1 own1 hn1 c0 c1 c2 hb1
      obtain ⟨c0, c1, c2⟩ := cell3 hn2
      go_wp2_with fail
      refine (appendPair_any (val.size : Int) (.slice o1 (L0 + 2) cp1) (E ++ prB tag) (L0 + 2) w.heap.size x (by omega) (by omega) (by omega) hb2.size OX.out).mono ?_
      rintro _ y ⟨v2, rfl, ho2, hby, hg2⟩
      obtain ⟨o2, cp2, rfl⟩ := owns_sl ho2
      have hn3 := on_row hg2.1 OX.out hn2 (by decide)
      have OY : Hid (World.ownsRow y w.heap.size 5 1 (.slice o2 (L0 + 2 + 2) cp2) (L0 + 2 + 2) (Lib.byteCells (E ++ prB tag ++ prB (val.size : Int)))) := ho2
      have hb3 := hb2.trans hby
      clear ho2 hby hg2 OX hn2 c0 c1 c2 hb2
      obtain ⟨c0, c1, c2⟩ := cell3 hn3
      go_wp2_with (refine Go.Lib.wpList_append_own_string _ rfl _ _ _ _ rfl w.heap.size 5 ia Try.underlying81 Try.underlying9 hia hza0 hza1 hza2 _ (L0 + 2 + 2) _ rfl OY.out val rfl (by unfold maxLen; omega) (by omega) hb3.size ?_; intro v3 w3 own3 gr3 _hx; have hb4 : Below w.heap.size w w3 := hb3.grown gr3 hb3.size (fun k hk => (OY.out.lt k hk).1); replace own3 : Hid (World.ownsRow _ _ _ _ _ _ _) := own3; clear gr3 _hx)
      refine ⟨⟨i + 1, E ++ (prB tag ++ prB (val.size : Int) ++ val.data.toList), by omega, by go_num, HS3, ?_, ?_, hb4⟩, by simp [intOf]; omega⟩
      · have h3 : val.data.toList.length = val.size := by simp
        simp only [List.length_append, prB, List.length_cons, List.length_nil]
        have := HL0.out
        omega
      · have h3 : val.data.toList.length = val.size := by simp
        have el : (E ++ (prB tag ++ prB (val.size : Int) ++ val.data.toList)).length = L0 + 2 + 2 + val.size := by
          simp only [List.length_append, prB, List.length_cons, List.length_nil]
          have := HL0.out
          omega
        rw [el, ← List.append_assoc, ← List.append_assoc, Lib.byteCells_append]
        exact own3.out
    · have HE : Hid (E = R) := by
        have := HS.out
        rw [List.take_of_length_le (by rw [HN.out]; omega), HRR.out] at this
        exact this.symm
      have hlt' : ¬ (i : Int) < (N : Int) := by omega
      have hcv : (convert 81 9 (.slice uo E.length uc)).run Try.prog wr = .ok (.string ⟨E.toArray⟩) wr := Lib0.run_str Try.underlying81 Try.underlying5 Try.underlying9 HOWN.out
      clear HOWN
      go_wp2
      go_ret
      exact ⟨by rw [← HE.out]; rfl, hwr, by rw [← HE.out]; omega⟩
/-- what BuildSub tells -/
def bsE (ts : List AT) : Int := if wsR 0 ts = 0 then if 9999 < (esS ts).length then 91 else 0 else wsR 0 ts
def bsS (ts : List AT) : ByteArray := if bsE ts = 0 then ⟨(esS ts).toArray⟩ else ⟨#[]⟩
set_option maxRecDepth 100000 in
theorem buildSub_any (ts : List AT) (v : Value) (w : World) (hr : Rdn w v ts) :
    Calls Try.prog 22 #[v] w fun e w' => e = .returned (.tuple #[.string (bsS ts), .int .i64 (bsE ts)]) ∧ Below w.heap.size w w' := by
  obtain ⟨S, HS⟩ : ∃ S, Hid (bsS ts = S) := ⟨_, rfl⟩
  obtain ⟨E, HE⟩ : ∃ E, Hid (bsE ts = E) := ⟨_, rfl⟩
  rw [HS.out, HE.out]
  have c1 := wrongSubs_any ts v w hr
  obtain ⟨o, cap, e, hN, -⟩ := hr.row
  obtain ⟨N, HN⟩ : ∃ N : Nat, Hid (ts.length = N) := ⟨_, rfl⟩
  rw [HN.out] at e
  subst e
  by_cases h0 : wsR 0 ts = 0
  · rw [h0] at c1
    have c2 := fun (y : World) (hy : Below w.heap.size w y) => subBytes_any ts (.slice o N cap) y (hr.below hy) h0
    obtain ⟨Z, HZ⟩ : ∃ Z, Hid (esS ts = Z) := ⟨_, rfl⟩
    simp only [HZ.out] at c2
    have hsz : (⟨Z.toArray⟩ : ByteArray).size = Z.length := rfl
    by_cases h9 : 9999 < Z.length
    · have HE2 : Hid (E = 91) := by show _ = _; rw [← HE.out]; unfold bsE; rw [if_pos h0, HZ.out, if_pos h9]
      have HS2 : Hid (S = ⟨#[]⟩) := by show _ = _; rw [← HS.out]; unfold bsS; rw [HE.out, HE2.out]; rfl
      have h9' : 9999 < ((⟨Z.toArray⟩ : ByteArray).size : Int) := by rw [hsz]; omega
      clear hr h0 HE HS hsz
      go_enter Try.func22, Try.ntmps22
      go_wp2_with fail
      refine c1.mono ?_
      rintro _ x ⟨rfl, hx⟩
      go_wp2_with fail
      refine (c2 x hx).mono ?_
      rintro _ y ⟨rfl, hy, hle⟩
      clear hle
      go_wp2
      go_ret2
      exact ⟨by rw [HE2.out, HS2.out]; rfl, keepB hx hy⟩
    · have HE2 : Hid (E = 0) := by show _ = _; rw [← HE.out]; unfold bsE; rw [if_pos h0, HZ.out, if_neg h9]
      have HS2 : Hid (S = ⟨Z.toArray⟩) := by show _ = _; rw [← HS.out]; unfold bsS; rw [HE.out, HE2.out, HZ.out]; rfl
      have h9' : ¬ 9999 < ((⟨Z.toArray⟩ : ByteArray).size : Int) := by rw [hsz]; omega
      clear hr h0 HE HS hsz
      go_enter Try.func22, Try.ntmps22
      go_wp2_with fail
      refine c1.mono ?_
      rintro _ x ⟨rfl, hx⟩
      go_wp2_with fail
      refine (c2 x hx).mono ?_
      rintro _ y ⟨rfl, hy, hle⟩
      clear hle
      go_wp2
      go_ret2
      exact ⟨by rw [HE2.out, HS2.out]; rfl, keepB hx hy⟩
  · have HE2 : Hid (wsR 0 ts = E) := by show _ = _; rw [← HE.out]; unfold bsE; rw [if_neg h0]
    have hne : ¬ E = 0 := by rw [← HE2.out]; exact h0
    have HS2 : Hid (S = ⟨#[]⟩) := by show _ = _; rw [← HS.out]; unfold bsS; rw [HE.out, if_neg hne]
    have hne' : (E != 0) = true := by simp; exact hne
    rw [HE2.out] at c1
    clear hr h0 HE HS hne
    go_enter Try.func22, Try.ntmps22
    go_wp2_with fail
    refine c1.mono ?_
    rintro _ x ⟨rfl, hx⟩
    go_wp2
    go_ret2
    exact ⟨by rw [HS2.out]; rfl, hx⟩
end Go.Proofs.Ytgidjfhlooggkaa.Sb
