/- Next. -/
import Derived.Test.YtmpcgmpobmnmmaaSh
namespace Go.Proofs.Ytmpcgmpobmnmmaa.Si
set_option linter.unusedVariables false
set_option linter.unusedSimpArgs false
open Go.RowKit Go.Maps Lib0 Kb Xp Za Zc Zd Ze Sa Sb Sc Sd Se Sf Sg Sh
attribute [local go_sem] Oper.semAt_some
def giveS (S : St) (a : Av) : St := outS (deadS (addG S a.no))
def nxF : Nat → St → St × Option (ByteArray × List Fl)
  | 0, S => (S, none)
  | n + 1, S => match S.L with
    | [] => (S, none)
    | a :: _ => if S.way = true ∧ S.ticks < S.retry then (S, none) else if S.sent < S.tries then (sendS S, some (mOf S a, lOf S a)) else nxF n (giveS S a)
theorem nxF_nil {n : Nat} {S : St} (h : S.L = []) : nxF (n + 1) S = (S, none) := by
  unfold nxF
  rw [h]
theorem nxF_cons {n : Nat} {S : St} {a : Av} {L : List Av} (h : S.L = a :: L) : nxF (n + 1) S = if S.way = true ∧ S.ticks < S.retry then (S, none) else if S.sent < S.tries then (sendS S, some (mOf S a, lOf S a)) else nxF n (giveS S a) := by
  conv => lhs; unfold nxF
  rw [h]
def nx (S : St) : St × Option (ByteArray × List Fl) := nxF (S.L.length + 1) S
def PostN (w : World) (base g : Nat) : St × Option (ByteArray × List Fl) → Ending → World → Prop
  | (S', none), e, w' => e = .returned (.tuple #[.agg #[.string ⟨#[]⟩, .slice none 0 0], .bool false]) ∧ PQ w base g S' w'
  | (S', some (m, M)), e, w' => ∃ v, e = .returned (.tuple #[.agg #[.string m, v], .bool true]) ∧ PostS w base g S' m M v w'
theorem res_row_tmp {P : Program} {fn : Func} {p u : Tmp} {ty : TypeId} (h : fn.results = #[.cell p ty, .tmp u]) (tmps : Array Value) (w : World) (g : Nat) (t : TypeId) (cs : Array Value) (fr : Nat × Nat) (d : TypeDesc)
    (hp : tmps.getD p undef = .pointer (some ⟨g, 0, none⟩)) (hg : w.heap[g]? = some (.cells cs t fr))
    (hu : P.underlying ty = some d) (hd : (match d with | .struct _ | .array _ _ => true | _ => false) = true) (hi : (P.info? ty).map (·.size) = some cs.size) :
    (results fn tmps).run P w = .ok (.tuple #[.agg cs, tmps.getD u undef]) w := by
  have hl := run_loadVar_row (P := P) w g t ty cs fr d hg hu hd hi
  simp only [results, h]
  simp only [Array.getD_eq_getD_getElem?] at hp
  simp [Result.andThen, hp, asAddr, hl]
def lenAt (w : World) (g : Nat) : Nat := match w.cell? ⟨g, 3, none⟩ with | some (.slice _ n _) => n | _ => 0
theorem len_at {w : World} {base g : Nat} {S : St} (h : Sq w base g S) : lenAt w g = S.L.length := by
  obtain ⟨vw, vg, zs, h⟩ := h
  obtain ⟨-, -, -, c3, -⟩ := h.cells
  obtain ⟨o, cp, rfl, -⟩ := own_form h.row
  rw [lenAt, c3]
  simp only []
  rw [← h.eq, List.length_map]
/-- nothing goes out -/
theorem end_none {w x : World} {base g : Nat} {S' : St} (tm : Array Value) (hp : tm.getD 4 undef = .pointer (some ⟨w.heap.size, 0, none⟩)) (h5 : tm.getD 5 undef = .bool false) (hy : x.heap[w.heap.size]? = some (.cells #[.string ⟨#[]⟩, .slice none 0 0] tG)) (hq : PQ w base g S' x) (hbase : base ≤ w.heap.size) :
    bodyPost Try.prog Try.f22 (PostN w base g (S', none)) .ret ⟨tm, []⟩ ((x.setCell ⟨w.heap.size, 0, none⟩ (.string ⟨#[]⟩)).setCell ⟨w.heap.size, 1, none⟩ (.slice none 0 0)) := by
  have h6 : ((x.setCell ⟨w.heap.size, 0, none⟩ (.string ⟨#[]⟩)).setCell ⟨w.heap.size, 1, none⟩ (.slice none 0 0)).heap[w.heap.size]? = some (.cells #[.string ⟨#[]⟩, .slice none 0 0] tG) := setCell_heap (setCell_heap hy 0 _) 1 _
  refine bodyPost_ret (v := .tuple #[.agg #[.string ⟨#[]⟩, .slice none 0 0], .bool false]) ((res_row_tmp (fn := Try.f22) rfl _ _ w.heap.size tG _ _ _ hp h6 Try.underlying52 rfl infoG).trans (by rw [h5])) rfl ⟨rfl, PQ.msg hq hy (Nat.le_refl _) hbase _ _⟩
theorem end_some {w x : World} {base g : Nat} {S' : St} {mti : ByteArray} {v : Value} {M : List Fl} (tm : Array Value) (hp : tm.getD 4 undef = .pointer (some ⟨w.heap.size, 0, none⟩)) (h5 : tm.getD 5 undef = .bool true) (hy : x.heap[w.heap.size]? = some (.cells #[.string ⟨#[]⟩, .slice none 0 0] tG)) (hr : x.ownsRow w.heap.size tF 3 v M.length (fc M)) (hnl : M = [] → v = .slice none 0 0) (hq : PQ w base g S' x) (hbase : base ≤ w.heap.size) :
    bodyPost Try.prog Try.f22 (PostN w base g (S', some (mti, M))) .ret ⟨tm, []⟩ ((x.setCell ⟨w.heap.size, 0, none⟩ (.string mti)).setCell ⟨w.heap.size, 1, none⟩ v) := by
  have h6 : ((x.setCell ⟨w.heap.size, 0, none⟩ (.string mti)).setCell ⟨w.heap.size, 1, none⟩ v).heap[w.heap.size]? = some (.cells #[.string mti, v] tG) := setCell_heap (setCell_heap hy 0 _) 1 _
  refine bodyPost_ret (v := .tuple #[.agg #[.string mti, v], .bool true]) ((res_row_tmp (fn := Try.f22) rfl _ _ w.heap.size tG _ _ _ hp h6 Try.underlying52 rfl infoG).trans (by rw [h5])) rfl ⟨v, rfl, ?_, hnl, PQ.msg hq hy (Nat.le_refl _) hbase _ _⟩
  refine own_keep hr fun k hk => ?_
  have hne : w.heap.size ≠ k := fun e => by
    obtain ⟨cy, hcy⟩ := own_ty hr hk
    rw [← e, hy] at hcy
    injection hcy with hcy; injection hcy with _ hcy; exact absurd hcy (by decide)
  rw [setCell_ne (p := ⟨w.heap.size, 1, none⟩) hne, setCell_ne (p := ⟨w.heap.size, 0, none⟩) hne]
theorem box_facts {w x : World} (hx : x.heap[w.heap.size]? = some (.cells #[.string ⟨#[]⟩, .slice none 0 0] tG (0, 0))) : x.cell? ⟨w.heap.size, 0, none⟩ = some (.string ⟨#[]⟩) ∧ x.cell? ⟨w.heap.size, 1, none⟩ = some (.slice none 0 0) ∧ x.frozen? ⟨w.heap.size, 0, none⟩ = false ∧ x.frozen? ⟨w.heap.size, 1, none⟩ = false := ⟨by simp [World.cell?, hx], by simp [World.cell?, hx], by simp [World.frozen?, hx], by simp [World.frozen?, hx]⟩
/-- what holds at each round -/
structure Rn (w wr : World) (base g : Nat) (S S' : St) (n : Nat) : Prop where
  ok : Ok S'
  gn : S'.gone.length + S'.L.length ≤ 1000000
  pq : PQ w base g S' wr
  fu : S'.L.length < n
  eq : nxF n S' = nx S
  bx : wr.heap[w.heap.size]? = some (.cells #[.string ⟨#[]⟩, .slice none 0 0] tG (0, 0))
theorem pq_low {w x y : World} {base g : Nat} {S S' : St} (h : PQ w base g S x) (hb : base ≤ x.heap.size) (k : PQ x base g S' y) : PQ w base g S' y := ⟨k.1, h.2.1.trans k.2.1, h.2.2.trans k.2.2⟩
set_option maxRecDepth 100000 in
set_option maxHeartbeats 3200000 in
theorem next_yes {w : World} {base g : Nat} {S : St} (h : Sq w base g S) (ok : Ok S) (hgn : S.gone.length + S.L.length ≤ 1000000) : Calls Try.prog 22 #[.pointer (some ⟨g, 0, none⟩), .bool true] w fun e w' => PostN w base g (nx S) e w' := by
  have hbase : base ≤ w.heap.size := by obtain ⟨_, _, _, q⟩ := h; exact q.bas
  obtain ⟨y0, hy0⟩ : ∃ y0, w.alloc (.cells #[.string ⟨#[]⟩, .slice none 0 0] tG) = y0 := ⟨_, rfl⟩
  have b0 : Below w.heap.size w y0 := hy0 ▸ below_one w _
  have HR0 : Hid (Rn w y0 base g S S (S.L.length + 1)) := ⟨ok, hgn, PQ.of h b0, by omega, rfl, hy0 ▸ h1_0 w _⟩
  clear h ok hgn b0
  go_enter Try.func22, Try.ntmps22
  go_wp2_with fail
  try rw [hy0]
  go_loopw [5] (fun bv wr => bv = .bool false ∧ ∃ S' n, Hid (Rn w wr base g S S' n)) (fun _ wr => lenAt wr g)
  case atStart => exact ⟨rfl, S, _, HR0⟩
  case round =>
    obtain ⟨rfl, S', n, HRN⟩ := hrel
    clear HR0 hy0
    have HOK : Hid (Ok S') := HRN.out.ok
    have HBX : Hid (wr.heap[w.heap.size]? = some (.cells #[.string ⟨#[]⟩, .slice none 0 0] tG (0, 0))) := HRN.out.bx
    have HPQ : Hid (PQ w base g S' wr) := HRN.out.pq
    have HD : Hid (∀ n, Below wr.heap.size wr (wr.drewN n)) := fun n => below_drewN (Below.refl _ wr) n
    obtain ⟨vw, vg, zs, hq⟩ := HPQ.out.1
    obtain ⟨-, c1, c2, c3, c4, c5, c6, -⟩ := hq.cells
    have hbw : base ≤ wr.heap.size := hq.bas
    have HX : Hid (∀ x, Below wr.heap.size wr x → Hid (PQ w base g S' x) ∧ Hid (x.heap[w.heap.size]? = some (.cells #[.string ⟨#[]⟩, .slice none 0 0] tG (0, 0)))) := fun x hx => ⟨pq_low HPQ.out hbw (PQ.of HPQ.out.1 hx), kept hx HBX.out⟩
    have dx := fun n => box_facts (HX.out _ (HD.out n)).2.out
    have DX : Hid _ := dx
    have F : Hid (∀ x, Below wr.heap.size wr x → x.cell? ⟨g, 1, none⟩ = some (.int .i64 S'.retry) ∧ x.cell? ⟨g, 2, none⟩ = some (.int .i64 S'.tries) ∧ x.cell? ⟨g, 4, none⟩ = some (.int .i64 S'.sent)) := fun x hx => by
      obtain ⟨-, z1, z2, -, z4, -⟩ := (hq.below hx).cells
      exact ⟨z1, z2, z4⟩
    obtain ⟨k, hk⟩ : ∃ k, n = k + 1 := ⟨n - 1, by have := HRN.out.fu; omega⟩
    subst hk
    clear dx
    cases hL : S'.L with
    | nil =>
      have HE : Hid (nx S = (S', none)) := by rw [← HRN.out.eq]; exact nxF_nil hL
      have hz : zs.length = 0 := by have := hq.eq; rw [hL] at this; simpa using this
      obtain ⟨o, cp, rfl, -⟩ := own_form hq.row
      rw [hz] at c3
      obtain ⟨x0, x1, x2, x3⟩ := box_facts HBX.out
      clear hq hz hL
      go_wp2_with fail
      rw [HE.out]
      exact end_none _ rfl rfl HBX.out HPQ.out hbase
    | cons a L =>
      obtain ⟨rb, cap, kk, rfl, -⟩ := first_cells hq hL
      obtain ⟨N, hN⟩ : ∃ N, L.length = N := ⟨_, rfl⟩
      rw [hN] at c3
      have q0 : (0 : Int) < ((N + 1 : Nat) : Int) := by omega
      have HSEND : Hid (∀ x, Below wr.heap.size wr x → Calls Try.prog 45 #[.pointer (some ⟨g, 0, none⟩)] x fun e w' => ∃ v, e = .returned (.agg #[.string (mOf S' a), v]) ∧ PostS x base g (sendS S') (mOf S' a) (lOf S' a) v w') := fun x hx => send_any (HPQ.out.1.below hx) HOK.out a L hL
      have HGIVE : Hid (∀ x, Below wr.heap.size wr x → Calls Try.prog 46 #[.pointer (some ⟨g, 0, none⟩)] x fun e w' => e = .returned (.tuple #[]) ∧ PQ x base g (giveS S' a) w') := fun x hx => giveUp_any (HPQ.out.1.below hx) HOK.out (by have := HRN.out.gn; rw [hL] at this; simp only [List.length_cons] at this; omega) a L hL
      have HLL : Hid (S'.L = a :: L) := hL
      have HENDS : Hid (∀ m v x, PostS (wr.drewN m) base g (sendS S') (mOf S' a) (lOf S' a) v x → (∃ o n c, v = .slice o n c) ∧ (x.cell? ⟨w.heap.size, 0, none⟩ = some (.string ⟨#[]⟩) ∧ x.cell? ⟨w.heap.size, 1, none⟩ = some (.slice none 0 0) ∧ x.frozen? ⟨w.heap.size, 0, none⟩ = false ∧ x.frozen? ⟨w.heap.size, 1, none⟩ = false) ∧ Hid (x.heap[w.heap.size]? = some (.cells #[.string ⟨#[]⟩, .slice none 0 0] tG (0, 0)) ∧ x.ownsRow w.heap.size tF 3 v (lOf S' a).length (fc (lOf S' a)) ∧ (lOf S' a = [] → v = .slice none 0 0) ∧ PQ w base g (sendS S') x)) := fun m v x hs => by
        obtain ⟨hr, hnl, hp⟩ := hs
        have hx : x.heap[w.heap.size]? = some (.cells #[.string ⟨#[]⟩, .slice none 0 0] tG (0, 0)) := (hp.2.1.block _ _ _ _ (HX.out _ (HD.out m)).2.out (by decide) (by decide) (by decide)).trans (HX.out _ (HD.out m)).2.out
        obtain ⟨o, c, e, -⟩ := own_form hr
        exact ⟨⟨o, _, c, e⟩, box_facts hx, hx, own_low hr (Nat.le_trans HPQ.out.2.1.size (HD.out m).size), hnl, pq_low (HX.out _ (HD.out m)).1.out (Nat.le_trans hbw (HD.out m).size) hp⟩
      have HENDG : Hid (∀ m x, nxF k (giveS S' a) = nx S → PQ (wr.drewN m) base g (giveS S' a) x → Hid (Rn w x base g S (giveS S' a) k) ∧ lenAt x g < lenAt wr g) := fun m x he hp => by
        have hx : x.heap[w.heap.size]? = some (.cells #[.string ⟨#[]⟩, .slice none 0 0] tG (0, 0)) := (hp.2.1.block _ _ _ _ (HX.out _ (HD.out m)).2.out (by decide) (by decide) (by decide)).trans (HX.out _ (HD.out m)).2.out
        have hgl : (giveS S' a).L = L := by show S'.L.tail = L; rw [hL]; rfl
        have hgg : (giveS S' a).gone.length = S'.gone.length + 1 := by show (S'.gone ++ [a.no]).length = _; simp
        have e1 := HRN.out.gn
        have e2 := HRN.out.fu
        rw [hL] at e1 e2
        simp only [List.length_cons] at e1 e2
        refine ⟨⟨ok_out (ok_dead HOK.out (by omega) _), by rw [hgl, hgg]; omega, pq_low (HX.out _ (HD.out m)).1.out (Nat.le_trans hbw (HD.out m).size) hp, by rw [hgl]; omega, he, hx⟩, ?_⟩
        rw [len_at hp.1, len_at HPQ.out.1, hgl, hL, List.length_cons]
        omega
      clear hq hN hL
      by_cases hwy : S'.way = true
      · by_cases hti : S'.ticks < S'.retry
        · have HE : Hid (nx S = (S', none)) := by rw [← HRN.out.eq]; rw [nxF_cons HLL.out]; rw [if_pos ⟨hwy, hti⟩]; rfl
          rw [hwy] at c5
          clear hwy
          have HTI : Hid (decide (S'.ticks < S'.retry) = true) := decide_eq_true hti
          clear hti
          go_wp2_with fail
          have hti2 := HTI.out
          go_quiet (fail)
          have dx := DX.out
          go_wp2_with fail
          rw [HE.out]
          exact end_none _ rfl rfl (HX.out _ (HD.out _)).2.out (HX.out _ (HD.out _)).1.out hbase
        · by_cases hse : S'.sent < S'.tries
          · rw [hwy] at c5
            have HE : Hid (nx S = (sendS S', some (mOf S' a, lOf S' a))) := by rw [← HRN.out.eq]; rw [nxF_cons HLL.out]; rw [if_neg (fun h => hti h.2), if_pos hse]; rfl
            clear hwy
            have HTI : Hid (decide (S'.ticks < S'.retry) = false) := decide_eq_false hti
            clear hti
            have HSE : Hid (decide (S'.sent < S'.tries) = true) := decide_eq_true hse
            clear hse
            go_wp2_with fail
            have hti2 := HTI.out
            go_quiet (fail)
            have f2 := fun n => (F.out _ (HD.out n)).2
            go_wp2_with fail
            have hse2 := HSE.out
            go_quiet (fail)
            go_wp2_with fail
            refine (HSEND.out _ (HD.out _)).mono ?_
            rintro e x ⟨v, rfl, hs⟩
            obtain ⟨⟨ov, nv, cv, rfl⟩, ⟨t0, t1, t2, t3⟩, HN⟩ := HENDS.out _ _ _ hs
            clear hs
            go_wp2_with fail
            rw [HE.out]
            exact end_some _ rfl rfl HN.out.1 HN.out.2.1 HN.out.2.2.1 HN.out.2.2.2 hbase
          · rw [hwy] at c5
            have HE : Hid (nxF k (giveS S' a) = nx S) := by rw [← HRN.out.eq]; rw [nxF_cons HLL.out]; rw [if_neg (fun h => hti h.2), if_neg hse]; rfl
            clear hwy
            have HTI : Hid (decide (S'.ticks < S'.retry) = false) := decide_eq_false hti
            clear hti
            have HSE : Hid (decide (S'.sent < S'.tries) = false) := decide_eq_false hse
            clear hse
            go_wp2_with fail
            have hti2 := HTI.out
            go_quiet (fail)
            have f2 := fun n => (F.out _ (HD.out n)).2
            go_wp2_with fail
            have hse2 := HSE.out
            go_quiet (fail)
            go_wp2_with fail
            refine (HGIVE.out _ (HD.out _)).mono ?_
            rintro e x ⟨rfl, hp⟩
            have HN : Hid _ := HENDG.out _ _ HE.out hp
            clear hp
            go_wp2_with fail
            exact ⟨⟨rfl, _, _, HN.out.1⟩, HN.out.2⟩
      · replace hwy : S'.way = false := by simpa using hwy
        by_cases hse : S'.sent < S'.tries
        · rw [hwy] at c5
          have HE : Hid (nx S = (sendS S', some (mOf S' a, lOf S' a))) := by rw [← HRN.out.eq]; rw [nxF_cons HLL.out]; rw [if_neg (fun h => by rw [hwy] at h; cases h.1), if_pos hse]; rfl
          clear hwy
          have HSE : Hid (decide (S'.sent < S'.tries) = true) := decide_eq_true hse
          clear hse
          go_wp2_with fail
          go_quiet (fail)
          have f2 := fun n => (F.out _ (HD.out n)).2
          go_wp2_with fail
          have hse2 := HSE.out
          go_quiet (fail)
          go_wp2_with fail
          refine (HSEND.out _ (HD.out _)).mono ?_
          rintro e x ⟨v, rfl, hs⟩
          obtain ⟨⟨ov, nv, cv, rfl⟩, ⟨t0, t1, t2, t3⟩, HN⟩ := HENDS.out _ _ _ hs
          clear hs
          go_wp2_with fail
          rw [HE.out]
          exact end_some _ rfl rfl HN.out.1 HN.out.2.1 HN.out.2.2.1 HN.out.2.2.2 hbase
        · rw [hwy] at c5
          have HE : Hid (nxF k (giveS S' a) = nx S) := by rw [← HRN.out.eq]; rw [nxF_cons HLL.out]; rw [if_neg (fun h => by rw [hwy] at h; cases h.1), if_neg hse]; rfl
          clear hwy
          have HSE : Hid (decide (S'.sent < S'.tries) = false) := decide_eq_false hse
          clear hse
          go_wp2_with fail
          go_quiet (fail)
          have f2 := fun n => (F.out _ (HD.out n)).2
          go_wp2_with fail
          have hse2 := HSE.out
          go_quiet (fail)
          go_wp2_with fail
          refine (HGIVE.out _ (HD.out _)).mono ?_
          rintro e x ⟨rfl, hp⟩
          have HN : Hid _ := HENDG.out _ _ HE.out hp
          clear hp
          go_wp2_with fail
          exact ⟨⟨rfl, _, _, HN.out.1⟩, HN.out.2⟩
end Go.Proofs.Ytmpcgmpobmnmmaa.Si
