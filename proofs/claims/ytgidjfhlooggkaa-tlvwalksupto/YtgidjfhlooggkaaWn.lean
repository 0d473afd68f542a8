/- The document's writer: nodes as bytes. -/
import Derived.Test.YtgidjfhlooggkaaRn
import Derived.Test.YtgidjfhlooggkaaAg
import Derived.Test.YtgidjfhlooggkaaBs
import Derived.Test.YtgidjfhlooggkaaLw
namespace Go.Proofs.Ytgidjfhlooggkaa.Wn
set_option linter.unusedVariables false
set_option linter.unusedSimpArgs false
open Go.RowKit Kb Ga Gb Gc Gd Nt Gf Gg Nb Rn Wk Wr Ls Ag
set_option maxRecDepth 100000 in
set_option maxHeartbeats 1600000 in
theorem length_big (n : Int) (w : World) (h0 : 0 ≤ n) (h1 : n ≤ 9223372036854775807) :
    Calls Try.prog 71 #[.int .i64 n] w fun e w' => e = .returned (.string ⟨(lnB n).toArray⟩) ∧ Below w.heap.size w w' := by
  obtain ⟨R, HR⟩ : ∃ R : ByteArray, Hid ((⟨(lnB n).toArray⟩ : ByteArray) = R) := ⟨_, rfl⟩
  rw [HR.out]
  by_cases c1 : n < 128
  · have k1 := fun y => number_doc n 1 y h0 (by omega) (by omega)
    rw [show (⟨(nB n 1).toArray⟩ : ByteArray) = R by rw [← HR.out, nB1]; unfold lnB; rw [if_pos (by omega)]] at k1
    go_enter Try.func71, Try.ntmps71
    go_wp2_with fail
    refine (k1 _).mono ?_
    rintro _ y ⟨rfl, hy⟩
    go_wp2
    go_ret
    exact ⟨rfl, hy⟩
  · by_cases c2 : n < 256
    · have k1 := fun y => number_doc n 1 y h0 (by omega) (by omega)
      have k2 := fun y => number_doc 129 1 y (by omega) (by omega) (by omega)
      obtain ⟨A, HA⟩ : ∃ A : ByteArray, Hid ((⟨(nB 129 1).toArray⟩ : ByteArray) = A) := ⟨_, rfl⟩
      obtain ⟨B, HB⟩ : ∃ B : ByteArray, Hid ((⟨(nB n 1).toArray⟩ : ByteArray) = B) := ⟨_, rfl⟩
      have HC : Hid (A ++ B = R) := by
        show _ = _
        rw [← HR.out, ← HA.out, ← HB.out, cat2, nB1, nB1]
        unfold lnB
        rw [if_neg (by omega), if_pos (by omega)]
        rfl
      have sA : A.size = 1 := by rw [← HA.out]; rfl
      have sB : B.size = 1 := by rw [← HB.out]; rfl
      rw [HB.out] at k1
      rw [HA.out] at k2
      go_enter Try.func71, Try.ntmps71
      go_wp2_with fail
      refine (k2 _).mono ?_
      rintro _ y ⟨rfl, hy⟩
      go_wp2_with fail
      refine (k1 _).mono ?_
      rintro _ y2 ⟨rfl, hy2⟩
      go_wp2
      go_ret
      exact ⟨by rw [← HC.out]; rfl, keepB hy hy2⟩
    · have k1 := fun y => number_doc n 2 y h0 (by omega) (by omega)
      have k2 := fun y => number_doc 130 1 y (by omega) (by omega) (by omega)
      obtain ⟨A, HA⟩ : ∃ A : ByteArray, Hid ((⟨(nB 130 1).toArray⟩ : ByteArray) = A) := ⟨_, rfl⟩
      obtain ⟨B, HB⟩ : ∃ B : ByteArray, Hid ((⟨(nB n 2).toArray⟩ : ByteArray) = B) := ⟨_, rfl⟩
      have HC : Hid (A ++ B = R) := by
        show _ = _
        rw [← HR.out, ← HA.out, ← HB.out, cat2, nB1, nB2]
        unfold lnB
        rw [if_neg (by omega), if_neg (by omega)]
        rfl
      have sA : A.size = 1 := by rw [← HA.out]; rfl
      have sB : B.size = 2 := by rw [← HB.out]; rfl
      rw [HB.out] at k1
      rw [HA.out] at k2
      go_enter Try.func71, Try.ntmps71
      go_wp2_with fail
      refine (k2 _).mono ?_
      rintro _ y ⟨rfl, hy⟩
      go_wp2_with fail
      refine (k1 _).mono ?_
      rintro _ y2 ⟨rfl, hy2⟩
      go_wp2
      go_ret
      exact ⟨by rw [← HC.out]; rfl, keepB hy hy2⟩
theorem nB_tg (t : Int) (h : 0 < tgS t) : nB t (tgS t).toNat = tgB t := by
  have hb := tgS_bd t
  unfold tgB
  rcases (by omega : tgS t = 1 ∨ tgS t = 2 ∨ tgS t = 3) with e | e | e <;> rw [e]
  · rw [if_pos rfl]; rfl
  · rw [if_neg (by omega), if_pos rfl]; rfl
  · rw [if_neg (by omega), if_neg (by omega), if_pos rfl]
    show [b8 (t / 256 / 256), b8 (t / 256), b8 t] = _
    rw [show t / 256 / 256 = t / 65536 by omega]
def Wb (w : World) (g : Nat) (m e : Int) : Prop := w.heap[g]? = some (.cells #[.int .i64 m, .int .i64 e] 75)
theorem Wb.at {w : World} {g : Nat} {m e : Int} (h : Wb w g m e) : (w.cell? ⟨g, 0, none⟩ = some (.int .i64 m) ∧ w.cell? ⟨g, 1, none⟩ = some (.int .i64 e)) ∧ ∀ o, w.frozen? ⟨g, o, none⟩ = false := by
  have h' : w.heap[g]? = some (.cells #[.int .i64 m, .int .i64 e] 75) := h
  refine ⟨⟨?_, ?_⟩, fun o => ?_⟩ <;> simp [World.cell?, World.frozen?, h']
theorem Wb.set0 {w : World} {g : Nat} {m e : Int} (h : Wb w g m e) (x : Int) : Wb (w.setCell ⟨g, 0, none⟩ (.int .i64 x)) g x e := by unfold Wb; rw [setCell_heap h]; rfl
theorem Wb.set1 {w : World} {g : Nat} {m e : Int} (h : Wb w g m e) (x : Int) : Wb (w.setCell ⟨g, 1, none⟩ (.int .i64 x)) g m x := by unfold Wb; rw [setCell_heap h]; rfl
theorem wrR_stop : ∀ (a : List El) (c : Nat) (b : List El), wrR c a ≠ 0 → wrR c (a ++ b) = wrR c a
  | [], c, b, h => by simp [wrR] at h
  | x :: a, c, b, h => by
    by_cases h1 : wr1 c x = 0
    · rw [List.cons_append, wrR_cons _ h1, wrR_cons _ h1]
      rw [wrR_cons _ h1] at h
      exact wrR_stop a (c + 1) b h
    · rw [List.cons_append, wrR_hit _ h1, wrR_hit _ h1]
theorem st_drop (d : Nat) (ts : List AT) (i : Nat) (h : i < ts.length) : steps d (ts.drop i) = (d, ts[i]) :: (steps (d + 1) ts[i].kids ++ steps d (ts.drop (i + 1))) := by
  rw [List.drop_eq_getElem_cons h]
  cases ts[i]
  simp only [steps, AT.kids]
theorem st_take (d : Nat) (ts : List AT) (i : Nat) (h : i < ts.length) : (steps d (ts.take (i + 1))).length = (steps d (ts.take i)).length + 1 + (steps (d + 1) ts[i].kids).length := by
  rw [List.take_succ_eq_append_getElem h, steps_append, List.length_append]
  cases ts[i]
  simp only [steps, AT.kids, List.length_cons, List.length_append, List.append_nil]
  omega
theorem en_app : ∀ (a b : List Tr), enT (a ++ b) = enT a ++ enT b
  | [], b => by simp [enT]
  | .mk t v ks :: a, b => by simp [enT, en_app a b]
theorem lnS_mono {a b : Int} (h : a ≤ b) : lnS a ≤ lnS b := by
  unfold lnS
  repeat' split
  all_goals omega
theorem lsz_take_le : ∀ (ts : List AT) (i : Nat), lsz (ts.take i) ≤ lsz ts
  | [], i => by simp
  | .mk t v kv ks :: ts, 0 => by simp [lsz]
  | .mk t v kv ks :: ts, i + 1 => by
    have := lsz_take_le ts i
    simp only [List.take_succ_cons, lsz]
    omega
structure PW (w : World) (g m d : Nat) (R : Int) (L C : Nat) (T : List UInt8) (S : ByteArray) (E' m' : Int) (w' : World) : Prop where
  wb : Wb w' g m' E'
  gr : w.grownBy w' (some g)
  sz : S.size ≤ L
  er : E' = R
  ok : E' = 0 → m' = ((m + C : Nat) : Int) ∧ m + C ≤ 500 ∧ S = ⟨T.toArray⟩
def PostW (w : World) (g m d : Nat) (R : Int) (L C : Nat) (T : List UInt8) (e : Ending) (w' : World) : Prop := ∃ S E' m', e = .returned (.string S) ∧ PW w g m d R L C T S E' m' w'
def NodesW (n : Nat) : Prop := ∀ (ts : List AT) (v : Value) (w : World) (g m d : Nat), SizeOf.sizeOf ts < n → (∀ x, w.grownBy x (some g) → Rdn x v ts) → Wb w g (m : Int) 0 → m ≤ 500 → d ≤ 9 → lsz ts ≤ 1099511627776 →
  Calls Try.prog 39 #[.pointer (some ⟨g, 0, none⟩), v, .int .i64 (d : Int)] w (PostW w g m d (wrR m (steps d ts)) (lsz ts) (steps d ts).length (enT (er ts)))
/-- how far it is -/
structure SW (w : World) (g m d : Nat) (ts : List AT) (i : Nat) (S : ByteArray) (E' m' : Int) (wr : World) : Prop where
  wb : Wb wr g m' E'
  gr : w.grownBy wr (some g)
  sz : S.size ≤ lsz (ts.take i)
  st : (E' = 0 ∧ m' = ((m + (steps d (ts.take i)).length : Nat) : Int) ∧ m + (steps d (ts.take i)).length ≤ 500 ∧ S = ⟨(enT (er (ts.take i))).toArray⟩ ∧ wrR m (steps d ts) = wrR (m + (steps d (ts.take i)).length) (steps d (ts.drop i))) ∨ (E' ≠ 0 ∧ E' = wrR m (steps d ts))
def numW (x : World) (b : Nat) : Int := intOf ((x.cell? ⟨b, 1, none⟩).getD undef)
theorem numW_of {x : World} {g : Nat} {m e : Int} (h : Wb x g m e) : numW x g = e := by unfold numW; rw [h.at.1.2]; rfl
set_option maxRecDepth 100000 in
set_option maxHeartbeats 6400000 in
theorem nodesw_step {n : Nat} (ih : NodesW n) (ts : List AT) (v : Value) (w : World) (g m d : Nat) (hsz : SizeOf.sizeOf ts < n + 1) (hg : ∀ x, w.grownBy x (some g) → Rdn x v ts) (hw : Wb w g (m : Int) 0) (hm : m ≤ 500) (hd : d ≤ 9) (hL : lsz ts ≤ 1099511627776) :
    Calls Try.prog 39 #[.pointer (some ⟨g, 0, none⟩), v, .int .i64 (d : Int)] w (PostW w g m d (wrR m (steps d ts)) (lsz ts) (steps d ts).length (enT (er ts))) := by
  have HG : Hid (∀ x, w.grownBy x (some g) → Rdn x v ts) := hg
  have hr := hg w (gr_refl _ _)
  have hgw : g < w.heap.size := (Array.getElem?_eq_some_iff.1 hw).1
  obtain ⟨o, cap, e, hN, -⟩ := hr.row
  obtain ⟨N, HN, hN2⟩ : ∃ N : Nat, Hid (ts.length = N) ∧ N ≤ 1048576 := ⟨_, rfl, hN⟩
  rw [HN.out] at e
  subst e
  have HZ : Hid (SizeOf.sizeOf ts < n + 1) := hsz
  obtain ⟨R, HR⟩ : ∃ R, Hid (wrR m (steps d ts) = R) := ⟨_, rfl⟩
  obtain ⟨L, HL⟩ : ∃ L, Hid (lsz ts = L) := ⟨_, rfl⟩
  obtain ⟨C, HC⟩ : ∃ C, Hid ((steps d ts).length = C) := ⟨_, rfl⟩
  obtain ⟨T, HT⟩ : ∃ T, Hid (enT (er ts) = T) := ⟨_, rfl⟩
  rw [HR.out, HL.out, HC.out, HT.out]
  have hL2 : L ≤ 1099511627776 := by rw [← HL.out]; exact hL
  have HTL : Hid (∀ i, lsz (ts.take i) ≤ L) := fun i => by rw [← HL.out]; exact lsz_take_le ts i
  have HW0 : Hid (Wb w g (m : Int) 0) := hw
  clear hr hN hsz hg hw hL
  go_enter Try.func39, Try.ntmps39
  go_wp2
  go_loopw [7, 8] (fun vs vi wr => ∃ (i : Nat) (S : ByteArray) (E' m' : Int), i ≤ N ∧ vi = .int .i64 (i : Int) ∧ vs = .string S ∧ Hid (SW w g m d ts i S E' m' wr)) (fun _ vi wr => if numW wr g = 0 then N + 1 - (intOf vi).toNat else 0)
  case atStart => exact ⟨0, ⟨#[]⟩, 0, (m : Int), Nat.zero_le _, rfl, rfl, HW0.out, gr_refl _ _, Nat.zero_le _, .inl ⟨rfl, by simp [steps], by simpa [steps] using hm, by simp [er, enT], by simp [steps]⟩⟩
  case round =>
    obtain ⟨i, S, E', m', hi, rfl, rfl, HI⟩ := hrel
    rename World => wr
    have hsS : S.size ≤ 1099511627776 := Nat.le_trans HI.out.sz (Nat.le_trans (HTL.out i) hL2)
    obtain ⟨⟨c0, c1⟩, fz⟩ := HI.out.wb.at
    have hgr := HI.out.gr
    have hsw : w.heap.size ≤ wr.heap.size := hgr.size
    by_cases hlt : i < N
    case neg =>
      have hlt' : ¬ (i : Int) < (N : Int) := by omega
      have HP : Hid (PW w g m d R L C T S E' m' wr) := by
        refine ⟨HI.out.wb, hgr, Nat.le_trans HI.out.sz (HTL.out i), ?_, fun h0 => ?_⟩
        · rcases HI.out.st with ⟨h1, h2, h3, h4, h5⟩ | ⟨h1, h2⟩
          · rw [← HR.out, h5, h1, List.drop_eq_nil_of_le (by rw [HN.out]; omega)]
            simp [steps, wrR]
          · rw [← HR.out]; exact h2
        · rcases HI.out.st with ⟨h1, h2, h3, h4, h5⟩ | ⟨h1, h2⟩
          · rw [List.take_of_length_le (by rw [HN.out]; omega)] at h2 h3 h4
            rw [HC.out] at h2 h3
            rw [HT.out] at h4
            exact ⟨h2, h3, h4⟩
          · exact absurd h0 h1
      clear c0 c1 fz
      go_wp2
      go_ret
      exact ⟨S, E', m', rfl, HP.out⟩
    have hlt' : (i : Int) < (N : Int) := by omega
    rcases HI.out.st with ⟨hE, hm', hmm, hS, hRR⟩ | ⟨hE, hER⟩
    case inr =>
      have hE' : (E' == 0) = false := by simpa using hE
      have HP : Hid (PW w g m d R L C T S E' m' wr) := ⟨HI.out.wb, hgr, Nat.le_trans HI.out.sz (HTL.out i), by rw [← HR.out]; exact hER, fun h0 => absurd h0 hE⟩
      clear c0 fz hE hER
      go_wp2
      go_ret
      exact ⟨S, E', m', rfl, HP.out⟩
    subst hE
    obtain ⟨M, HM⟩ : ∃ M, Hid (m + (steps d (ts.take i)).length = M) := ⟨_, rfl⟩
    rw [HM.out] at hm' hmm hRR
    subst hm'
    have hnum := numW_of HI.out.wb
    have hia2 : i < ts.length := by rw [HN.out]; exact hlt
    rw [st_drop d ts i hia2] at hRR
    have hst := st_take d ts i hia2
    have rd := HG.out wr hgr
    have ka := rdL_at ts i hia2 rd.kids
    have kg : ∀ x, w.grownBy x (some g) → Rdn x ts[i].kv ts[i].kids := fun x hx => (rdL_at ts i hia2 (HG.out x hx).kids).1
    have hzl := kids_lt hia2
    have hz0 := HZ.out
    have hls := lsz_snoc ts i hia2
    have hlt2 := HTL.out (i + 1)
    have htk := Lw.er_take ts i hia2
    obtain ⟨x, hx⟩ : ∃ y, y = ts[i] := ⟨_, rfl⟩
    obtain ⟨o', cap', e', _, hc2⟩ := rd.row
    obtain ⟨a, ea, q0, q1, q2⟩ := hc2 i hia2
    rw [HN.out] at e'
    obtain ⟨rfl, rfl⟩ : o = o' ∧ cap = cap' := by simpa using e'
    subst ea
    rw [← hx] at hRR hst ka kg hzl hls htk q0 q1 q2
    clear hc2 e' hx rd
    cases x with
    | mk tag val kv ks =>
    simp only [AT.tag, AT.val, AT.kv, AT.kids, osz, csz] at hRR hst ka kg hzl hls htk q0 q1 q2
    obtain ⟨lo, lc, hkv, hkl, -⟩ := ka.1.row
    obtain ⟨KL, HKL, hKL⟩ : ∃ L, Hid (ks.length = L) ∧ L ≤ 1048576 := ⟨_, rfl, hkl⟩
    rw [HKL.out] at hkv
    subst hkv
    obtain ⟨KT, HKT, hKT⟩ : ∃ K : Nat, Hid (tgS tag = (K : Int)) ∧ K ≤ 3 := ⟨(tgS tag).toNat, by show _ = _; have := tgS_bd tag; omega, by have := tgS_bd tag; omega⟩
    have HWC : Hid (∀ y, wrC M d tag val KL = y → R = if y = 0 then wrR (M + 1) (steps (d + 1) ks ++ steps d (ts.drop (i + 1))) else y) := fun y hy => by
      have h1 : wr1 M (d, AT.mk tag val (.slice lo KL lc) ks) = y := by rw [← hy, ← HKL.out]; rfl
      rw [← HR.out, hRR]
      by_cases h0 : y = 0
      · rw [if_pos h0, wrR_cons _ (h1.trans h0)]
      · rw [if_neg h0, wrR_hit _ (by rw [h1]; exact h0), h1]
    have htb := ka.2.2
    have hva := ka.2.1
    unfold tagB at htb
    have hR := h1_0 wr (.cells Bs.zn 40)
    have hX := setRow_at hR #[.int .i64 tag, .string val, .slice lo KL lc]
    have B1 : Below wr.heap.size wr ((wr.alloc (.cells Bs.zn 40)).setRow wr.heap.size #[.int .i64 tag, .string val, .slice lo KL lc]) := below_setRow (below_one wr _) (Nat.le_refl _) _
    have HWY : Hid (Wb ((wr.alloc (.cells Bs.zn 40)).setRow wr.heap.size #[.int .i64 tag, .string val, .slice lo KL lc]) g (M : Int) 0) := kept B1 HI.out.wb
    have HGY : Hid (w.grownBy ((wr.alloc (.cells Bs.zn 40)).setRow wr.heap.size #[.int .i64 tag, .string val, .slice lo KL lc]) (some g)) := gr_trans hgr (gr_below B1 _)
    have HX : Hid (((wr.alloc (.cells Bs.zn 40)).setRow wr.heap.size #[.int .i64 tag, .string val, .slice lo KL lc]).heap[wr.heap.size]? = some (.cells #[.int .i64 tag, .string val, .slice lo KL lc] 40)) := hX
    have HKG : Hid (∀ x, w.grownBy x (some g) → Rdn x (.slice lo KL lc) ks) := kg
    have HKS : Hid (SizeOf.sizeOf ks < n) := by show _ < _; omega
    have HTKK : Hid (er (ts.take (i + 1)) = er (ts.take i) ++ [.mk tag val (er ks)]) := by show _ = _; rw [htk]; simp [er]
    have HST : Hid ((steps d (ts.take (i + 1))).length = (steps d (ts.take i)).length + 1 + (steps (d + 1) ks).length) := hst
    have HLS : Hid (lsz (ts.take (i + 1)) = lsz (ts.take i) + ((tgS tag).toNat + (lnS ((val.size + lsz ks : Nat) : Int)).toNat + (val.size + lsz ks))) := hls
    have HSS : Hid (S = ⟨(enT (er (ts.take i))).toArray⟩) := hS
    have hlk : val.size + lsz ks ≤ 1099511627776 := by rw [hls] at hlt2; omega
    have hszi : S.size ≤ lsz (ts.take i) := HI.out.sz
    have HSI : Hid (S.size ≤ lsz (ts.take i)) := hszi
    have tg := fun y => Mr.tag_ref tag y (by omega) (by omega)
    have mk := fun y => Mr.marked_ref tag y (by omega) (by omega)
    rw [HKT.out] at tg
    obtain ⟨BX, HBX⟩ : ∃ BX, Hid (wr.heap.size = BX) := ⟨_, rfl⟩
    have hgB : g < wr.heap.size := Nat.lt_of_lt_of_le hgw hsw
    clear ka hzl hz0 hls htk B1 hX hst kg hlt2 hRR hS hszi hmm fz HI
    obtain ⟨x0, x1, x2⟩ := Bs.blk3 HX.out
    go_wp2_with (refine wpList_store_row rfl 40 _ _ rfl wr.heap.size _ rfl rfl _ _ hR Bs.infoN rfl (by simp [Value.oneCell']) ?_)
    obtain ⟨Y, HY⟩ : ∃ Y, Hid (Y = (wr.alloc (.cells Bs.zn 40)).setRow wr.heap.size #[.int .i64 tag, .string val, .slice lo KL lc]) := ⟨_, rfl⟩
    rw [← HY.out] at HX HWY HGY x0 x1 x2 ⊢
    rw [HBX.out] at HX x0 x1 x2 hgB ⊢
    clear HY hR q0 q1 q2 c0 c1
    refine (tg Y).mono ?_
    rintro _ y1 ⟨rfl, hy⟩
    rw [hy]
    clear hy y1 tg
    go_wp2_with fail
    refine (mk Y).mono ?_
    rintro _ y1 ⟨rfl, hy⟩
    rw [hy]
    clear hy y1 mk
    obtain ⟨⟨c0, c1⟩, fz⟩ := HWY.out.at
    have f0 := fz 0
    have f1 := fz 1
    have HERR : Hid (∀ y, wrC M d tag val KL = y → y ≠ 0 → PW w g m d R L C T ⟨#[]⟩ y (M : Int) (Y.setCell ⟨g, 1, none⟩ (.int .i64 y))) := fun y hy h0 => ⟨HWY.out.set1 y, gr_trans HGY.out (gr_set _ _ _ _), Nat.zero_le _, by rw [HWC.out y hy, if_neg h0], fun e => absurd e h0⟩
    by_cases g5 : M < 500
    case neg =>
      have g5' : 500 ≤ (M : Int) := by omega
      have HE := HERR.out 93 (by unfold wrC; rw [if_pos (by omega)]) (by omega)
      replace HE : Hid (PW w g m d R L C T ⟨#[]⟩ 93 (M : Int) (Y.setCell ⟨g, 1, none⟩ (.int .i64 93))) := HE
      go_wp2
      go_ret
      exact ⟨⟨#[]⟩, 93, (M : Int), rfl, HE.out⟩
    have g5' : ¬ 500 ≤ (M : Int) := by omega
    by_cases g8 : d ≤ 8
    case neg =>
      have g8' : 8 < (d : Int) := by omega
      have HE := HERR.out 92 (by unfold wrC; rw [if_neg (by omega), if_pos (by omega)]) (by omega)
      replace HE : Hid (PW w g m d R L C T ⟨#[]⟩ 92 (M : Int) (Y.setCell ⟨g, 1, none⟩ (.int .i64 92))) := HE
      go_wp2
      go_ret
      exact ⟨⟨#[]⟩, 92, (M : Int), rfl, HE.out⟩
    have g8' : ¬ 8 < (d : Int) := by omega
    by_cases gk : KT = 0
    case pos =>
      have hm0 : mkd tag = false := Mr.mkd_no (by rw [HKT.out]; omega)
      have gk' : ((KT : Int) == 0) = true := by simp [gk]
      rw [hm0]
      have HE := HERR.out 90 (by unfold wrC; rw [if_neg (by omega), if_neg (by omega), if_neg (by unfold ftB; rw [hm0, HKT.out, gk]; simp)]) (by omega)
      replace HE : Hid (PW w g m d R L C T ⟨#[]⟩ 90 (M : Int) (Y.setCell ⟨g, 1, none⟩ (.int .i64 90))) := HE
      clear gk
      go_wp2
      go_ret
      exact ⟨⟨#[]⟩, 90, (M : Int), rfl, HE.out⟩
    have gk' : ((KT : Int) == 0) = false := by simpa using gk
    by_cases hmk : mkd tag = true
    case pos =>
      rw [hmk]
      by_cases hv0 : val.size = 0
      case neg =>
        have hv1 : (val.toList == []) = false := by
          rw [beq_eq_false_iff_ne]
          intro e
          rw [ByteArray.toList_eq] at e
          exact hv0 (by have := congrArg List.length e; simpa using this)
        have hv2 : ¬ val.toList = [] := by simpa using hv1
        have HE := HERR.out 90 (by unfold wrC; rw [if_neg (by omega), if_neg (by omega), if_neg (by unfold ftB; rw [if_pos hmk]; simpa using hv0)]) (by omega)
        replace HE : Hid (PW w g m d R L C T ⟨#[]⟩ 90 (M : Int) (Y.setCell ⟨g, 1, none⟩ (.int .i64 90))) := HE
        clear gk hv0
        go_wp2
        go_ret
        exact ⟨⟨#[]⟩, 90, (M : Int), rfl, HE.out⟩
      obtain rfl := size0 hv0
      clear hv0
      have gk0 : 0 < KT := by omega
      have ht0 : 0 < tag := by
        have := HKT.out
        unfold tgS at this
        split at this
        · omega
        · omega
      have W0 : wrC M d tag ⟨#[]⟩ KL = 0 := by unfold wrC; rw [if_neg (by omega), if_neg (by omega), if_pos (by unfold ftB; rw [if_pos hmk]; rfl)]
      have HRK := HWC.out 0 W0
      rw [if_pos rfl] at HRK
      replace HRK : Hid (R = wrR (M + 1) (steps (d + 1) ks ++ steps d (ts.drop (i + 1)))) := HRK
      have HWX : Hid (Wb (Y.setCell ⟨g, 0, none⟩ (.int .i64 ((M : Int) + 1))) g ((M : Int) + 1) 0) := HWY.out.set0 _
      have HGX : Hid (w.grownBy (Y.setCell ⟨g, 0, none⟩ (.int .i64 ((M : Int) + 1))) (some g)) := gr_trans HGY.out (gr_set _ _ _ _)
      have hXX : (Y.setCell ⟨g, 0, none⟩ (.int .i64 ((M : Int) + 1))).heap[BX]? = some (.cells #[.int .i64 tag, .string ⟨#[]⟩, .slice lo KL lc] 40) := (setCell_ne (by omega) _ _).trans HX.out
      have HXX : Hid ((Y.setCell ⟨g, 0, none⟩ (.int .i64 ((M : Int) + 1))).heap[BX]? = some (.cells #[.int .i64 tag, .string ⟨#[]⟩, .slice lo KL lc] 40)) := hXX
      obtain ⟨y0, y1, y2⟩ := Bs.blk3 hXX
      have ck := ih ks (.slice lo KL lc) (Y.setCell ⟨g, 0, none⟩ (.int .i64 ((M : Int) + 1))) g (M + 1) (d + 1) HKS.out (fun x hx => HKG.out x (gr_trans HGX.out hx)) (by have := HWX.out; rw [show ((M + 1 : Nat) : Int) = (M : Int) + 1 by omega]; exact this) (by omega) (by omega) (by omega)
      rw [show ((d + 1 : Nat) : Int) = (d : Int) + 1 by omega] at ck
      obtain ⟨RK, HRKK⟩ : ∃ R, Hid (wrR (M + 1) (steps (d + 1) ks) = R) := ⟨_, rfl⟩
      obtain ⟨LK, HLK⟩ : ∃ R, Hid (lsz ks = R) := ⟨_, rfl⟩
      obtain ⟨CK, HCK⟩ : ∃ R, Hid ((steps (d + 1) ks).length = R) := ⟨_, rfl⟩
      obtain ⟨TK, HTK2⟩ : ∃ R, Hid (enT (er ks) = R) := ⟨_, rfl⟩
      rw [HRKK.out, HLK.out, HCK.out, HTK2.out] at ck
      rw [HLK.out] at HLS hlk
      clear hXX W0 gk hmk HERR HWC
      go_wp2_with fail
      clear x0 x1 x2 y0 y1 y2 c0 c1 f0 f1 fz
      generalize Y.setCell ⟨g, 0, none⟩ (.int .i64 ((M : Int) + 1)) = X1 at *
      refine ck.mono ?_
      clear ck
      rintro _ z ⟨SK, EK, mK, rfl, PK⟩
      have hlX : BX < X1.heap.size := (Array.getElem?_eq_some_iff.1 HXX.out).1
      have hXz : z.heap[BX]? = some (.cells #[.int .i64 tag, .string ⟨#[]⟩, .slice lo KL lc] 40) := (PK.gr.block BX hlX (by intro e; injection e with e; omega)).trans HXX.out
      obtain ⟨x0, x1, x2⟩ := Bs.blk3 hXz
      have HPK : Hid (PW X1 g (M + 1) (d + 1) RK LK CK TK SK EK mK z) := PK
      have hskl : SK.size ≤ LK := PK.sz
      clear PK hXz
      have hcs : SK.size ≤ 1099511627776 := by have := hlk; simp only [ByteArray.size] at this; omega
      have nd := fun y => number_doc tag KT y (by omega) (by omega) (by omega)
      obtain ⟨A, HA⟩ : ∃ A : ByteArray, Hid ((⟨(nB tag KT).toArray⟩ : ByteArray) = A) := ⟨_, rfl⟩
      rw [HA.out] at nd
      have sA : A.size = KT := by rw [← HA.out]; exact nB_len KT tag
      have ld := fun y => length_big (SK.size : Int) y (by omega) (by omega)
      obtain ⟨B, HB⟩ : ∃ B : ByteArray, Hid ((⟨(lnB (SK.size : Int)).toArray⟩ : ByteArray) = B) := ⟨_, rfl⟩
      rw [HB.out] at ld
      have sB : B.size ≤ 3 := by rw [← HB.out]; show (lnB _).length ≤ 3; rw [lnB_size]; have := lnS_bd (SK.size : Int); omega
      go_wp2_with fail
      refine (nd z).mono ?_
      rintro _ z1 ⟨rfl, hz1⟩
      clear nd
      go_wp2_with fail
      refine (ld z1).mono ?_
      rintro _ z2 ⟨rfl, hz2⟩
      clear ld
      have HSW : Hid (SW w g m d ts (i + 1) (S ++ A ++ B ++ SK) EK mK z2) := by
        have PK := HPK.out
        have hbz := keepB hz1 hz2
        have eA : A.size = (tgS tag).toNat := by rw [sA, HKT.out]; rfl
        have eB : B.size = (lnS (SK.size : Int)).toNat := by rw [← HB.out]; exact lnB_size _
        refine ⟨kept hbz PK.wb, gr_trans (gr_trans HGX.out PK.gr) (gr_below hbz _), ?_, ?_⟩
        · have h1 := lnS_mono (show (SK.size : Int) ≤ (((⟨#[]⟩ : ByteArray).size + LK : Nat) : Int) by have : (⟨#[]⟩ : ByteArray).size = 0 := rfl; omega)
          have h2 := lnS_bd (SK.size : Int)
          rw [HLS.out, ByteArray.size_append, ByteArray.size_append, ByteArray.size_append, eA, eB]
          have h3 : (⟨#[]⟩ : ByteArray).size = 0 := rfl
          have h4 := HSI.out
          omega
        · by_cases hE0 : EK = 0
          · obtain ⟨p1, p2, p3⟩ := PK.ok hE0
            have hMM := HM.out
            have hCC := HST.out
            rw [HCK.out] at hCC
            refine .inl ⟨hE0, by rw [p1]; congr 1; omega, by omega, ?_, ?_⟩
            · rw [HTKK.out, en_app, HSS.out, p3, ← HA.out, ← HB.out, p3]
              apply ByteArray.ext
              have hnb : nB tag KT = tgB tag := by rw [← nB_tg tag (by rw [HKT.out]; omega), HKT.out]; rfl
              simp only [enT, HTK2.out, hnb]
              simp
              congr 1
              show ((TK.toArray.size : Nat) : Int) = ((0 : Nat) : Int) + _
              simp
            · rw [HR.out, HRK.out, wrR_go _ _ _ (by rw [HRKK.out, ← PK.er]; exact hE0), HCK.out]
              congr 1
              omega
          · refine .inr ⟨hE0, ?_⟩
            rw [HR.out, HRK.out, wrR_stop _ _ _ (by rw [HRKK.out, ← PK.er]; exact hE0), HRKK.out]
            exact PK.er
      clear HPK x0 x1 x2
      go_wp2
      refine ⟨⟨i + 1, S ++ A ++ B ++ SK, EK, mK, by omega, by go_num, rfl, HSW.out⟩, ?_⟩
      rw [if_pos hnum]
      split
      · simp [intOf]; omega
      · simp [intOf]; omega
    have hm0 : mkd tag = false := by simpa using hmk
    rw [hm0]
    by_cases hk0 : KL = 0
    case neg =>
      have hk1 : 0 < (KL : Int) := by omega
      have HE := HERR.out 90 (by unfold wrC; rw [if_neg (by omega), if_neg (by omega), if_neg (by unfold ftB; rw [hm0]; simp [hk0])]) (by omega)
      replace HE : Hid (PW w g m d R L C T ⟨#[]⟩ 90 (M : Int) (Y.setCell ⟨g, 1, none⟩ (.int .i64 90))) := HE
      clear gk hk0
      go_wp2
      go_ret
      exact ⟨⟨#[]⟩, 90, (M : Int), rfl, HE.out⟩
    have hk1 : ¬ 0 < (KL : Int) := by omega
    have hks : ks = [] := List.length_eq_zero_iff.1 (by rw [HKL.out]; exact hk0)
    have gk0 : 0 < KT := by omega
    have ht0 : 0 < tag := by
      have := HKT.out
      unfold tgS at this
      split at this
      · omega
      · omega
    have W0 : wrC M d tag val KL = 0 := by unfold wrC; rw [if_neg (by omega), if_neg (by omega), if_pos (by unfold ftB; rw [hm0, HKT.out, hk0]; simp; omega)]
    have HRK := HWC.out 0 W0
    rw [if_pos rfl, hks] at HRK
    replace HRK : Hid (R = wrR (M + 1) (steps d (ts.drop (i + 1)))) := by show _ = _; simpa [steps] using HRK
    have HKE : Hid (ks = []) := hks
    have HWX : Hid (Wb (Y.setCell ⟨g, 0, none⟩ (.int .i64 ((M : Int) + 1))) g ((M : Int) + 1) 0) := HWY.out.set0 _
    have HGX : Hid (w.grownBy (Y.setCell ⟨g, 0, none⟩ (.int .i64 ((M : Int) + 1))) (some g)) := gr_trans HGY.out (gr_set _ _ _ _)
    have hXX : (Y.setCell ⟨g, 0, none⟩ (.int .i64 ((M : Int) + 1))).heap[BX]? = some (.cells #[.int .i64 tag, .string val, .slice lo KL lc] 40) := (setCell_ne (by omega) _ _).trans HX.out
    obtain ⟨y0, y1, y2⟩ := Bs.blk3 hXX
    clear hXX W0 gk hmk HERR HWC hks hk0 ih
    have hcs : val.size ≤ 1099511627776 := by omega
    have nd := fun y => number_doc tag KT y (by omega) (by omega) (by omega)
    obtain ⟨A, HA⟩ : ∃ A : ByteArray, Hid ((⟨(nB tag KT).toArray⟩ : ByteArray) = A) := ⟨_, rfl⟩
    rw [HA.out] at nd
    have sA : A.size = KT := by rw [← HA.out]; exact nB_len KT tag
    have ld := fun y => length_big (val.size : Int) y (by omega) (by omega)
    obtain ⟨B, HB⟩ : ∃ B : ByteArray, Hid ((⟨(lnB (val.size : Int)).toArray⟩ : ByteArray) = B) := ⟨_, rfl⟩
    rw [HB.out] at ld
    have sB : B.size ≤ 3 := by rw [← HB.out]; show (lnB _).length ≤ 3; rw [lnB_size]; have := lnS_bd (val.size : Int); omega
    go_wp2_with fail
    refine (nd _).mono ?_
    rintro _ z1 ⟨rfl, hz1⟩
    clear nd
    go_wp2_with fail
    refine (ld z1).mono ?_
    rintro _ z2 ⟨rfl, hz2⟩
    clear ld
    clear x0 x1 x2 y0 y1 y2 c0 c1 f0 f1 fz
    generalize Y.setCell ⟨g, 0, none⟩ (.int .i64 ((M : Int) + 1)) = X1 at *
    have HSW : Hid (SW w g m d ts (i + 1) (S ++ A ++ B ++ val) 0 ((M : Int) + 1) z2) := by
      have hbz := keepB hz1 hz2
      have eA : A.size = (tgS tag).toNat := by rw [sA, HKT.out]; rfl
      have eB : B.size = (lnS (val.size : Int)).toNat := by rw [← HB.out]; exact lnB_size _
      have hke := HKE.out
      refine ⟨kept hbz HWX.out, gr_trans HGX.out (gr_below hbz _), ?_, ?_⟩
      · have h1 := lnS_mono (show (val.size : Int) ≤ ((val.size + lsz ks : Nat) : Int) by omega)
        have h2 := lnS_bd (val.size : Int)
        rw [HLS.out, ByteArray.size_append, ByteArray.size_append, ByteArray.size_append, eA, eB]
        have h4 := HSI.out
        omega
      · have hMM := HM.out
        have hCC := HST.out
        rw [hke] at hCC
        simp only [steps, List.length_nil, Nat.add_zero] at hCC
        refine .inl ⟨rfl, by omega, by omega, ?_, ?_⟩
        · rw [HTKK.out, en_app, HSS.out, ← HA.out, ← HB.out, hke]
          apply ByteArray.ext
          have hnb : nB tag KT = tgB tag := by rw [← nB_tg tag (by rw [HKT.out]; omega), HKT.out]; rfl
          simp only [enT, er, hnb]
          simp
        · rw [HR.out, HRK.out]
          congr 1
          omega
    go_wp2
    refine ⟨⟨i + 1, S ++ A ++ B ++ val, 0, (M : Int) + 1, by omega, by go_num, rfl, HSW.out⟩, ?_⟩
    rw [if_pos hnum]
    split
    · simp [intOf]; omega
    · simp [intOf]; omega
theorem nodesw_all : ∀ n, NodesW n
  | 0 => fun ts v w g m d h => absurd h (Nat.not_lt_zero _)
  | n + 1 => fun ts v w g m d hsz hg hw hm hd hL => nodesw_step (nodesw_all n) ts v w g m d hsz hg hw hm hd hL
end Go.Proofs.Ytgidjfhlooggkaa.Wn
