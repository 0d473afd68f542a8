/- send. -/
import Derived.Test.YtmpcgmpobmnmmaaSg
namespace Go.Proofs.Ytmpcgmpobmnmmaa.Sh
set_option linter.unusedVariables false
set_option linter.unusedSimpArgs false
open Go.RowKit Go.Maps Lib0 Kb Xp Za Zc Zd Ze Sa Sb Sc Sd Se Sf Sg
attribute [local go_sem] Oper.semAt_some
def sendS (S : St) : St := { S with sent := S.sent + 1, way := true, ticks := 0 }
theorem ok_send {S : St} (h : Ok S) (hs : S.sent < S.tries) (hL : S.L ≠ []) : Ok (sendS S) := by
  obtain ⟨a1, a2, a3, a4, a5, a6, a7, a8, a9, a10, a11, a12, a13, a14, a15, a16⟩ := h
  exact ⟨a1, a2, a3, a4, a5, a6, by show (0 : Int) ≤ S.sent + 1; omega, by show S.sent + 1 ≤ S.tries; omega, Int.le_refl _, by show (0 : Int) ≤ S.retry; omega, a11, a12, a13, fun _ => hL, a15, a16⟩
theorem qm_other {x : World} {base g b o : Nat} {S : St} {vw vg : Value} {zs : List ZA} {c : Array Value} (h : Qm x base g S vw vg zs) (hb : x.heap[b]? = some (.cells c tG (0, 0))) (v : Value) : Qm (x.setCell ⟨b, o, none⟩ v) base g S vw vg zs := by
  have hn : ∀ (k : Nat) (c2 : Array Value) (t : TypeId) (fr : Nat × Nat), x.heap[k]? = some (.cells c2 t fr) → t ≠ tG → (x.setCell ⟨b, o, none⟩ v).heap[k]? = x.heap[k]? := fun k c2 t fr hk ht => setCell_ne (p := ⟨b, o, none⟩) (fun e : b = k => ty_ne hb hk (fun e2 => ht e2.symm) e) v
  have hr : ∀ (t : TypeId) (sz : Nat) (u : Value) (n : Nat) (xs : List Value), t ≠ tG → x.ownsRow base t sz u n xs → (x.setCell ⟨b, o, none⟩ v).ownsRow base t sz u n xs := fun t sz u n xs ht ho => own_keep ho fun k hk => by
    obtain ⟨c, hc⟩ := own_ty ho hk
    exact hn k c t _ hc ht
  refine ⟨(hn g _ _ _ h.blk (by decide)).trans h.blk, hr _ _ _ _ _ (by decide) h.row, h.eq, fun z hz => ?_, hr _ _ _ _ _ (by decide) h.gon, h.low, by rw [setCell_size]; exact h.bas⟩
  obtain ⟨h0, v1, v2, h1, h2, h3⟩ := h.ads z hz
  exact ⟨h0, v1, v2, (hn _ _ _ _ h1 (by decide)).trans h1, hr _ _ _ _ _ (by decide) h2, hr _ _ _ _ _ (by decide) h3⟩
theorem kq_new {w x : World} {b o : Nat} (h : Kq w x) (hb : w.heap.size ≤ b) (v : Value) : Kq w (x.setCell ⟨b, o, none⟩ v) :=
  ⟨h.os, h.tape, h.output, by rw [setCell_size]; exact h.size, fun k c t fr hk a1 a2 a3 => (setCell_ne (p := ⟨b, o, none⟩) (fun e : b = k => by have := (Array.getElem?_eq_some_iff.1 hk).1; omega) v).trans (h.block k c t fr hk a1 a2 a3)⟩
theorem PQ.msg {w x : World} {base g b : Nat} {S : St} {c : Array Value} (h : PQ w base g S x) (hb : x.heap[b]? = some (.cells c tG (0, 0))) (hw : w.heap.size ≤ b) (hbase : base ≤ b) (u v : Value) : PQ w base g S ((x.setCell ⟨b, 0, none⟩ u).setCell ⟨b, 1, none⟩ v) := by
  obtain ⟨⟨vw, vg, zs, h⟩, hk, hl⟩ := h
  exact ⟨⟨vw, vg, zs, qm_other (qm_other h hb u) (setCell_heap hb 0 u) v⟩, kq_new (kq_new hk hw u) hw v, (hl.setCell hbase u).setCell hbase v⟩
/-- what a call gives that sends a message -/
def PostS (w : World) (base g : Nat) (S' : St) (m : ByteArray) (M : List Fl) (v : Value) (w' : World) : Prop := w'.ownsRow w.heap.size tF 3 v M.length (fc M) ∧ (M = [] → v = .slice none 0 0) ∧ PQ w base g S' w'
def mOf (S : St) (a : Av) : ByteArray := if S.sent = 0 then a.m1 else a.m2
def lOf (S : St) (a : Av) : List Fl := if S.sent = 0 then a.L1 else a.L2
theorem send_end {fn : Func} {p : Tmp} (h : fn.results = #[.cell p tG]) {w x : World} {base g : Nat} {S' : St} {mti : ByteArray} {v : Value} {M : List Fl} (tm : Array Value) (hp : tm.getD p undef = .pointer (some ⟨w.heap.size, 0, none⟩)) (hy : x.heap[w.heap.size]? = some (.cells #[.string ⟨#[]⟩, .slice none 0 0] tG)) (hr : x.ownsRow w.heap.size tF 3 v M.length (fc M)) (hnl : M = [] → v = .slice none 0 0) (hq : PQ w base g S' x) (hbase : base ≤ w.heap.size) :
    bodyPost Try.prog fn (fun e w' => ∃ v, e = .returned (.agg #[.string mti, v]) ∧ PostS w base g S' mti M v w') .ret ⟨tm, []⟩ ((x.setCell ⟨w.heap.size, 0, none⟩ (.string mti)).setCell ⟨w.heap.size, 1, none⟩ v) := by
  have h6 : ((x.setCell ⟨w.heap.size, 0, none⟩ (.string mti)).setCell ⟨w.heap.size, 1, none⟩ v).heap[w.heap.size]? = some (.cells #[.string mti, v] tG) := setCell_heap (setCell_heap hy 0 _) 1 _
  refine bodyPost_ret (v := .agg #[.string mti, v]) (results_cell_row (fn := fn) h _ _ w.heap.size tG _ _ _ hp h6 Try.underlying52 rfl infoG) rfl ⟨v, rfl, ?_, hnl, PQ.msg hq hy (Nat.le_refl _) hbase _ _⟩
  refine own_keep hr fun k hk => ?_
  have hne : w.heap.size ≠ k := fun e => by
    obtain ⟨cy, hcy⟩ := own_ty hr hk
    rw [← e, hy] at hcy
    injection hcy with hcy; injection hcy with _ hcy; exact absurd hcy (by decide)
  rw [setCell_ne (p := ⟨w.heap.size, 1, none⟩) hne, setCell_ne (p := ⟨w.heap.size, 0, none⟩) hne]
set_option maxRecDepth 100000 in
set_option maxHeartbeats 3200000 in
theorem send_any {w : World} {base g : Nat} {S : St} (h : Sq w base g S) (ok : Ok S) (a : Av) (L : List Av) (hL : S.L = a :: L) : Calls Try.prog 45 #[.pointer (some ⟨g, 0, none⟩)] w fun e w' => ∃ v, e = .returned (.agg #[.string (mOf S a), v]) ∧ PostS w base g (sendS S) (mOf S a) (lOf S a) v w' := by
  obtain ⟨vw, vg, zs, h⟩ := h
  have hbase : base ≤ w.heap.size := h.bas
  have hglt : g < w.heap.size := (Array.getElem?_eq_some_iff.1 h.blk).1
  obtain ⟨y0, hy0⟩ : ∃ y0, w.alloc (.cells #[.string ⟨#[]⟩, .slice none 0 0] tG) = y0 := ⟨_, rfl⟩
  have b0 : Below w.heap.size w y0 := hy0 ▸ below_one w _
  have x0 : y0.heap[w.heap.size]? = some (.cells #[.string ⟨#[]⟩, .slice none 0 0] tG (0, 0)) := hy0 ▸ h1_0 w _
  have hq0 := h.below b0
  obtain ⟨-, -, -, c3, c4, c5, c6, -⟩ := hq0.cells
  have f4 := hq0.frz 4
  have f5 := hq0.frz 5
  have f6 := hq0.frz 6
  obtain ⟨rb, cap, k, rfl, d0, -, had⟩ := first_cells hq0 hL
  obtain ⟨q1, k1, l1⟩ := hq0.set (o := 4) (S' := { S with sent := S.sent + 1 }) (.int .i64 (S.sent + 1)) rfl rfl rfl
  obtain ⟨q2, k2, l2⟩ := q1.set (o := 5) (S' := { S with sent := S.sent + 1, way := true }) (.bool true) rfl rfl rfl
  obtain ⟨q3, k3, l3⟩ := q2.set (o := 6) (S' := sendS S) (.int .i64 0) rfl rfl rfl
  obtain ⟨y, hy⟩ : ∃ y, ((y0.setCell ⟨g, 4, none⟩ (.int .i64 (S.sent + 1))).setCell ⟨g, 5, none⟩ (.bool true)).setCell ⟨g, 6, none⟩ (.int .i64 0) = y := ⟨_, rfl⟩
  have hyb : y.heap[w.heap.size]? = some (.cells #[.string ⟨#[]⟩, .slice none 0 0] tG (0, 0)) := by
    have hne : g ≠ w.heap.size := by omega
    rw [← hy, setCell_ne (p := ⟨g, 6, none⟩) hne, setCell_ne (p := ⟨g, 5, none⟩) hne, setCell_ne (p := ⟨g, 4, none⟩) hne]
    exact x0
  rw [hy] at q3 k3 l3
  have hK : Kq w y := (Kq.of b0).trans ((k1.trans k2).trans k3)
  have hB : Below base w y := (b0.mono hbase).trans ((l1.trans l2).trans l3)
  have hady : Ad y base k a := had.keep ((k1.trans k2).trans k3)
  have HY : Hid (y.heap[w.heap.size]? = some (.cells #[.string ⟨#[]⟩, .slice none 0 0] tG (0, 0))) := hyb
  have HP : Hid (PQ w base g (sendS S) y) := ⟨⟨_, vg, zs, q3⟩, hK, hB⟩
  have HSZ : Hid (w.heap.size ≤ y.heap.size) := hK.size
  have hs4 : y.cell? ⟨g, 4, none⟩ = some (.int .i64 (S.sent + 1)) := by obtain ⟨-, -, -, -, z4, -⟩ := q3.cells; exact z4
  obtain ⟨fo1, fo2, fo3, fo4, -⟩ := ok.fo a (by rw [hL]; exact List.mem_cons_self ..)
  obtain ⟨-, v1, v2, e1, r1, r2⟩ := hady
  have HM1 : Hid (Ms y a.m1 v1 a.L1) := ⟨fo1, rowf_own r1, fo3⟩
  have HM2 : Hid (Ms y a.m2 v2 a.L2) := ⟨fo2, rowf_own r2, fo4⟩
  obtain ⟨o1, n1, p1, rfl⟩ := HM1.out.slice
  obtain ⟨o2, n2, p2, rfl⟩ := HM2.out.slice
  have g2 : y.cell? ⟨k, 2, none⟩ = some (.string a.m1) := by unfold acs at e1; simp [World.cell?, e1]
  have g3 : y.cell? ⟨k, 3, none⟩ = some (.slice o1 n1 p1) := by unfold acs at e1; simp [World.cell?, e1]
  have g4 : y.cell? ⟨k, 4, none⟩ = some (.string a.m2) := by unfold acs at e1; simp [World.cell?, e1]
  have g5 : y.cell? ⟨k, 5, none⟩ = some (.slice o2 n2 p2) := by unfold acs at e1; simp [World.cell?, e1]
  have s0 := ok.s0
  have s1 : S.sent + 1 ≤ 9223372036854775807 := by have := ok.s1; have := ok.t1; omega
  have HEND : Hid (∀ (M : List Fl) (u : Value) (x : World), x.ownsRow y.heap.size tF 3 u M.length (fc M) → Below y.heap.size y x → (∃ o n c, u = .slice o n c) ∧ (x.cell? ⟨w.heap.size, 0, none⟩ = some (.string ⟨#[]⟩) ∧ x.cell? ⟨w.heap.size, 1, none⟩ = some (.slice none 0 0) ∧ x.frozen? ⟨w.heap.size, 0, none⟩ = false ∧ x.frozen? ⟨w.heap.size, 1, none⟩ = false) ∧ Hid (x.heap[w.heap.size]? = some (.cells #[.string ⟨#[]⟩, .slice none 0 0] tG (0, 0)) ∧ x.ownsRow w.heap.size tF 3 u M.length (fc M) ∧ PQ w base g (sendS S) x)) := fun M u x hr hb => by
    have hx := kept hb hyb
    obtain ⟨o, c, e, -⟩ := own_form hr
    refine ⟨⟨o, _, c, e⟩, ⟨by simp [World.cell?, hx], by simp [World.cell?, hx], by simp [World.frozen?, hx], by simp [World.frozen?, hx]⟩, hx, own_low hr HSZ.out, ?_⟩
    obtain ⟨p1, p2, p3⟩ := HP.out
    exact ⟨p1.below hb, p2.trans (Kq.of hb), p3.trans (hb.mono (Nat.le_trans hbase HSZ.out))⟩
  generalize L.length = N at *
  have hcases : S.sent = 0 ∨ ¬ S.sent = 0 := by omega
  have HR : Hid (Calls Try.prog 45 #[.pointer (some ⟨g, 0, none⟩)] w fun e w' => ∃ v, e = .returned (.agg #[.string (mOf S a), v]) ∧ PostS w base g (sendS S) (mOf S a) (lOf S a) v w') := by
    clear h b0 x0 hq0 q1 k1 l1 q2 k2 l2 q3 k3 l3 had hyb hK hB e1 r1 r2 fo1 fo2 fo3 fo4 ok hL
    rcases hcases with e0 | e0
    · rw [show mOf S a = a.m1 from if_pos e0, show lOf S a = a.L1 from if_pos e0]
      have q : ((S.sent + 1) == 1) = true := by simp; omega
      clear e0
      go_enter Try.func45, Try.ntmps45
      go_wp2_with fail
      refine (copy_flat a.m1 _ a.L1 _ HM1.out).mono ?_
      rintro e x ⟨v', rfl, hr, hnl, hb⟩
      obtain ⟨⟨ou, nu, cu, rfl⟩, ⟨t0, t1, t2, t3⟩, HE⟩ := HEND.out a.L1 v' x hr hb
      have HNL : Hid _ := hnl
      clear hr hnl hb
      go_wp2_with fail
      exact send_end rfl _ rfl HE.out.1 HE.out.2.1 HNL.out HE.out.2.2 hbase
    · rw [show mOf S a = a.m2 from if_neg e0, show lOf S a = a.L2 from if_neg e0]
      have q : ((S.sent + 1) == 1) = false := by simp; omega
      clear e0
      go_enter Try.func45, Try.ntmps45
      go_wp2_with fail
      refine (copy_flat a.m2 _ a.L2 _ HM2.out).mono ?_
      rintro e x ⟨v', rfl, hr, hnl, hb⟩
      obtain ⟨⟨ou, nu, cu, rfl⟩, ⟨t0, t1, t2, t3⟩, HE⟩ := HEND.out a.L2 v' x hr hb
      have HNL : Hid _ := hnl
      clear hr hnl hb
      go_wp2_with fail
      exact send_end rfl _ rfl HE.out.1 HE.out.2.1 HNL.out HE.out.2.2 hbase
  exact HR.out
end Go.Proofs.Ytmpcgmpobmnmmaa.Sh
