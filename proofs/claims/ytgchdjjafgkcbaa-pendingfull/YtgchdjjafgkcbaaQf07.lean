import Derived.Test.YtgchdjjafgkcbaaQf06
/- part: the walk. -/
namespace Go.Proofs.Ytgchdjjafgkcbaa.Zd
set_option linter.unusedVariables false
set_option linter.unusedSimpArgs false
open Go.RowKit Go.Maps Lib0 Kb Xp Ic Ix If Ig Za Zb Zc
theorem infoF3 : ∃ i, Try.prog.info? tF = some i ∧ i.zero = some (.agg #[.int .i64 0, .string ⟨#[]⟩, .slice none 0 0]) ∧ i.size = 3 ∧ i.bytes = 48 := by
  have : (Try.prog.info? tF).map (fun i => (i.zero, i.size, i.bytes)) = some (some (.agg #[.int .i64 0, .string ⟨#[]⟩, .slice none 0 0]), 3, 48) := by kernel_rfl
  rcases hi : Try.prog.info? tF with _ | i
  · rw [hi] at this; simp at this
  · rw [hi] at this
    simp at this
    exact ⟨i, rfl, this.1, this.2.1, this.2.2⟩
theorem infoG : (Try.prog.info? tG).map (·.size) = some 2 := by kernel_rfl
theorem box2 {w x : World} {a b : Value} {t : TypeId} (h : Below (w.alloc (.cells #[a, b] t)).heap.size (w.alloc (.cells #[a, b] t)) x) : x.cell? ⟨w.heap.size, 0, none⟩ = some a ∧ x.cell? ⟨w.heap.size, 1, none⟩ = some b := by
  have e : x.heap[w.heap.size]? = some (.cells #[a, b] t) := (h.block _ (by simp)).trans (h1_0 w _)
  exact ⟨by simp [World.cell?, e], by simp [World.cell?, e]⟩
set_option maxRecDepth 100000 in
set_option maxHeartbeats 1600000 in
theorem part_flat (mti : ByteArray) (v nv : Value) (L : List Fl) (z : List Int) (keep : Bool) (w : World) (hm : mti.size ≤ 1000000) (h : RowF w v L) (hL : Fo L) (hi : RowI w nv z) (hz : Io z) :
    Calls Try.prog 57 #[.agg #[.string mti, v], nv, .bool keep] w fun e w' => ∃ v', e = .returned (.agg #[.string mti, v']) ∧ w'.ownsRow w.heap.size tF 3 v' (kp z keep L).length (fc (kp z keep L)) ∧ (kp z keep L = [] → v' = .slice none 0 0) ∧ Below w.heap.size w w' := by
  have HA : Hid (∀ y, Below w.heap.size w y → Calls Try.prog 64 #[nv] y fun e w' => e = .returned (.map (some y.heap.size)) ∧ (∃ c D, Mn w' y.heap.size c D z) ∧ Below y.heap.size y w') := fun y hy => meantOf_any nv z y (rowi_below hi hy) hz
  have HRF : Hid (∀ y, Below w.heap.size w y → RowF y v L) := fun y hy => rowf_below h hy
  have HCL : Hid (∀ y, Calls Try.prog 35 #[.string mti] y fun e w' => e = .returned (.string mti) ∧ Below y.heap.size y w') := fun y => clone_any mti y (by omega)
  obtain ⟨o, cap, rfl, hc⟩ := h
  obtain ⟨N, HN⟩ : ∃ N, Hid (L.length = N) := ⟨_, rfl⟩
  have HL : Hid (Fo L) := hL
  have HNB : Hid (N ≤ 100000) := HN.out ▸ hL.len
  rw [HN.out] at HRF ⊢
  have x0 := h2_0 w (.cells #[.string mti, .slice o N cap] tG) (.cells #[.string ⟨#[]⟩, .slice none 0 0] tG)
  have x1 := h2_1 w (.cells #[.string mti, .slice o N cap] tG) (.cells #[.string ⟨#[]⟩, .slice none 0 0] tG)
  have HB0 : Hid (Below w.heap.size w ((w.alloc (.cells #[.string mti, .slice o N cap] tG)).alloc (.cells #[.string ⟨#[]⟩, .slice none 0 0] tG))) := below_two w _ _
  have HX0 : Hid _ := x0
  have HX1 : Hid _ := x1
  clear hc hL hm hi hz x0 x1
  go_enter Try.func57, Try.ntmps57
  go_wp2_with fail
  refine (HA.out _ HB0.out).mono ?_
  rintro e y1 ⟨rfl, hmn, hb1⟩
  have HS : Hid (((w.alloc (.cells #[.string mti, .slice o N cap] tG)).alloc (.cells #[.string ⟨#[]⟩, .slice none 0 0] tG)).heap.size = w.heap.size + 2) := by show _ = _; rw [World.size_alloc, World.size_alloc]
  have HX0b : Hid (y1.heap[w.heap.size]? = some (.cells #[.string mti, .slice o N cap] tG)) := kept hb1 HX0.out
  have HX1b : Hid (y1.heap[w.heap.size + 1]? = some (.cells #[.string ⟨#[]⟩, .slice none 0 0] tG)) := kept hb1 HX1.out
  have HB1 : Hid (Below w.heap.size w y1) := keepB HB0.out hb1
  obtain ⟨mb, HMB⟩ : ∃ mb, Hid (((w.alloc (.cells #[.string mti, .slice o N cap] tG)).alloc (.cells #[.string ⟨#[]⟩, .slice none 0 0] tG)).heap.size = mb) := ⟨_, rfl⟩
  rw [HMB.out] at hmn
  rw [HMB.out]
  have HMN : Hid (∃ c D, Mn y1 mb c D z) := hmn
  have HMB2 : Hid (mb = w.heap.size + 2) := HMB.out.symm.trans HS.out
  have c0 : y1.cell? ⟨w.heap.size, 0, none⟩ = some (.string mti) := by simp [World.cell?, HX0b.out]
  clear hb1 hmn HMB HS HB0 HX0 HX1 HA
  go_wp2_with fail
  refine (HCL.out y1).mono ?_
  rintro e y2 ⟨rfl, hb2⟩
  have HX0c : Hid (y2.heap[w.heap.size]? = some (.cells #[.string mti, .slice o N cap] tG)) := kept hb2 HX0b.out
  have HX1c : Hid (y2.heap[w.heap.size + 1]? = some (.cells #[.string ⟨#[]⟩, .slice none 0 0] tG)) := kept hb2 HX1b.out
  have HB2 : Hid (Below w.heap.size w y2) := keepB HB1.out hb2
  have HMN2 : Hid (∃ c D, Mn y2 mb c D z) := by
    obtain ⟨c, D, hM⟩ := HMN.out
    exact ⟨c, D, Mn.keep hM (hb2.block _ (Mn.lt hM))⟩
  have c1 : (y2.alloc (.cells #[.string mti, .slice none 0 0] tG)).cell? ⟨w.heap.size, 1, none⟩ = some (.slice o N cap) := by
    have e := kept (Kb.below_one y2 (.cells #[.string mti, .slice none 0 0] tG)) HX0c.out
    simp [World.cell?, e]
  obtain ⟨g8, HG8⟩ : ∃ g, Hid (y2.heap.size = g) := ⟨_, rfl⟩
  have HJ0 : Hid (Jp w (y2.alloc (.cells #[.string mti, .slice none 0 0] tG)) (w.heap.size + 1) y2.heap.size mb mti z (.slice none 0 0) []) := by
    obtain ⟨c, D, hM⟩ := HMN2.out
    have hbx := Kb.below_one y2 (.cells #[.string mti, .slice none 0 0] tG)
    have hlt1 := (Array.getElem?_eq_some_iff.1 HX1c.out).1
    exact ⟨h1_0 _ _, kept hbx HX1c.out, ⟨c, D, Mn.keep hM (hbx.block _ (Mn.lt hM))⟩, World.ownsRow_nil _ _ _ _, HB2.out.alloc HB2.out.size _, HB2.out.size, by omega, by have := HMB2.out; omega, by omega⟩
  clear hb2 c0 HX0b HX1b HB1 HMN HMN2 HX0c HX1c HB2 HCL
  go_wp2_with fail
  rw [HG8.out] at HJ0
  rw [HG8.out]
  generalize y2.alloc (.cells #[.string mti, .slice none 0 0] tG) = y3 at *
  clear HG8
  clear c1
  go_loopw [20] (fun iv wr => ∃ i : Nat, iv = .int .i64 (i : Int) ∧ i ≤ N ∧ Hid (∃ v', Jp w wr (w.heap.size + 1) g8 mb mti z v' (kp z keep (L.take i)) ∧ (kp z keep (L.take i) = [] → v' = .slice none 0 0))) (fun iv _ => N + 1 - (intOf iv).toNat)
  case atStart => exact ⟨0, rfl, Nat.zero_le _, ⟨_, HJ0.out, fun _ => rfl⟩⟩
  case round =>
    obtain ⟨i, rfl, hi, HJ⟩ := hrel
    have q1 : (0 : Int) ≤ (i : Int) := by omega
    by_cases hlt : i < N
    · have hi2 : i < L.length := by rw [HN.out]; exact hlt
      obtain ⟨v', hJ, hnil⟩ := HJ.out
      obtain ⟨o', cap', e', hc'⟩ := HRF.out wr hJ.bel
      injection e' with e1 e2 e3
      obtain ⟨a, ea, c0, c1, c2⟩ := hc' i hi2
      rw [← e1] at ea
      subst ea
      have q0 : (i : Int) < (N : Int) := by omega
      have q3 : (i : Int) + 1 ≤ 9223372036854775807 := by have := HNB.out; omega
      have hnum := HL.out.num _ (List.getElem_mem hi2)
      have hstr := HL.out.str _ (List.getElem_mem hi2)
      have hks := kp_snoc z keep L i hi2
      have hkl : (kp z keep (L.take i)).length ≤ 100000 := Nat.le_trans (kp_len _ _ _) (by rw [List.length_take]; have := HNB.out; omega)
      generalize L[i]'hi2 = x at *
      obtain ⟨n, s⟩ := x
      dsimp only at c0 c1 c2 hnum hstr hks
      have HKS : Hid (kp z keep (L.take (i + 1)) = if z.contains n == keep then kp z keep (L.take i) ++ [(n, s)] else kp z keep (L.take i)) := hks
      generalize kp z keep (L.take i) = M at *
      obtain ⟨d0, d1, d2⟩ := box_kept (Below.refl (wr.alloc (Obj.cells #[.int .i64 n, .string s, .slice none 0 0] tF)).heap.size (wr.alloc (Obj.cells #[.int .i64 n, .string s, .slice none 0 0] tF)))
      have HJ1 : Hid (Jp w (wr.alloc (Obj.cells #[.int .i64 n, .string s, .slice none 0 0] tF)) (w.heap.size + 1) g8 mb mti z v' M) := hJ.below (Kb.below_one _ _)
      have HHA : Hid (Calls Try.prog 65 #[.map (some mb), .int .i64 n] (wr.alloc (Obj.cells #[.int .i64 n, .string s, .slice none 0 0] tF)) fun e w' => e = .returned (.bool (z.contains n)) ∧ Below (wr.alloc (Obj.cells #[.int .i64 n, .string s, .slice none 0 0] tF)).heap.size (wr.alloc (Obj.cells #[.int .i64 n, .string s, .slice none 0 0] tF)) w') := by
        obtain ⟨c, D, hM⟩ := HJ1.out.mn
        exact has_any hM n hnum
      have HCF : Hid (∀ y, Calls Try.prog 66 #[.agg #[.int .i64 n, .string s, .slice none 0 0]] y fun e w' => e = .returned (.agg #[.int .i64 n, .string s, .slice none 0 0]) ∧ Below y.heap.size y w') := fun y => copyField_leaf n s (by omega) y
      have HXK : Hid (∀ x, Below (wr.alloc (Obj.cells #[.int .i64 n, .string s, .slice none 0 0] tF)).heap.size (wr.alloc (Obj.cells #[.int .i64 n, .string s, .slice none 0 0] tF)) x → x.cell? ⟨wr.heap.size, 0, none⟩ = some (.int .i64 n) ∧ x.cell? ⟨wr.heap.size, 1, none⟩ = some (.string s) ∧ x.cell? ⟨wr.heap.size, 2, none⟩ = some (.slice none 0 0)) := fun x hx => box_kept hx
      have HIN : Hid (i < N) := hlt
      have HKL : Hid (M.length ≤ 100000) := hkl
      have HNL : Hid (M = [] → v' = .slice none 0 0) := hnil
      clear hnil
      clear hi hlt hi2 hnum hstr hks hkl hJ HJ e1 e2 e3 hc'
      go_wp2_with fail
      refine HHA.out.mono ?_
      rintro e y1 ⟨rfl, hb1⟩
      obtain ⟨d0, d1, d2⟩ := HXK.out y1 hb1
      have HJ2 : Hid (Jp w y1 (w.heap.size + 1) g8 mb mti z v' M) := HJ1.out.below hb1
      have HLT : Hid (wr.heap.size < y1.heap.size) := by have := hb1.size; rw [World.size_alloc] at this; show wr.heap.size < y1.heap.size; omega
      clear HJ1 hb1 HHA HXK c0 c1 c2
      cases hb : (z.contains n == keep) with
      | false =>
        have HK2 : Hid (kp z keep (L.take (i + 1)) = M) := by show _ = _; rw [HKS.out, hb]; rfl
        clear HKS
        generalize z.contains n = bb at *
        go_wp2_with fail
        have := HIN.out
        refine ⟨⟨i + 1, by simp, by omega, ⟨v', by rw [HK2.out]; exact HJ2.out, by rw [HK2.out]; exact HNL.out⟩⟩, ?_⟩
        simp only [intOf]
        omega
      | true =>
        have HK2 : Hid (kp z keep (L.take (i + 1)) = M ++ [(n, s)]) := by show _ = _; rw [HKS.out, hb]; rfl
        clear HKS
        generalize z.contains n = bb at *
        obtain ⟨k0, k1, k1f⟩ := HJ2.out.cell8
        go_wp2_with fail
        obtain ⟨i0, hi, hz0, hz1, hz2⟩ := infoF3
        have HAF : Hid (∀ y3, Below y1.heap.size y1.drew y3 → (y3.cell? ⟨g8, 1, none⟩ = some v' ∧ (y3.alloc (.cells #[.int .i64 n, .string s, .slice none 0 0] tF)).cell? ⟨g8, 1, none⟩ = some v') ∧ Hid (Jp w (y3.alloc (.cells #[.int .i64 n, .string s, .slice none 0 0] tF)) (w.heap.size + 1) g8 mb mti z v' M)) := fun y3 hb3 => by
          have hb4 : Below y1.heap.size y1 y3 := ⟨hb3.os, hb3.tape, hb3.output, hb3.size, hb3.block⟩
          have j3 := HJ2.out.below hb4
          have j4 := j3.below (Kb.below_one y3 (.cells #[.int .i64 n, .string s, .slice none 0 0] tF))
          exact ⟨⟨j3.cell8.2.1, j4.cell8.2.1⟩, j4⟩
        have HGF : Hid (∀ x z1, Jp w x (w.heap.size + 1) g8 mb mti z v' M → x.grownBy z1 v'.ownBlock → z1.cell? ⟨g8, 1, none⟩ = some v' ∧ z1.frozen? ⟨g8, 1, none⟩ = false) := fun x z1 hj hg => by
          have := (hj.grown hg).1
          exact ⟨by simp [World.cell?, this], frozen_of_row z1 _ _ _ _ this⟩
        have e0 : y1.drew.cell? ⟨g8, 1, none⟩ = some v' := k1
        have e1 : y1.drew.cell? ⟨wr.heap.size, 0, none⟩ = some (.int .i64 n) := d0
        have e2 : y1.drew.cell? ⟨wr.heap.size, 1, none⟩ = some (.string s) := d1
        have e3 : y1.drew.cell? ⟨wr.heap.size, 2, none⟩ = some (.slice none 0 0) := d2
        go_region_law (first
          | (refine step_append_lies _ (by rfl) _ _ _ (by rfl) w.heap.size tF i0 _ 3 48 Try.underlying44 hi hz0 hz1 hz2 rfl (by omega) _ M.length (fc M) (by rfl) HJ4.out.row ⟨y3.heap.size, 0, none⟩ 1 1 _ (by rfl) (by rfl) (World.news_of_block (h1_0 y3 _)) (by simp [Value.oneCell']) (by omega) (by have := HKL.out; unfold maxLen; omega) (by have := HKL.out; omega) HJ4.out.bel.size _ rfl ?_; intro gg cap2 z1 hown hgrow hat hlt1; obtain ⟨m1, m2⟩ := HGF.out _ z1 HJ4.out hgrow; have HPU : Hid (Jp w (z1.setCell ⟨g8, 1, none⟩ (.slice (some ⟨gg, 0, none⟩) (M.length + 1) cap2)) (w.heap.size + 1) g8 mb mti z (.slice (some ⟨gg, 0, none⟩) (M.length + 1) cap2) (M ++ [(n, s)])) := HJ4.out.push (f := (n, s)) hgrow hown; clear hown hgrow hat hlt1)
          | (go_simp; go_at_call 66; refine (HCF.out _).mono ?_; rintro e y3 ⟨rfl, hb3⟩; obtain ⟨⟨l1, l2⟩, HJ4⟩ := HAF.out y3 hb3; clear hb3))
        all_goals
          go_wp2_with fail
          have := HIN.out
          refine ⟨⟨i + 1, by simp, by omega, ⟨_, by rw [HK2.out]; exact HPU.out, by rw [HK2.out]; intro h; simp at h⟩⟩, ?_⟩
          simp only [intOf]
          omega
    · obtain rfl : i = N := by omega
      obtain ⟨v', hJ, hnil⟩ := HJ.out
      rw [List.take_of_length_le (by rw [HN.out]; exact Nat.le_refl _)] at hJ hnil
      have q0 : ¬ (i : Int) < (i : Int) := by omega
      obtain ⟨o2, c2, hv, -⟩ := own_form hJ.row
      subst hv
      obtain ⟨KL, HKL⟩ : ∃ KL, Hid ((kp z keep L).length = KL) := ⟨_, rfl⟩
      rw [HKL.out] at hJ hnil
      have HNL : Hid (kp z keep L = [] → Value.slice o2 KL c2 = .slice none 0 0) := hnil
      clear hnil
      obtain ⟨k0, k1, k1f⟩ := hJ.cell8
      have s0 : wr.cell? ⟨w.heap.size + 1, 0, none⟩ = some (.string ⟨#[]⟩) := by have := hJ.c6; simp [World.cell?, this]
      have s1 : wr.cell? ⟨w.heap.size + 1, 1, none⟩ = some (.slice none 0 0) := by have := hJ.c6; simp [World.cell?, this]
      have f0 : wr.frozen? ⟨w.heap.size + 1, 0, none⟩ = false := frozen_of_row wr _ _ _ _ hJ.c6
      have f1 : wr.frozen? ⟨w.heap.size + 1, 1, none⟩ = false := frozen_of_row wr _ _ _ _ hJ.c6
      have HJX : Hid (Jp w wr (w.heap.size + 1) g8 mb mti z (.slice o2 KL c2) (kp z keep L)) := hJ
      clear HJ hi hlt hJ
      go_wp2_with fail
      have h6 : ((wr.setCell ⟨w.heap.size + 1, 0, none⟩ (.string mti)).setCell ⟨w.heap.size + 1, 1, none⟩ (.slice o2 KL c2)).heap[w.heap.size + 1]? = some (.cells #[.string mti, (.slice o2 KL c2)] tG) := setCell_heap (setCell_heap HJX.out.c6 0 _) 1 _
      refine bodyPost_ret (v := .agg #[.string mti, (.slice o2 KL c2)]) (results_cell_row rfl _ _ (w.heap.size + 1) tG _ _ _ rfl h6 Try.underlying46 rfl infoG) rfl ⟨(.slice o2 KL c2), rfl, ?_, HNL.out, ?_⟩
      · refine own_keep HJX.out.row fun g hg => ?_
        have hne : w.heap.size + 1 ≠ g := fun e => HJX.out.ne8.2.1 (by rw [e]; exact hg)
        rw [setCell_ne (p := ⟨w.heap.size + 1, 1, none⟩) hne, setCell_ne (p := ⟨w.heap.size + 1, 0, none⟩) hne]
      · exact (HJX.out.bel.setCell (by show w.heap.size ≤ w.heap.size + 1; omega) _).setCell (by show w.heap.size ≤ w.heap.size + 1; omega) _
end Go.Proofs.Ytgchdjjafgkcbaa.Zd
/- Keep, Without, Copy, copied; Whole: of fields without kids. -/
namespace Go.Proofs.Ytgchdjjafgkcbaa.Ze
set_option linter.unusedVariables false
set_option linter.unusedSimpArgs false
open Go.RowKit Go.Maps Lib0 Kb Xp Ic Ix If Ig Za Zb Zc Zd
/-- what a function answers that makes a message: its type, and a row of its own -/
def PostM (w : World) (mti : ByteArray) (M : List Fl) (e : Ending) (w' : World) : Prop := ∃ v', e = .returned (.agg #[.string mti, v']) ∧ w'.ownsRow w.heap.size tF 3 v' M.length (fc M) ∧ (M = [] → v' = .slice none 0 0) ∧ Below w.heap.size w w'
theorem fin_msg {fn : Func} {p : Tmp} (h : fn.results = #[.cell p tG]) {w y : World} {g : Nat} {mti : ByteArray} {v : Value} {M : List Fl} (tm : Array Value) (hp : tm.getD p undef = .pointer (some ⟨g, 0, none⟩)) (hg : w.heap.size ≤ g) (hy : y.heap[g]? = some (.cells #[.string ⟨#[]⟩, .slice none 0 0] tG)) (hr : y.ownsRow w.heap.size tF 3 v M.length (fc M)) (hnl : M = [] → v = .slice none 0 0) (hb : Below w.heap.size w y) :
    bodyPost Try.prog fn (PostM w mti M) .ret ⟨tm, []⟩ ((y.setCell ⟨g, 0, none⟩ (.string mti)).setCell ⟨g, 1, none⟩ v) := by
  have h6 : ((y.setCell ⟨g, 0, none⟩ (.string mti)).setCell ⟨g, 1, none⟩ v).heap[g]? = some (.cells #[.string mti, v] tG) := setCell_heap (setCell_heap hy 0 _) 1 _
  refine bodyPost_ret (v := .agg #[.string mti, v]) (results_cell_row (fn := fn) h _ _ g tG _ _ _ hp h6 Try.underlying46 rfl infoG) rfl ⟨v, rfl, ?_, hnl, ?_⟩
  · refine own_keep hr fun k hk => ?_
    have hne : g ≠ k := fun e => by
      obtain ⟨cy, hcy⟩ := own_ty hr hk
      rw [← e, hy] at hcy
      injection hcy with hcy; injection hcy with _ hcy; exact absurd hcy (by decide)
    rw [setCell_ne (p := ⟨g, 1, none⟩) hne, setCell_ne (p := ⟨g, 0, none⟩) hne]
  · exact (hb.setCell hg _).setCell hg _
/-- the base of a row may be lower -/
theorem own_low {w : World} {b b' e size n : Nat} {v : Value} {xs : List Value} (h : w.ownsRow b e size v n xs) (hb : b' ≤ b) : w.ownsRow b' e size v n xs := by
  obtain ⟨h1, h2 | ⟨g, cap, cur, rfl, h3, h4, h5⟩⟩ := h
  · exact ⟨h1, .inl h2⟩
  · exact ⟨h1, .inr ⟨g, cap, cur, rfl, Nat.le_trans hb h3, h4, h5⟩⟩
structure Ms (w : World) (mti : ByteArray) (v : Value) (L : List Fl) : Prop where
  mti : mti.size ≤ 1000000
  row : RowF w v L
  fo : Fo L
theorem Ms.below {w x : World} {mti : ByteArray} {v : Value} {L : List Fl} (h : Ms w mti v L) (hb : Below w.heap.size w x) : Ms x mti v L := ⟨h.mti, rowf_below h.row hb, h.fo⟩
theorem Ms.slice {w : World} {mti : ByteArray} {v : Value} {L : List Fl} (h : Ms w mti v L) : ∃ o n cap, v = .slice o n cap := by
  obtain ⟨o, cap, e, -⟩ := h.row
  exact ⟨o, _, cap, e⟩
set_option maxRecDepth 100000 in
theorem without_flat (mti : ByteArray) (v nv : Value) (L : List Fl) (z : List Int) (w : World) (hM : Ms w mti v L) (hi : RowI w nv z) (hz : Io z) : Calls Try.prog 45 #[.agg #[.string mti, v], nv] w (PostM w mti (kp z false L)) := by
  have x0 := h2_0 w (.cells #[.string mti, v] tG) (.cells #[.string ⟨#[]⟩, .slice none 0 0] tG)
  have x1 := h2_1 w (.cells #[.string mti, v] tG) (.cells #[.string ⟨#[]⟩, .slice none 0 0] tG)
  have hB := below_two w (.cells #[.string mti, v] tG) (.cells #[.string ⟨#[]⟩, .slice none 0 0] tG)
  have HP : Hid (∀ y, Below w.heap.size w y → Calls Try.prog 57 #[.agg #[.string mti, v], nv, .bool false] y fun e w' => ∃ v', e = .returned (.agg #[.string mti, v']) ∧ w'.ownsRow y.heap.size tF 3 v' (kp z false L).length (fc (kp z false L)) ∧ (kp z false L = [] → v' = .slice none 0 0) ∧ Below y.heap.size y w') := fun y hy => part_flat mti v nv L z false y hM.mti (rowf_below hM.row hy) hM.fo (rowi_below hi hy) hz
  obtain ⟨o, n, cap, rfl⟩ := hM.slice
  have c0 : ((w.alloc (.cells #[.string mti, .slice o n cap] tG)).alloc (.cells #[.string ⟨#[]⟩, .slice none 0 0] tG)).cell? ⟨w.heap.size, 0, none⟩ = some (.string mti) := by simp [World.cell?, x0]
  have c1 : ((w.alloc (.cells #[.string mti, .slice o n cap] tG)).alloc (.cells #[.string ⟨#[]⟩, .slice none 0 0] tG)).cell? ⟨w.heap.size, 1, none⟩ = some (.slice o n cap) := by simp [World.cell?, x0]
  have HX1 : Hid _ := x1
  have HB : Hid (Below w.heap.size w ((w.alloc (.cells #[.string mti, .slice o n cap] tG)).alloc (.cells #[.string ⟨#[]⟩, .slice none 0 0] tG))) := hB
  clear x0 x1 hM hi hz hB
  go_enter Try.func45, Try.ntmps45
  go_wp2_with fail
  refine (HP.out _ HB.out).mono ?_
  rintro e y ⟨v', rfl, hr, hnl, hb⟩
  have HY1 : Hid (y.heap[w.heap.size + 1]? = some (.cells #[.string ⟨#[]⟩, .slice none 0 0] tG)) := kept hb HX1.out
  have HR : Hid (y.ownsRow w.heap.size tF 3 v' (kp z false L).length (fc (kp z false L))) := own_low hr HB.out.size
  have HNL : Hid (kp z false L = [] → v' = .slice none 0 0) := hnl
  clear hnl
  have HBY : Hid (Below w.heap.size w y) := keepB HB.out hb
  obtain ⟨o2, c2, rfl, -⟩ := own_form hr
  have s0 : y.cell? ⟨w.heap.size + 1, 0, none⟩ = some (.string ⟨#[]⟩) := by simp [World.cell?, HY1.out]
  have s1 : y.cell? ⟨w.heap.size + 1, 1, none⟩ = some (.slice none 0 0) := by simp [World.cell?, HY1.out]
  have f0 : y.frozen? ⟨w.heap.size + 1, 0, none⟩ = false := frozen_of_row y _ _ _ _ HY1.out
  have f1 : y.frozen? ⟨w.heap.size + 1, 1, none⟩ = false := frozen_of_row y _ _ _ _ HY1.out
  obtain ⟨K, HK⟩ : ∃ K, Hid ((kp z false L).length = K) := ⟨_, rfl⟩
  rw [HK.out] at HR HNL
  rw [HK.out]
  clear hr hb HP HX1 HB c0 c1
  go_wp2_with fail
  exact fin_msg rfl _ rfl (by omega) HY1.out (by rw [HK.out]; exact HR.out) HNL.out HBY.out
set_option maxRecDepth 100000 in
theorem copy_flat (mti : ByteArray) (v : Value) (L : List Fl) (w : World) (hM : Ms w mti v L) : Calls Try.prog 36 #[.agg #[.string mti, v]] w (PostM w mti L) := by
  have x0 := h2_0 w (.cells #[.string mti, v] tG) (.cells #[.string ⟨#[]⟩, .slice none 0 0] tG)
  have x1 := h2_1 w (.cells #[.string mti, v] tG) (.cells #[.string ⟨#[]⟩, .slice none 0 0] tG)
  have hB := below_two w (.cells #[.string mti, v] tG) (.cells #[.string ⟨#[]⟩, .slice none 0 0] tG)
  have hk : kp [] false L = L := by simp [Zc.kp]
  have HP : Hid (∀ y, Below w.heap.size w y → Calls Try.prog 45 #[.agg #[.string mti, v], .slice none 0 0] y (PostM y mti L)) := fun y hy => by
    have := without_flat mti v (.slice none 0 0) L [] y (hM.below hy) ⟨none, 0, rfl, fun i hi => by simp at hi⟩ ⟨by simp, fun x hx => by simp at hx⟩
    rwa [hk] at this
  obtain ⟨o, n, cap, rfl⟩ := hM.slice
  have c0 : ((w.alloc (.cells #[.string mti, .slice o n cap] tG)).alloc (.cells #[.string ⟨#[]⟩, .slice none 0 0] tG)).cell? ⟨w.heap.size, 0, none⟩ = some (.string mti) := by simp [World.cell?, x0]
  have c1 : ((w.alloc (.cells #[.string mti, .slice o n cap] tG)).alloc (.cells #[.string ⟨#[]⟩, .slice none 0 0] tG)).cell? ⟨w.heap.size, 1, none⟩ = some (.slice o n cap) := by simp [World.cell?, x0]
  have HX1 : Hid _ := x1
  have HB : Hid (Below w.heap.size w ((w.alloc (.cells #[.string mti, .slice o n cap] tG)).alloc (.cells #[.string ⟨#[]⟩, .slice none 0 0] tG))) := hB
  clear x0 x1 hM hB hk
  go_enter Try.func36, Try.ntmps36
  go_wp2_with fail
  refine (HP.out _ HB.out).mono ?_
  rintro e y ⟨v', rfl, hr, hnl, hb⟩
  have HY1 : Hid (y.heap[w.heap.size + 1]? = some (.cells #[.string ⟨#[]⟩, .slice none 0 0] tG)) := kept hb HX1.out
  have HR : Hid (y.ownsRow w.heap.size tF 3 v' L.length (fc L)) := own_low hr HB.out.size
  have HNL : Hid (L = [] → v' = .slice none 0 0) := hnl
  clear hnl
  have HBY : Hid (Below w.heap.size w y) := keepB HB.out hb
  obtain ⟨o2, c2, rfl, -⟩ := own_form hr
  have s0 : y.cell? ⟨w.heap.size + 1, 0, none⟩ = some (.string ⟨#[]⟩) := by simp [World.cell?, HY1.out]
  have s1 : y.cell? ⟨w.heap.size + 1, 1, none⟩ = some (.slice none 0 0) := by simp [World.cell?, HY1.out]
  have f0 : y.frozen? ⟨w.heap.size + 1, 0, none⟩ = false := frozen_of_row y _ _ _ _ HY1.out
  have f1 : y.frozen? ⟨w.heap.size + 1, 1, none⟩ = false := frozen_of_row y _ _ _ _ HY1.out
  obtain ⟨K, HK⟩ : ∃ K, Hid (L.length = K) := ⟨_, rfl⟩
  rw [HK.out] at HR HNL
  rw [HK.out]
  clear hr hb HP HX1 HB c0 c1
  go_wp2_with fail
  exact fin_msg rfl _ rfl (by omega) HY1.out (by rw [HK.out]; exact HR.out) HNL.out HBY.out
theorem field_one (a : ByteArray) (o : Option Addr) (n c : Nat) (y : World) : Sem.run Try.prog (Instr.field tG (.agg #[.string a, .slice o n c]) 1) y = .ok (.slice o n c) y := by kernel_rfl
end Go.Proofs.Ytgchdjjafgkcbaa.Ze
