/- Restore: where nothing is kept under a number. -/
import Derived.Test.YtmnoplaepjaokaaGreatDoorZj
import Derived.Deep.RegionLaw
namespace Go.Proofs.YtmnoplaepjaokaaGreatDoor.Zl
set_option linter.unusedVariables false
set_option linter.unusedSimpArgs false
open Go.RowKit Go.Maps Lib0 Kb Xp Ic Ix If Ig Za Zb Zc Zd Ze Zf Zg Zh Zi Zj
theorem run_none (w : World) (t ty e : TypeId) (i : TypeInfo) (ht : Tryz.prog.underlying t = some (.slice e)) (hi : Tryz.prog.info? e = some i) (base : Option Addr) (n c : Nat) (hle : n ≤ c) :
    (Builtin.append_ #[t, t] ty #[.slice base n c, .slice none 0 0]).run Tryz.prog w = .ok (.slice base n c) w := by
  cases base <;> simp [Builtin.append_, run_underlying ht, sizeOf, typeInfo, hi, storeCells, Builtin.lenOf, Builtin.firstCells, hle]
theorem step_none (w : World) {ops : Array Oper} {o : Oper} {a : Act} {K : Act → World → Prop} {Q : Exit → Act → World → Prop} {E : Prop} (hgd : o.guard = none) (s x : Operand) (t : TypeId)
    (ho : o.op = .call { callee := .builtin .append, args := #[s, x], argTypes := #[t, t] }) (e : TypeId) (i : TypeInfo) (ht : Tryz.prog.underlying t = some (.slice e)) (hi : Tryz.prog.info? e = some i) (base : Option Addr) (n c : Nat) (hle : n ≤ c) (hs : a.eval s = .slice base n c) (hx : a.eval x = .slice none 0 0)
    (h : K (a.put o.dst (.slice base n c)) w) : if Region.wanted o (yielded ops a.tmps) = true then Oper.wp Tryz.prog o a w K Q else E := by
  have hw : Region.wanted o (yielded ops a.tmps) = true := by simp [Region.wanted, hgd]
  rw [if_pos hw]
  unfold Oper.wp execOp
  have hr := run_none w t o.type e i ht hi base n c hle
  simp only [ho, resolve, invoke, builtin, Sem.run_bind, Sem.run_pure, Result.andThen_ok, List.map_toArray, List.map_cons, List.map_nil, hs, hx, hr]
  exact h
set_option maxRecDepth 100000 in
set_option maxHeartbeats 1600000 in
theorem restore_empty {w : World} {b mb : Nat} {z : List Int} {kf : KF} {sz c : Nat} (h : Ec w b mb z kf sz c) (n : Int) (hnb : -9223372036854775808 ≤ n ∧ n ≤ 9223372036854775807) (hk : kf n = some []) (mti : ByteArray) (v : Value) (L : List Fl) (hM : Ms w mti v L) (hw : (Hr.rt mti && snF 0 L) = true) :
    Calls Tryz.prog 32 #[.pointer (some ⟨b, 0, none⟩), .int .i64 n, .agg #[.string mti, v]] w fun e w' => ∃ T, T.Perm (kp z false L) ∧ T.Pairwise (fun x y => x.1 ≤ y.1) ∧ PostR w mti T true e w' := by
  have HH : Hid (∀ y, Below w.heap.size w y → Calls Tryz.prog 65 #[.pointer (some ⟨b, 0, none⟩), .int .i64 n] y fun e w' => e = .returned (.bool true) ∧ w' = y) := fun y hy => by
    obtain ⟨fv, D, h⟩ := h
    have := has_e ⟨fv, D, h.below hy⟩ n hnb
    rwa [hk] at this
  have HW : Hid (∀ y, Below w.heap.size w y → Calls Tryz.prog 66 #[.agg #[.string mti, v]] y fun e w' => e = .returned (.bool true) ∧ Below y.heap.size y w') := fun y hy => hw ▸ whole_flat mti v L y (hM.below hy)
  obtain ⟨fv, D, h⟩ := h
  have HWO : Hid (∀ y, Below w.heap.size w y → Calls Tryz.prog 69 #[.agg #[.string mti, v], fv] y (PostM y mti (kp z false L))) := fun y hy => without_flat mti v fv L z y (hM.below hy) (rowi_below h.row hy) h.io
  have HE : Hid (Em w b mb z kf sz c fv D) := h
  have HFO : Hid (Fo (kp z false L)) := Fo.kp hM.fo z false
  have HKN : Hid (kf n = some []) := hk
  have HKEY : Hid _ := key_of n hnb
  have x0 := h2_0 w (.cells #[.string mti, v] tG) (.cells #[.string ⟨#[]⟩, .slice none 0 0] tG)
  have x1 := h2_1 w (.cells #[.string mti, v] tG) (.cells #[.string ⟨#[]⟩, .slice none 0 0] tG)
  have hB := below_two w (.cells #[.string mti, v] tG) (.cells #[.string ⟨#[]⟩, .slice none 0 0] tG)
  obtain ⟨o, m, cap, rfl⟩ := hM.slice
  obtain ⟨of, cf, efv, -⟩ := h.row
  subst efv
  have c0 : ((w.alloc (.cells #[.string mti, .slice o m cap] tG)).alloc (.cells #[.string ⟨#[]⟩, .slice none 0 0] tG)).cell? ⟨w.heap.size, 0, none⟩ = some (.string mti) := by simp [World.cell?, x0]
  have c1 : ((w.alloc (.cells #[.string mti, .slice o m cap] tG)).alloc (.cells #[.string ⟨#[]⟩, .slice none 0 0] tG)).cell? ⟨w.heap.size, 1, none⟩ = some (.slice o m cap) := by simp [World.cell?, x0]
  have HX0 : Hid _ := x0
  have HX1 : Hid _ := x1
  have HB : Hid (Below w.heap.size w ((w.alloc (.cells #[.string mti, .slice o m cap] tG)).alloc (.cells #[.string ⟨#[]⟩, .slice none 0 0] tG))) := hB
  clear hk hM hw h hnb x0 x1 hB
  go_enter Tryz.func32, Tryz.ntmps32
  go_wp2_with fail
  refine (HH.out _ HB.out).mono ?_
  rintro e y ⟨rfl, hy⟩
  rw [hy]
  clear hy y
  go_wp2_with fail
  refine (HW.out _ HB.out).mono ?_
  rintro e y ⟨rfl, hy⟩
  have HBY : Hid (Below w.heap.size w y) := keepB HB.out hy
  have HXY : Hid (y.heap[w.heap.size]? = some (.cells #[.string mti, .slice o m cap] tG)) := kept hy HX0.out
  have HXZ : Hid (y.heap[w.heap.size + 1]? = some (.cells #[.string ⟨#[]⟩, .slice none 0 0] tG)) := kept hy HX1.out
  clear hy c0 c1 HH HW HB HX0 HX1
  have HF : Hid (∀ x, Below y.heap.size y x → (x.cell? ⟨w.heap.size, 0, none⟩ = some (.string mti) ∧ x.cell? ⟨w.heap.size, 1, none⟩ = some (.slice o m cap) ∧ x.cell? ⟨b, 0, none⟩ = some (.slice of z.length cf) ∧ x.cell? ⟨b, 1, none⟩ = some (.map (some mb)))) := fun x hx => by
    have e1 := kept hx HXY.out
    have e2 := (HE.out.below (keepB HBY.out hx)).cells
    exact ⟨by simp [World.cell?, e1], by simp [World.cell?, e1], e2.1, e2.2⟩
  obtain ⟨c0, c1, c2, c3⟩ := HF.out y.drew ((Below.refl _ _).drew)
  have HDR : Hid (Below y.heap.size y y.drew) := (Below.refl _ y).drew
  go_wp2_with fail
  refine cut2 (R := fun a1 x => ∃ g8 o9 c9, a1 = ⟨#[(.pointer (some ⟨b, 0, none⟩)), (.int .i64 n), (.agg #[.string mti, .slice o m cap]), undef, undef, (.pointer (some ⟨w.heap.size, 0, none⟩)), (.pointer (some ⟨w.heap.size + 1, 0, none⟩)), (.bool false), (.pointer (some ⟨g8, 0, none⟩)), (.pointer (some ⟨b, 0, none⟩)), (.int .i64 n), (.bool true), (.bool false), (.bool false), (.agg #[.string mti, .slice o m cap]), (.bool true), (.bool false), (.bool false), undef, undef, (.agg #[.string mti, .slice o m cap]), (.pointer (some ⟨b, 0, none⟩)), (.pointer (some ⟨b, 0, none⟩)), (.pointer (some ⟨b, 0, none⟩)), (.slice of z.length cf), (.agg #[.string mti, .slice o9 (kp z false L).length c9]), undef, undef, undef, undef, undef, undef, undef, undef, undef, undef, undef, undef, undef, undef, undef], []⟩ ∧ Hid (Rd w x g8 mti (.slice o9 (kp z false L).length c9) (kp z false L) ∧ Below y.heap.size y x)) ?_ ?_
  · have HZ : Hid (Below y.heap.size y (y.alloc (.cells #[.string ⟨#[]⟩, .slice none 0 0] tG)).drew) := (below_one y _).drew
    obtain ⟨e0, e1, e2, e3⟩ := HF.out _ HZ.out
    have HFA : Hid (∀ x v1, Below y.heap.size y x → x.ownsRow w.heap.size tF 3 v1 (kp z false L).length (fc (kp z false L)) → Rd w (x.alloc (.cells #[.string mti, v1] tG)) x.heap.size mti v1 (kp z false L) ∧ Below y.heap.size y (x.alloc (.cells #[.string mti, v1] tG))) := fun x v1 hx ho => ⟨⟨h1_0 _ _, kept (keepB hx (below_one x _)) HXZ.out, ho.alloc _, keepB HBY.out (keepB hx (below_one x _)), Nat.le_trans HBY.out.size hx.size, fun e => by have := (Array.getElem?_eq_some_iff.1 HXZ.out).1; have := hx.size; omega⟩, keepB hx (below_one x _)⟩
    have HFB : Hid (∀ x v1, Below (y.alloc (.cells #[.string ⟨#[]⟩, .slice none 0 0] tG)).drew.heap.size (y.alloc (.cells #[.string ⟨#[]⟩, .slice none 0 0] tG)).drew x → x.ownsRow w.heap.size tF 3 v1 (kp z false L).length (fc (kp z false L)) → (x.cell? ⟨y.heap.size, 0, none⟩ = some (.string ⟨#[]⟩) ∧ x.cell? ⟨y.heap.size, 1, none⟩ = some (.slice none 0 0) ∧ x.frozen? ⟨y.heap.size, 0, none⟩ = false ∧ x.frozen? ⟨y.heap.size, 1, none⟩ = false) ∧ Hid (Rd w ((x.setCell ⟨y.heap.size, 0, none⟩ (.string mti)).setCell ⟨y.heap.size, 1, none⟩ v1) y.heap.size mti v1 (kp z false L) ∧ Below y.heap.size y ((x.setCell ⟨y.heap.size, 0, none⟩ (.string mti)).setCell ⟨y.heap.size, 1, none⟩ v1))) := fun x v1 hx ho => by
      have hg : x.heap[y.heap.size]? = some (.cells #[.string ⟨#[]⟩, .slice none 0 0] tG) := (hx.block _ (by show y.heap.size < (y.alloc (.cells #[.string ⟨#[]⟩, .slice none 0 0] tG)).heap.size; simp)).trans (h1_0 y _)
      have hbx : Below y.heap.size y x := keepB HZ.out hx
      have hb3 : Below y.heap.size y ((x.setCell ⟨y.heap.size, 0, none⟩ (.string mti)).setCell ⟨y.heap.size, 1, none⟩ v1) := (hbx.setCell (Nat.le_refl _) _).setCell (Nat.le_refl _) _
      refine ⟨⟨by simp [World.cell?, hg], by simp [World.cell?, hg], frozen_of_row x _ _ _ _ hg, frozen_of_row x _ _ _ _ hg⟩, ⟨setCell_heap (setCell_heap hg 0 _) 1 _, kept hb3 HXZ.out, own_keep ho fun k hk => ?_, keepB HBY.out hb3, HBY.out.size, fun e => ?_⟩, hb3⟩
      · have hne : y.heap.size ≠ k := fun e => by
          obtain ⟨cy, hcy⟩ := own_ty ho hk
          rw [← e, hg] at hcy
          injection hcy with hcy; injection hcy with _ hcy; exact absurd hcy (by decide)
        rw [setCell_ne (p := ⟨y.heap.size, 1, none⟩) hne, setCell_ne (p := ⟨y.heap.size, 0, none⟩) hne]
      · have := (Array.getElem?_eq_some_iff.1 HXZ.out).1; omega
    go_region_with (first
      | (go_at_call 69; refine (HWO.out _ (keepB HBY.out HDR.out)).mono ?_; rintro e x ⟨v1, rfl, hr, -, hb⟩; have HBX : Hid (Below y.heap.size y x) := keepB HDR.out hb; have HRX : Hid (x.ownsRow w.heap.size tF 3 v1 (kp z false L).length (fc (kp z false L))) := own_low hr (Nat.le_trans HBY.out.size HDR.out.size); have HEND := HFA.out x v1 HBX.out HRX.out; have HEN : Hid _ := HEND; clear HEND; obtain ⟨o9, c9, hv, -⟩ := own_form hr; subst hv; clear hr hb)
      | (go_at_call 69; refine (HWO.out _ (keepB HBY.out HZ.out)).mono ?_; rintro e x ⟨v1, rfl, hr, -, hb⟩; have HRX : Hid (x.ownsRow w.heap.size tF 3 v1 (kp z false L).length (fc (kp z false L))) := own_low hr (Nat.le_trans HBY.out.size HZ.out.size); obtain ⟨⟨k0, k1, k2, k3⟩, HEN⟩ := HFB.out x v1 hb HRX.out; obtain ⟨o9, c9, hv, -⟩ := own_form hr; subst hv; clear hr hb))
    all_goals exact ⟨_, _, _, rfl, HEN.out⟩
  clear c0 c1 c2 c3 HWO HF HDR
  rintro a1 x ⟨g8, o9, c9, rfl, HR0⟩
  dsimp only
  have HRD : Hid (Rd w x g8 mti (.slice o9 (kp z false L).length c9) (kp z false L)) := HR0.out.1
  have HBX : Hid (Below y.heap.size y x) := HR0.out.2
  have hEx := HE.out.below (keepB HBY.out HBX.out)
  obtain ⟨KF0, HK0⟩ : ∃ A, Hid (kp z false L = A) := ⟨_, rfl⟩
  rw [HK0.out] at HRD HFO ⊢
  have hdx : Below x.heap.size x x.drew := (Below.refl _ x).drew
  obtain ⟨lv, ps, hlook, hlv⟩ := (hEx.below hdx).own.lookup law Tryz.underlying93 (zeroS _) (zd := .held (.slice none 0 0)) (zp := []) rfl HKEY.out
  obtain ⟨hfl, lv2, hat, hrow⟩ := (hEx.below hdx).at_ n [] HKN.out
  rw [hat] at hlv
  obtain rfl : lv = lv2 := by simp [heldE] at hlv; exact hlv.1
  have HCP : Hid (Calls Tryz.prog 70 #[lv] x.drew fun e w' => e = .returned (.slice none 0 0) ∧ Below x.drew.heap.size x.drew w') := by
    refine (copied_flat lv [] x.drew hrow hfl).mono ?_
    rintro e w' ⟨v', he, -, hn, hb⟩
    rw [hn rfl] at he
    exact ⟨he, hb⟩
  obtain ⟨k0, k1, k1f, -⟩ := (HRD.out.below hdx).cells
  have ke := (hEx.below hdx).cells.2
  have HFB : Hid (∀ X2, Below x.drew.heap.size x.drew X2 → X2.cell? ⟨g8, 1, none⟩ = some (.slice o9 KF0.length c9) ∧ X2.frozen? ⟨g8, 1, none⟩ = false ∧ Hid (Rd w (X2.setCell ⟨g8, 1, none⟩ (.slice o9 KF0.length c9)) g8 mti (.slice o9 KF0.length c9) KF0)) := fun X2 hb => by
    have hR2 := HRD.out.below (keepB hdx hb)
    refine ⟨hR2.cells.2.1, hR2.cells.2.2.1, ?_⟩
    exact ⟨by rw [setCell_heap hR2.c8]; rfl, (setCell_ne (p := ⟨g8, 1, none⟩) hR2.ne _).trans hR2.c6, own_keep hR2.row fun g hg => setCell_ne (p := ⟨g8, 1, none⟩) (fun e => hR2.ne8.1 (by rw [show g8 = g from e]; exact hg)) _, hR2.bel.setCell hR2.b8 _, hR2.b8, hR2.ne⟩
  clear hEx hdx hlv hat hrow hfl HR0 HBX HKEY HKN HXY HXZ
  go_wp2_with fail
  obtain ⟨i0, hi, hz0, hz1, hz2⟩ := infoF3
  have HLE : Hid (KF0.length ≤ c9) := by
    obtain ⟨o', c', e', h', -⟩ := own_form HRD.out.row
    injection e' with _ _ e3
    rw [e3]; exact h'
  go_region_law (first
    | (refine step_none _ (by rfl) _ _ _ (by rfl) tF i0 Tryz.underlying35 hi o9 KF0.length c9 HLE.out (by rfl) (by rfl) ?_)
    | (go_simp; go_at_call 70; refine HCP.out.mono ?_; rintro e X2 ⟨rfl, hb2⟩; obtain ⟨l1, l2, HPU⟩ := HFB.out X2 hb2; clear hb2))
  all_goals
    obtain ⟨p0, p1, p1f, p2, p3, p4, p5⟩ := HPU.out.cells
    generalize X2.setCell ⟨g8, 1, none⟩ (.slice o9 KF0.length c9) = Y at *
    have HSO : Hid (Calls Tryz.prog 71 #[.slice o9 KF0.length c9, .func (.func 72) #[] #[]] Y fun e w' => e = .returned (.tuple #[]) ∧ ∃ T' : List Fl, T'.Perm KF0 ∧ (T'.Pairwise fun x y => x.1 ≤ y.1) ∧ w'.ownsRow w.heap.size tF 3 (.slice o9 KF0.length c9) T'.length (fc T') ∧ FrP (fun k => (Value.slice o9 KF0.length c9).ownBlock = some k) Y w') := sort_any Y w.heap.size _ KF0 HPU.out.row (by have := HFO.out.len; omega)
    clear HCP HFB hi hz0 hz1 hz2
    go_wp2_with fail
    refine HSO.out.mono ?_
    rintro e Z ⟨rfl, T, hp, hs, ho, hf⟩
    have HRZ : Hid (Rd w Z g8 mti (.slice o9 KF0.length c9) T) := HPU.out.sorted hf ho
    have HPS : Hid (T.Perm KF0 ∧ (T.Pairwise fun x y => x.1 ≤ y.1)) := ⟨hp, hs⟩
    obtain ⟨p0, p1, p1f, p2, p3, p4, p5⟩ := HRZ.out.cells
    clear hp hs ho hf HSO HPU
    go_wp2_with fail
    exact bp_mono (fun e w' hq => ⟨T, HK0.out.symm ▸ HPS.out.1, HPS.out.2, hq⟩) (fin_res rfl _ rfl rfl (by omega) HRZ.out.c6 HRZ.out.row HRZ.out.bel)
end Go.Proofs.YtmnoplaepjaokaaGreatDoor.Zl
