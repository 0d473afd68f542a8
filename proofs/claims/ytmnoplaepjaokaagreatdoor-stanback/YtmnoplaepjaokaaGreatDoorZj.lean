/- Restore. -/
import Derived.Test.YtmnoplaepjaokaaGreatDoorZi
import Derived.Deep.RegionLaw
namespace Go.Proofs.YtmnoplaepjaokaaGreatDoor.Zj
set_option linter.unusedVariables false
set_option linter.unusedSimpArgs false
open Go.RowKit Go.Maps Lib0 Kb Xp Ic Ix If Ig Za Zb Zc Zd Ze Zf Zg Zh Zi
theorem res_row_tmp {P : Program} {fn : Func} {p u : Tmp} {ty : TypeId} (h : fn.results = #[.cell p ty, .tmp u]) (tmps : Array Value) (w : World) (g : Nat) (t : TypeId) (cs : Array Value) (fr : Nat × Nat) (d : TypeDesc)
    (hp : tmps.getD p undef = .pointer (some ⟨g, 0, none⟩)) (hg : w.heap[g]? = some (.cells cs t fr))
    (hu : P.underlying ty = some d) (hd : (match d with | .struct _ | .array _ _ => true | _ => false) = true) (hi : (P.info? ty).map (·.size) = some cs.size) :
    (results fn tmps).run P w = .ok (.tuple #[.agg cs, tmps.getD u undef]) w := by
  rw [results_cell_tmp h, hp]
  simp only [asAddr, Sem.run_pure, Result.andThen_ok, run_loadVar_row w g t ty cs fr d hg hu hd hi]

/-- what Restore answers -/
def PostR (w : World) (mti : ByteArray) (M : List Fl) (ok : Bool) (e : Ending) (w' : World) : Prop := ∃ v', e = .returned (.tuple #[.agg #[.string mti, v'], .bool ok]) ∧ w'.ownsRow w.heap.size tF 3 v' M.length (fc M) ∧ Below w.heap.size w w'
theorem fin_res {fn : Func} {p u : Tmp} (h : fn.results = #[.cell p tG, .tmp u]) {w y : World} {g : Nat} {mti : ByteArray} {v : Value} {M : List Fl} {ok : Bool} (tm : Array Value) (hp : tm.getD p undef = .pointer (some ⟨g, 0, none⟩)) (hu : tm.getD u undef = .bool ok) (hg : w.heap.size ≤ g) (hy : y.heap[g]? = some (.cells #[.string ⟨#[]⟩, .slice none 0 0] tG)) (hr : y.ownsRow w.heap.size tF 3 v M.length (fc M)) (hb : Below w.heap.size w y) :
    bodyPost Tryz.prog fn (PostR w mti M ok) .ret ⟨tm, []⟩ ((y.setCell ⟨g, 0, none⟩ (.string mti)).setCell ⟨g, 1, none⟩ v) := by
  have h6 : ((y.setCell ⟨g, 0, none⟩ (.string mti)).setCell ⟨g, 1, none⟩ v).heap[g]? = some (.cells #[.string mti, v] tG) := setCell_heap (setCell_heap hy 0 _) 1 _
  refine bodyPost_ret (v := .tuple #[.agg #[.string mti, v], .bool ok]) (by rw [← hu]; exact res_row_tmp (fn := fn) h _ _ g tG _ _ _ hp h6 Tryz.underlying37 rfl infoG) rfl ⟨v, rfl, ?_, ?_⟩
  · refine own_keep hr fun k hk => ?_
    have hne : g ≠ k := fun e => by
      obtain ⟨cy, hcy⟩ := own_ty hr hk
      rw [← e, hy] at hcy
      injection hcy with hcy; injection hcy with _ hcy; exact absurd hcy (by decide)
    rw [setCell_ne (p := ⟨g, 1, none⟩) hne, setCell_ne (p := ⟨g, 0, none⟩) hne]
  · exact (hb.setCell hg _).setCell hg _
set_option maxRecDepth 100000 in
set_option maxHeartbeats 1600000 in
theorem restore_none {w : World} {b mb : Nat} {z : List Int} {kf : KF} {sz c : Nat} (h : Ec w b mb z kf sz c) (n : Int) (hnb : -9223372036854775808 ≤ n ∧ n ≤ 9223372036854775807) (hk : (kf n).isSome = false) (mti : ByteArray) (v : Value) (L : List Fl) (hM : Ms w mti v L) :
    Calls Tryz.prog 32 #[.pointer (some ⟨b, 0, none⟩), .int .i64 n, .agg #[.string mti, v]] w (PostR w mti L false) := by
  have HH : Hid (∀ y, Below w.heap.size w y → Calls Tryz.prog 65 #[.pointer (some ⟨b, 0, none⟩), .int .i64 n] y fun e w' => e = .returned (.bool false) ∧ w' = y) := fun y hy => by
    obtain ⟨fv, D, h⟩ := h
    have := has_e ⟨fv, D, h.below hy⟩ n hnb
    rwa [hk] at this
  have HP : Hid (∀ y, Below w.heap.size w y → Calls Tryz.prog 68 #[.agg #[.string mti, v]] y (PostM y mti L)) := fun y hy => copy_flat mti v L y (hM.below hy)
  have x0 := h2_0 w (.cells #[.string mti, v] tG) (.cells #[.string ⟨#[]⟩, .slice none 0 0] tG)
  have x1 := h2_1 w (.cells #[.string mti, v] tG) (.cells #[.string ⟨#[]⟩, .slice none 0 0] tG)
  have hB := below_two w (.cells #[.string mti, v] tG) (.cells #[.string ⟨#[]⟩, .slice none 0 0] tG)
  obtain ⟨o, m, cap, rfl⟩ := hM.slice
  have c0 : ((w.alloc (.cells #[.string mti, .slice o m cap] tG)).alloc (.cells #[.string ⟨#[]⟩, .slice none 0 0] tG)).cell? ⟨w.heap.size, 0, none⟩ = some (.string mti) := by simp [World.cell?, x0]
  have c1 : ((w.alloc (.cells #[.string mti, .slice o m cap] tG)).alloc (.cells #[.string ⟨#[]⟩, .slice none 0 0] tG)).cell? ⟨w.heap.size, 1, none⟩ = some (.slice o m cap) := by simp [World.cell?, x0]
  have HX1 : Hid _ := x1
  have HB : Hid (Below w.heap.size w ((w.alloc (.cells #[.string mti, .slice o m cap] tG)).alloc (.cells #[.string ⟨#[]⟩, .slice none 0 0] tG))) := hB
  clear x0 x1 hM hB hk h hnb
  go_enter Tryz.func32, Tryz.ntmps32
  go_wp2_with fail
  refine (HH.out _ HB.out).mono ?_
  rintro e y ⟨rfl, hy⟩
  rw [hy]
  clear hy y
  go_wp2_with fail
  refine (HP.out _ HB.out).mono ?_
  rintro e y ⟨v', rfl, hr, -, hb⟩
  have HY1 : Hid (y.heap[w.heap.size + 1]? = some (.cells #[.string ⟨#[]⟩, .slice none 0 0] tG)) := kept hb HX1.out
  have HR : Hid (y.ownsRow w.heap.size tF 3 v' L.length (fc L)) := own_low hr HB.out.size
  have HBY : Hid (Below w.heap.size w y) := keepB HB.out hb
  obtain ⟨o2, c2, rfl, -⟩ := own_form hr
  have s0 : y.cell? ⟨w.heap.size + 1, 0, none⟩ = some (.string ⟨#[]⟩) := by simp [World.cell?, HY1.out]
  have s1 : y.cell? ⟨w.heap.size + 1, 1, none⟩ = some (.slice none 0 0) := by simp [World.cell?, HY1.out]
  have f0 : y.frozen? ⟨w.heap.size + 1, 0, none⟩ = false := frozen_of_row y _ _ _ _ HY1.out
  have f1 : y.frozen? ⟨w.heap.size + 1, 1, none⟩ = false := frozen_of_row y _ _ _ _ HY1.out
  clear hr hb HP HX1 HB c0 c1
  go_wp2_with fail
  exact fin_res rfl _ rfl rfl (by omega) HY1.out HR.out HBY.out
theorem bp_mono {P : Program} {fn : Func} {R R' : Ending → World → Prop} {a : Act} {w : World} (k : ∀ e w', R e w' → R' e w') (h : bodyPost P fn R .ret a w) : bodyPost P fn R' .ret a w := by
  obtain ⟨b1, v, b2, b3⟩ := h
  exact ⟨b1, v, b2, k _ _ b3⟩
theorem cut2 {P : Program} {c : Code} {Q : Exit → Act → World → Prop} {a : Act} {w : World} {R : Act → World → Prop} (h : c.wp P (fun e b x => match e with | .normal => R b x | _ => False) a w) (k : ∀ b x, R b x → Q .normal b x) : c.wp P Q a w :=
  Code.wp_mono (fun e b x h2 => by cases e <;> first | exact k b x h2 | exact absurd h2 id) h
/-- the message under way, and the result's cells -/
structure Rd (w x : World) (g8 : Nat) (mti : ByteArray) (v : Value) (M : List Fl) : Prop where
  c8 : x.heap[g8]? = some (.cells #[.string mti, v] tG)
  c6 : x.heap[w.heap.size + 1]? = some (.cells #[.string ⟨#[]⟩, .slice none 0 0] tG)
  row : x.ownsRow w.heap.size tF 3 v M.length (fc M)
  bel : Below w.heap.size w x
  b8 : w.heap.size ≤ g8
  ne : g8 ≠ w.heap.size + 1
section
variable {w x y : World} {g8 : Nat} {mti : ByteArray} {v : Value} {M : List Fl}
theorem Rd.below (h : Rd w x g8 mti v M) (k : Below x.heap.size x y) : Rd w y g8 mti v M := by
  refine ⟨kept k h.c8, kept k h.c6, own_keep h.row fun g hg => ?_, keepB h.bel k, h.b8, h.ne⟩
  obtain ⟨cy, hcy⟩ := own_ty h.row hg
  exact k.block _ (Array.getElem?_eq_some_iff.1 hcy).1
theorem Rd.ne8 (h : Rd w x g8 mti v M) : v.ownBlock ≠ some g8 ∧ v.ownBlock ≠ some (w.heap.size + 1) ∧ ∀ g, v.ownBlock = some g → w.heap.size ≤ g := by
  refine ⟨fun e => ?_, fun e => ?_, fun g hg => ?_⟩
  · obtain ⟨cy, hcy⟩ := own_ty h.row e
    rw [h.c8] at hcy
    injection hcy with hcy; injection hcy with _ hcy; exact absurd hcy (by decide)
  · obtain ⟨cy, hcy⟩ := own_ty h.row e
    rw [h.c6] at hcy
    injection hcy with hcy; injection hcy with _ hcy; exact absurd hcy (by decide)
  · rcases h.row.2 with ⟨rfl, _⟩ | ⟨g', cap, cur, rfl, hb, _⟩
    · simp [Value.ownBlock] at hg
    · have : g' = g := by simpa [Value.ownBlock] using hg
      omega
/-- a world in which no block but the row's has changed -/
theorem Rd.fr (h : Rd w x g8 mti v M) (hg : FrP (fun k => v.ownBlock = some k) x y) : y.heap[g8]? = some (.cells #[.string mti, v] tG) ∧ y.heap[w.heap.size + 1]? = some (.cells #[.string ⟨#[]⟩, .slice none 0 0] tG) ∧ Below w.heap.size w y := by
  obtain ⟨n8, n6, hB⟩ := h.ne8
  refine ⟨(hg.block _ (Array.getElem?_eq_some_iff.1 h.c8).1 n8).trans h.c8, (hg.block _ (Array.getElem?_eq_some_iff.1 h.c6).1 n6).trans h.c6, ?_⟩
  exact ⟨hg.os.trans h.bel.os, hg.tape.trans h.bel.tape, hg.output.trans h.bel.output, Nat.le_trans h.bel.size hg.size, fun g hlt => (hg.block g (Nat.lt_of_lt_of_le hlt h.bel.size) (fun e => by have := hB g e; omega)).trans (h.bel.block g hlt)⟩
theorem Rd.push (h : Rd w x g8 mti v M) (hg : x.grownBy y v.ownBlock) {v3 : Value} {l : List Fl} (ho : y.ownsRow w.heap.size tF 3 v3 (M.length + l.length) (fc M ++ fc l)) : Rd w (y.setCell ⟨g8, 1, none⟩ v3) g8 mti v3 (M ++ l) := by
  have hf : FrP (fun k => v.ownBlock = some k) x y := FrP.grown (FrP.refl _ x) hg (fun g hg2 => .inl hg2)
  obtain ⟨k8, k6, kb⟩ := h.fr hf
  refine ⟨setCell_heap k8 1 _, (setCell_ne (p := ⟨g8, 1, none⟩) h.ne _).trans k6, ?_, kb.setCell h.b8 _, h.b8, h.ne⟩
  rw [List.length_append, fc_append]
  refine own_keep ho fun g hgb => setCell_ne (p := ⟨g8, 1, none⟩) (fun e => ?_) _
  obtain ⟨cy, hcy⟩ := own_ty ho hgb
  rw [← show g8 = g from e, k8] at hcy
  injection hcy with hcy; injection hcy with _ hcy; exact absurd hcy (by decide)
theorem Rd.sorted (h : Rd w x g8 mti v M) (hg : FrP (fun k => v.ownBlock = some k) x y) {T : List Fl} (ho : y.ownsRow w.heap.size tF 3 v T.length (fc T)) : Rd w y g8 mti v T := by
  obtain ⟨k8, k6, kb⟩ := h.fr hg
  exact ⟨k8, k6, ho, kb, h.b8, h.ne⟩
theorem Rd.cells (h : Rd w x g8 mti v M) : x.cell? ⟨g8, 0, none⟩ = some (.string mti) ∧ x.cell? ⟨g8, 1, none⟩ = some v ∧ x.frozen? ⟨g8, 1, none⟩ = false ∧ x.cell? ⟨w.heap.size + 1, 0, none⟩ = some (.string ⟨#[]⟩) ∧ x.cell? ⟨w.heap.size + 1, 1, none⟩ = some (.slice none 0 0) ∧ x.frozen? ⟨w.heap.size + 1, 0, none⟩ = false ∧ x.frozen? ⟨w.heap.size + 1, 1, none⟩ = false := by
  have a := h.c8; have b := h.c6
  exact ⟨by simp [World.cell?, a], by simp [World.cell?, a], frozen_of_row x _ _ _ _ a, by simp [World.cell?, b], by simp [World.cell?, b], frozen_of_row x _ _ _ _ b, frozen_of_row x _ _ _ _ b⟩
end
theorem own_some {w : World} {base : Nat} {v : Value} {l : List Fl} (h : w.ownsRow base tF 3 v l.length (fc l)) (hl : 0 < l.length) : ∃ g cap, v = .slice (some ⟨g, 0, none⟩) l.length cap ∧ ∀ j u, (fc l)[j]? = some u → w.cell? ((⟨g, 0, none⟩ : Addr).add j) = some u := by
  rcases h.2 with ⟨rfl, h0⟩ | ⟨g, cap, cur, rfl, r⟩
  · omega
  · exact ⟨g, cap, rfl, fun j u hu => h.cells (g := g) rfl j u hu⟩
set_option maxRecDepth 100000 in
set_option maxHeartbeats 1600000 in
theorem restore_ok {w : World} {b mb : Nat} {z : List Int} {kf : KF} {sz c : Nat} (h : Ec w b mb z kf sz c) (n : Int) (hnb : -9223372036854775808 ≤ n ∧ n ≤ 9223372036854775807) (l : List Fl) (hk : kf n = some l) (hl : 0 < l.length) (mti : ByteArray) (v : Value) (L : List Fl) (hM : Ms w mti v L) (hw : (Hr.rt mti && snF 0 L) = true) :
    Calls Tryz.prog 32 #[.pointer (some ⟨b, 0, none⟩), .int .i64 n, .agg #[.string mti, v]] w fun e w' => ∃ T, T.Perm (kp z false L ++ l) ∧ T.Pairwise (fun x y => x.1 ≤ y.1) ∧ PostR w mti T true e w' := by
  have HH : Hid (∀ y, Below w.heap.size w y → Calls Tryz.prog 65 #[.pointer (some ⟨b, 0, none⟩), .int .i64 n] y fun e w' => e = .returned (.bool true) ∧ w' = y) := fun y hy => by
    obtain ⟨fv, D, h⟩ := h
    have := has_e ⟨fv, D, h.below hy⟩ n hnb
    rwa [hk] at this
  have HW : Hid (∀ y, Below w.heap.size w y → Calls Tryz.prog 66 #[.agg #[.string mti, v]] y fun e w' => e = .returned (.bool true) ∧ Below y.heap.size y w') := fun y hy => hw ▸ whole_flat mti v L y (hM.below hy)
  obtain ⟨fv, D, h⟩ := h
  have HWO : Hid (∀ y, Below w.heap.size w y → Calls Tryz.prog 69 #[.agg #[.string mti, v], fv] y (PostM y mti (kp z false L))) := fun y hy => without_flat mti v fv L z y (hM.below hy) (rowi_below h.row hy) h.io
  have HE : Hid (Em w b mb z kf sz c fv D) := h
  have HFO : Hid (Fo (kp z false L)) := Fo.kp hM.fo z false
  have HKN : Hid (kf n = some l) := hk
  have HKEY : Hid _ := key_of n hnb
  have x0 := h2_0 w (.cells #[.string mti, v] tG) (.cells #[.string ⟨#[]⟩, .slice none 0 0] tG)
  have x1 := h2_1 w (.cells #[.string mti, v] tG) (.cells #[.string ⟨#[]⟩, .slice none 0 0] tG)
  have hB := below_two w (.cells #[.string mti, v] tG) (.cells #[.string ⟨#[]⟩, .slice none 0 0] tG)
  obtain ⟨o, m, cap, rfl⟩ := hM.slice
  obtain ⟨of, cf, efv, -⟩ := h.row
  subst efv
  have c0 : ((w.alloc (.cells #[.string mti, .slice o m cap] tG)).alloc (.cells #[.string ⟨#[]⟩, .slice none 0 0] tG)).cell? ⟨w.heap.size, 0, none⟩ = some (.string mti) := by simp [World.cell?, x0]
  have c1 : ((w.alloc (.cells #[.string mti, .slice o m cap] tG)).alloc (.cells #[.string ⟨#[]⟩, .slice none 0 0] tG)).cell? ⟨w.heap.size, 1, none⟩ = some (.slice o m cap) := by simp [World.cell?, x0]
  have HX0 : Hid _ := x0
  have HX1 : Hid _ := x1
  have HB : Hid (Below w.heap.size w ((w.alloc (.cells #[.string mti, .slice o m cap] tG)).alloc (.cells #[.string ⟨#[]⟩, .slice none 0 0] tG))) := hB
  have HL0 : Hid (0 < l.length) := hl
  clear hk hM hw h hnb x0 x1 hB hl
  go_enter Tryz.func32, Tryz.ntmps32
  go_wp2_with fail
  refine (HH.out _ HB.out).mono ?_
  rintro e y ⟨rfl, hy⟩
  rw [hy]
  clear hy y
  go_wp2_with fail
  refine (HW.out _ HB.out).mono ?_
  rintro e y ⟨rfl, hy⟩
  have HBY : Hid (Below w.heap.size w y) := keepB HB.out hy
  have HXY : Hid (y.heap[w.heap.size]? = some (.cells #[.string mti, .slice o m cap] tG)) := kept hy HX0.out
  have HXZ : Hid (y.heap[w.heap.size + 1]? = some (.cells #[.string ⟨#[]⟩, .slice none 0 0] tG)) := kept hy HX1.out
  clear hy c0 c1 HH HW HB HX0 HX1
  have HF : Hid (∀ x, Below y.heap.size y x → (x.cell? ⟨w.heap.size, 0, none⟩ = some (.string mti) ∧ x.cell? ⟨w.heap.size, 1, none⟩ = some (.slice o m cap) ∧ x.cell? ⟨b, 0, none⟩ = some (.slice of z.length cf) ∧ x.cell? ⟨b, 1, none⟩ = some (.map (some mb)))) := fun x hx => by
    have e1 := kept hx HXY.out
    have e2 := (HE.out.below (keepB HBY.out hx)).cells
    exact ⟨by simp [World.cell?, e1], by simp [World.cell?, e1], e2.1, e2.2⟩
  obtain ⟨c0, c1, c2, c3⟩ := HF.out y.drew ((Below.refl _ _).drew)
  have HDR : Hid (Below y.heap.size y y.drew) := (Below.refl _ y).drew
  go_wp2_with fail
  refine cut2 (R := fun a1 x => ∃ g8 o9 c9, a1 = ⟨#[(.pointer (some ⟨b, 0, none⟩)), (.int .i64 n), (.agg #[.string mti, .slice o m cap]), undef, undef, (.pointer (some ⟨w.heap.size, 0, none⟩)), (.pointer (some ⟨w.heap.size + 1, 0, none⟩)), (.bool false), (.pointer (some ⟨g8, 0, none⟩)), (.pointer (some ⟨b, 0, none⟩)), (.int .i64 n), (.bool true), (.bool false), (.bool false), (.agg #[.string mti, .slice o m cap]), (.bool true), (.bool false), (.bool false), undef, undef, (.agg #[.string mti, .slice o m cap]), (.pointer (some ⟨b, 0, none⟩)), (.pointer (some ⟨b, 0, none⟩)), (.pointer (some ⟨b, 0, none⟩)), (.slice of z.length cf), (.agg #[.string mti, .slice o9 (kp z false L).length c9]), undef, undef, undef, undef, undef, undef, undef, undef, undef, undef, undef, undef, undef, undef, undef], []⟩ ∧ Hid (Rd w x g8 mti (.slice o9 (kp z false L).length c9) (kp z false L) ∧ Below y.heap.size y x)) ?_ ?_
  · have HZ : Hid (Below y.heap.size y (y.alloc (.cells #[.string ⟨#[]⟩, .slice none 0 0] tG)).drew) := (below_one y _).drew
    obtain ⟨e0, e1, e2, e3⟩ := HF.out _ HZ.out
    have HFA : Hid (∀ x v1, Below y.heap.size y x → x.ownsRow w.heap.size tF 3 v1 (kp z false L).length (fc (kp z false L)) → Rd w (x.alloc (.cells #[.string mti, v1] tG)) x.heap.size mti v1 (kp z false L) ∧ Below y.heap.size y (x.alloc (.cells #[.string mti, v1] tG))) := fun x v1 hx ho => ⟨⟨h1_0 _ _, kept (keepB hx (below_one x _)) HXZ.out, ho.alloc _, keepB HBY.out (keepB hx (below_one x _)), Nat.le_trans HBY.out.size hx.size, fun e => by have := (Array.getElem?_eq_some_iff.1 HXZ.out).1; have := hx.size; omega⟩, keepB hx (below_one x _)⟩
    have HFB : Hid (∀ x v1, Below (y.alloc (.cells #[.string ⟨#[]⟩, .slice none 0 0] tG)).drew.heap.size (y.alloc (.cells #[.string ⟨#[]⟩, .slice none 0 0] tG)).drew x → x.ownsRow w.heap.size tF 3 v1 (kp z false L).length (fc (kp z false L)) → (x.cell? ⟨y.heap.size, 0, none⟩ = some (.string ⟨#[]⟩) ∧ x.cell? ⟨y.heap.size, 1, none⟩ = some (.slice none 0 0) ∧ x.frozen? ⟨y.heap.size, 0, none⟩ = false ∧ x.frozen? ⟨y.heap.size, 1, none⟩ = false) ∧ Hid (Rd w ((x.setCell ⟨y.heap.size, 0, none⟩ (.string mti)).setCell ⟨y.heap.size, 1, none⟩ v1) y.heap.size mti v1 (kp z false L) ∧ Below y.heap.size y ((x.setCell ⟨y.heap.size, 0, none⟩ (.string mti)).setCell ⟨y.heap.size, 1, none⟩ v1))) := fun x v1 hx ho => by
      have hg : x.heap[y.heap.size]? = some (.cells #[.string ⟨#[]⟩, .slice none 0 0] tG) := (hx.block _ (by show y.heap.size < (y.alloc (.cells #[.string ⟨#[]⟩, .slice none 0 0] tG)).heap.size; simp)).trans (h1_0 y _)
      have hbx : Below y.heap.size y x := keepB HZ.out hx
      have hb3 : Below y.heap.size y ((x.setCell ⟨y.heap.size, 0, none⟩ (.string mti)).setCell ⟨y.heap.size, 1, none⟩ v1) := (hbx.setCell (Nat.le_refl _) _).setCell (Nat.le_refl _) _
      refine ⟨⟨by simp [World.cell?, hg], by simp [World.cell?, hg], frozen_of_row x _ _ _ _ hg, frozen_of_row x _ _ _ _ hg⟩, ⟨setCell_heap (setCell_heap hg 0 _) 1 _, kept hb3 HXZ.out, own_keep ho fun k hk => ?_, keepB HBY.out hb3, HBY.out.size, fun e => ?_⟩, hb3⟩
      · have hne : y.heap.size ≠ k := fun e => by
          obtain ⟨cy, hcy⟩ := own_ty ho hk
          rw [← e, hg] at hcy
          injection hcy with hcy; injection hcy with _ hcy; exact absurd hcy (by decide)
        rw [setCell_ne (p := ⟨y.heap.size, 1, none⟩) hne, setCell_ne (p := ⟨y.heap.size, 0, none⟩) hne]
      · have := (Array.getElem?_eq_some_iff.1 HXZ.out).1; omega
    go_region_with (first
      | (go_at_call 69; refine (HWO.out _ (keepB HBY.out HDR.out)).mono ?_; rintro e x ⟨v1, rfl, hr, -, hb⟩; have HBX : Hid (Below y.heap.size y x) := keepB HDR.out hb; have HRX : Hid (x.ownsRow w.heap.size tF 3 v1 (kp z false L).length (fc (kp z false L))) := own_low hr (Nat.le_trans HBY.out.size HDR.out.size); have HEND := HFA.out x v1 HBX.out HRX.out; have HEN : Hid _ := HEND; clear HEND; obtain ⟨o9, c9, hv, -⟩ := own_form hr; subst hv; clear hr hb)
      | (go_at_call 69; refine (HWO.out _ (keepB HBY.out HZ.out)).mono ?_; rintro e x ⟨v1, rfl, hr, -, hb⟩; have HRX : Hid (x.ownsRow w.heap.size tF 3 v1 (kp z false L).length (fc (kp z false L))) := own_low hr (Nat.le_trans HBY.out.size HZ.out.size); obtain ⟨⟨k0, k1, k2, k3⟩, HEN⟩ := HFB.out x v1 hb HRX.out; obtain ⟨o9, c9, hv, -⟩ := own_form hr; subst hv; clear hr hb))
    all_goals exact ⟨_, _, _, rfl, HEN.out⟩
  clear c0 c1 c2 c3 HWO HF HDR
  rintro a1 x ⟨g8, o9, c9, rfl, HR0⟩
  dsimp only
  have HRD : Hid (Rd w x g8 mti (.slice o9 (kp z false L).length c9) (kp z false L)) := HR0.out.1
  have HBX : Hid (Below y.heap.size y x) := HR0.out.2
  have hEx := HE.out.below (keepB HBY.out HBX.out)
  obtain ⟨KF0, HK0⟩ : ∃ A, Hid (kp z false L = A) := ⟨_, rfl⟩
  rw [HK0.out] at HRD HFO ⊢
  have hdx : Below x.heap.size x x.drew := (Below.refl _ x).drew
  obtain ⟨lv, ps, hlook, hlv⟩ := (hEx.below hdx).own.lookup law Tryz.underlying93 (zeroS _) (zd := .held (.slice none 0 0)) (zp := []) rfl HKEY.out
  obtain ⟨hfl, lv2, hat, hrow⟩ := (hEx.below hdx).at_ n l HKN.out
  rw [hat] at hlv
  obtain rfl : lv = lv2 := by simp [heldE] at hlv; exact hlv.1
  have HCP : Hid (Calls Tryz.prog 70 #[lv] x.drew fun e w' => ∃ v', e = .returned v' ∧ w'.ownsRow x.drew.heap.size tF 3 v' l.length (fc l) ∧ (l = [] → v' = .slice none 0 0) ∧ Below x.drew.heap.size x.drew w') := copied_flat lv l x.drew hrow hfl
  have HFL : Hid (Fo l) := hfl
  obtain ⟨k0, k1, k1f, -⟩ := (HRD.out.below hdx).cells
  have ke := (hEx.below hdx).cells.2
  have HFB : Hid (∀ X2 v2, Below x.drew.heap.size x.drew X2 → X2.ownsRow x.drew.heap.size tF 3 v2 l.length (fc l) → ∃ g2 cap2, v2 = .slice (some ⟨g2, 0, none⟩) l.length cap2 ∧ X2.cell? ⟨g8, 1, none⟩ = some (.slice o9 KF0.length c9) ∧ Hid (∀ j u, (fc l)[j]? = some u → X2.cell? ((⟨g2, 0, none⟩ : Addr).add j) = some u) ∧ Hid (Rd w X2 g8 mti (.slice o9 KF0.length c9) KF0)) := fun X2 v2 hb ho => by
    obtain ⟨g2, cap2, e, hc⟩ := own_some ho HL0.out
    have hR2 := HRD.out.below (keepB hdx hb)
    exact ⟨g2, cap2, e, hR2.cells.2.1, hc, hR2⟩
  have HGF : Hid (∀ X2 z1, Rd w X2 g8 mti (.slice o9 KF0.length c9) KF0 → X2.grownBy z1 (Value.slice o9 KF0.length c9).ownBlock → z1.cell? ⟨g8, 1, none⟩ = some (.slice o9 KF0.length c9) ∧ z1.frozen? ⟨g8, 1, none⟩ = false) := fun X2 z1 hj hg => by
    have := (hj.fr (FrP.grown (FrP.refl _ X2) hg (fun g hg2 => .inl hg2))).1
    exact ⟨by simp [World.cell?, this], frozen_of_row z1 _ _ _ _ this⟩
  obtain ⟨i0, hi, hz0, hz1, hz2⟩ := infoF3
  clear hEx hdx hlv hat hrow hfl HR0 HBX HKEY HKN HXY HXZ
  go_wp2_with fail
  go_region_law (first
    | (refine step_append_lies _ (by rfl) _ _ _ (by rfl) w.heap.size tF i0 _ 3 48 Tryz.underlying35 hi hz0 hz1 hz2 rfl (by omega) _ KF0.length (fc KF0) (by rfl) HRX.out.row ⟨g2, 0, none⟩ l.length cap2 (fc l) (by rfl) (fc_len l) HNW.out (fc_one l) HL0.out (by have := HFO.out.len; have := HFL.out.len; unfold maxLen; omega) (by have := HFO.out.len; have := HFL.out.len; omega) HRX.out.bel.size _ rfl ?_; intro gg cap3 z1 hown hgrow hat hlt1; obtain ⟨m1, m2⟩ := HGF.out _ z1 HRX.out hgrow; have HPU : Hid (Rd w (z1.setCell ⟨g8, 1, none⟩ (.slice (some ⟨gg, 0, none⟩) (KF0.length + l.length) cap3)) g8 mti (.slice (some ⟨gg, 0, none⟩) (KF0.length + l.length) cap3) (KF0 ++ l)) := HRX.out.push hgrow hown; clear hown hgrow hat hlt1)
    | (go_simp; go_at_call 70; refine HCP.out.mono ?_; rintro e X2 ⟨v2, rfl, ho2, -, hb2⟩; obtain ⟨g2, cap2, rfl, l1, HNW, HRX⟩ := HFB.out X2 v2 hb2 ho2; clear ho2 hb2))
  all_goals
    obtain ⟨p0, p1, p1f, p2, p3, p4, p5⟩ := HPU.out.cells
    generalize z1.setCell ⟨g8, 1, none⟩ (.slice (some ⟨gg, 0, none⟩) (KF0.length + l.length) cap3) = Y at *
    have HSO : Hid (Calls Tryz.prog 71 #[.slice (some ⟨gg, 0, none⟩) (KF0.length + l.length) cap3, .func (.func 72) #[] #[]] Y fun e w' => e = .returned (.tuple #[]) ∧ ∃ T' : List Fl, T'.Perm (KF0 ++ l) ∧ (T'.Pairwise fun x y => x.1 ≤ y.1) ∧ w'.ownsRow w.heap.size tF 3 (.slice (some ⟨gg, 0, none⟩) (KF0.length + l.length) cap3) T'.length (fc T') ∧ FrP (fun k => (Value.slice (some ⟨gg, 0, none⟩) (KF0.length + l.length) cap3).ownBlock = some k) Y w') := sort_any Y w.heap.size _ (KF0 ++ l) HPU.out.row (by have := HFO.out.len; have := HFL.out.len; rw [List.length_append]; omega)
    clear HCP HFB HGF HRX HNW hi hz0 hz1 hz2
    go_wp2_with fail
    refine HSO.out.mono ?_
    rintro e Z ⟨rfl, T, hp, hs, ho, hf⟩
    have HRZ : Hid (Rd w Z g8 mti (.slice (some ⟨gg, 0, none⟩) (KF0.length + l.length) cap3) T) := HPU.out.sorted hf ho
    have HPS : Hid (T.Perm (KF0 ++ l) ∧ (T.Pairwise fun x y => x.1 ≤ y.1)) := ⟨hp, hs⟩
    obtain ⟨p0, p1, p1f, p2, p3, p4, p5⟩ := HRZ.out.cells
    clear hp hs ho hf HSO HPU
    go_wp2_with fail
    exact bp_mono (fun e w' hq => ⟨T, HK0.out.symm ▸ HPS.out.1, HPS.out.2, hq⟩) (fin_res rfl _ rfl rfl (by omega) HRZ.out.c6 HRZ.out.row HRZ.out.bel)
end Go.Proofs.YtmnoplaepjaokaaGreatDoor.Zj
