/- TotalsBalance's walk. -/
import Derived.Test.YteaanenhefbkjaaDoorXd
import Derived.BigQuiet
namespace Go.Proofs.YteaanenhefbkjaaDoor.Xw
set_option linter.unusedVariables false
set_option linter.unusedSimpArgs false
open Go.RowKit Lib0 Kb Xp Ic Ta Hp Hr Ht Hu Tb Tc Td Te Tf Tg Tn Tp Tu Tv Xa Xc Xd
attribute [local go_sem] Oper.semAt_some
theorem own_empty (y : World) (B : Nat) (hB : B ≤ y.heap.size) : (y.alloc (.cells #[] tF)).ownsRow B tF 3 (.slice (some ⟨y.heap.size, 0, none⟩) 0 0) 0 [] :=
  ⟨rfl, .inr ⟨_, 0, #[], rfl, hB, h1_0 _ _, Nat.le_refl _, Nat.zero_le _, rfl, rfl⟩⟩
theorem wpList_build0 {ops : Array Oper} {rest : List Oper} {o : Oper} {a : Act} {w : World} {Q : Exit → Act → World → Prop} (hgd : o.guard = none) (ho : o.op = .buildSlice 32 0 #[])
    (h : wpList Tryd.prog ops Q rest (a.put o.dst (.slice (some ⟨w.heap.size, 0, none⟩) 0 0)) (w.alloc (.cells #[] tF))) : wpList Tryd.prog ops Q (o :: rest) a w :=
  wpList_plain hgd fun _ hK => by
    unfold Oper.wp execOp
    simp only [ho]
    go_simp
    exact hK _ _ h
theorem wpList_build28 {ops : Array Oper} {rest : List Oper} {o : Oper} {a : Act} {w : World} {Q : Exit → Act → World → Prop} (hgd : o.guard = none) (ho : o.op = .build tCo #[])
    (h : wpList Tryd.prog ops Q rest (a.put o.dst (.agg #[.int .i64 0, .int .i64 0, .int .i64 0, .int .i64 0, .int .i64 0, .int .i64 0, .int .i64 0, .int .i64 0, .int .i64 0, .int .i64 0, .int .i64 0, .int .i64 0])) w) : wpList Tryd.prog ops Q (o :: rest) a w :=
  wpList_plain hgd fun _ hK => by
    unfold Oper.wp execOp
    simp only [ho]
    go_simp
    exact hK _ _ h
theorem wpList_neq_co {ops : Array Oper} {rest : List Oper} {o : Oper} {a : Act} {w : World} {Q : Exit → Act → World → Prop} (hgd : o.guard = none) (x y : Operand) (t2 : TypeId) (ho : o.op = .binOp .neq tCo x y t2) (cs : Array Value) (hx : a.eval x = .agg cs) (hy : a.eval y = .agg cs) (hB : ∀ w, (Op.equalIn 10000 tCo (.agg cs) (.agg cs)).run Tryd.prog w = .ok true w)
    (h : wpList Tryd.prog ops Q rest (a.put o.dst (.bool false)) w) : wpList Tryd.prog ops Q (o :: rest) a w := by
  refine wpList_plain hgd fun _ hK => ?_
  have hm : Tryd.prog.eqGuardType Tryd.prog.depth tCo = false := by kernel_rfl
  unfold Oper.wp execOp
  simp [ho, hx, hy, run_eqGuard_agg, hm, run_neq_struct, hB, Result.andThen]
  exact hK _ _ h
theorem sml {L : List Fl} (h : L.length = 8) : L.length ≤ 1000 := by omega
theorem fl_small (f : Nat → Int) : ∀ q ∈ FL f 8, q.2.size ≤ 1000000 := by
  intro q hq
  unfold FL at hq
  obtain ⟨j, -, rfl⟩ := List.mem_map.1 hq
  show (valN f j).size ≤ 1000000
  rw [valN_size]; unfold widN; split <;> omega
theorem bad_small (f : Nat → Int) (i : Nat) (s : ByteArray) (hs : s.size ≤ 16) : ∀ q ∈ badL f i s, q.2.size ≤ 1000000 := by
  intro q hq
  unfold badL at hq
  rcases List.mem_or_eq_of_mem_set hq with h | h
  · exact fl_small f q h
  · subst h; show s.size ≤ 1000000; omega
theorem tot_most (n : Int) (z : List D) (k j : Nat) (hj : j < 12) : 0 ≤ tot n (z.take 300) k j ∧ tot n (z.take 300) k j ≤ mostK j := by
  have h1 := tot_b n k j (z.take 300)
  refine ⟨h1.1, Int.le_trans h1.2 ?_⟩
  have hl : (z.take 300).length ≤ 300 := by rw [List.length_take]; omega
  have h3 : ((z.take 300).length : Int) * capK j ≤ 300 * capK j := Int.mul_le_mul_of_nonneg_right (by omega) (capK_pos j)
  refine Int.le_trans h3 ?_
  unfold capK mostK
  split <;> omega
set_option maxRecDepth 100000 in
set_option maxHeartbeats 12800000 in
theorem walk (v0 : Value) (z : List So.Opv) (a1 a2 : Int) (w : World) (wz : So.Lies w v0 z 140737488351232) (w1 : (Lit.int .i64 a1).wf = true) (w2 : (Lit.int .i64 a2).wf = true) (hT : Xa.Tb w) :
    Calls Tryd.prog 3 #[v0, .int .i64 a1, .int .i64 a2] w fun e w' => e = .returned (.bool true) ∧ Below w.heap.size w w' := by
  obtain ⟨⟨oz, cz, rfl, hz⟩, hzl⟩ := wz
  have hdl : Dls w oz z := ⟨fun i hi => by obtain ⟨a, e, h, -⟩ := hz i hi; exact ⟨a, e, h⟩, fun i hi => by obtain ⟨a, e, -, h⟩ := hz i hi; exact ⟨wf64 h.1, wf64 h.2.1, wf64 h.2.2.1⟩, by omega⟩
  have hw1 := wf64 w1
  have hw2 := wf64 w2
  have HW2 : Hid (-9223372036854775808 ≤ a2 ∧ a2 ≤ 9223372036854775807) := hw2
  have k1 := Pick.pick_lo a1 4 (by omega)
  have k2 := Pick.pick_hi a1 4 (by omega)
  have i1 := Pick.pick_lo a2 8 (by omega)
  have i2 := Pick.pick_hi a2 8 (by omega)
  obtain ⟨k, hk⟩ : ∃ k : Nat, Pick.pickOf a1 4 = (k : Int) := ⟨(Pick.pickOf a1 4).toNat, by omega⟩
  obtain ⟨i8, hi8⟩ : ∃ k : Nat, Pick.pickOf a2 8 = (k : Int) := ⟨(Pick.pickOf a2 8).toNat, by omega⟩
  have PK : Hid (∀ y, Calls Tryd.prog 5 #[.int .i64 a1, .int .i64 4] y fun e w' => e = .returned (.int .i64 (k : Int)) ∧ w' = y) := fun y => by rw [← hk]; exact Pick.pick_any a1 4 y hw1.1 hw1.2 (by omega) (by omega)
  have PI : Hid (∀ y, Calls Tryd.prog 5 #[.int .i64 a2, .int .i64 8] y fun e w' => e = .returned (.int .i64 (i8 : Int)) ∧ w' = y) := fun y => by rw [← hi8]; exact Pick.pick_any a2 8 y hw2.1 hw2.2 (by omega) (by omega)
  have HK : Hid (k < 4) := by show k < 4; omega
  have HI : Hid (i8 < 8) := by show i8 < 8; omega
  obtain ⟨N, HN0⟩ : ∃ N, Hid (z.length = N) := ⟨_, rfl⟩
  have hmost : ∀ q j, j < 12 → 0 ≤ tot 4 (z.take 300) q j ∧ tot 4 (z.take 300) q j ≤ mostK j := fun q j hj => tot_most 4 z q j hj
  obtain ⟨TT, HTT⟩ : ∃ TT, Hid (tot 4 (z.take 300) = TT) := ⟨_, rfl⟩
  rw [HTT.out] at hmost
  have HMO : Hid (∀ q j, j < 12 → 0 ≤ TT q j ∧ TT q j ≤ mostK j) := hmost
  have HNT : Hid (Calls Tryd.prog 4 #[.int .i64 4, .slice oz N cz, .bool false] w fun e w' => ∃ b g, e = .returned (.pointer (some ⟨b, 0, none⟩)) ∧ BkT w' w.heap.size b g 4 TT ∧ Below w.heap.size w w') := by
    have h9 := noted_any 4 ⟨by omega, by omega⟩ oz cz z false w hdl
    rw [HN0.out] at h9
    rw [← HTT.out]
    exact h9
  have HTB : Hid (∀ y, Below w.heap.size w y → Xa.Tb y) := fun y hy => hT.next hy
  obtain ⟨i0, hi0, hz0, hz1, hz2⟩ := infoC
  obtain ⟨j0, hj0, hy0, hy1, hy2⟩ := Xa.infoF
  rw [HN0.out]
  clear hdl hz hzl hw1 hw2 w1 w2 hmost k1 k2 i1 i2 hk hi8 hT
  go_enter Tryd.func3, Tryd.ntmps3
  go_wp2_with fail
  refine HNT.out.mono ?_
  rintro e y1 ⟨b, g, rfl, hb1, hy1'⟩
  have HB1 : Hid (BkT y1 w.heap.size b g 4 TT ∧ Below w.heap.size w y1) := ⟨hb1, hy1'⟩
  clear hb1 hy1'
  go_wp2_with fail
  refine (PK.out _).mono ?_
  rintro e y2 ⟨rfl, rfl⟩
  go_wp2_with (first
    | (at_make; refine wpList_make_full _ rfl _ _ 26 rfl y2.heap.size tCo i0 _ 12 Tryd.underlying26 hi0 hz0 hz1 _ _ _ _ 4 rfl rfl rfl rfl (by rw [hz2]; omega) (by unfold maxLen; omega) (Nat.le_refl _) ?_; intro x hown hgrow; have HRW : Hid _ := rw_made (n := 4) ⟨by omega, by omega⟩ hown hgrow; clear hown hgrow)
    | fail)
  obtain ⟨g3, HG3⟩ : ∃ g3, Hid (y2.heap.size = g3) := ⟨_, rfl⟩
  rw [HG3.out] at HRW
  rw [HG3.out]
  have HGG : Hid (g < g3) := by have := HB1.out.1.ltg; have := HG3.out; show g < g3; omega
  go_loopw [10, 11, 12] (fun iv _ _ wr => ∃ i : Nat, iv = .int .i64 (i : Int) ∧ Hid (i ≤ 4) ∧ Hid (Rw wr g3 g3 4 (Fi TT i) ∧ Below y2.heap.size y2 wr)) (fun iv _ _ _ => 5 - (intOf iv).toNat)
  case atStart => exact ⟨0, rfl, Nat.zero_le _, by rw [Fi_zero]; exact HRW.out.1, by rw [HG3.out]; exact HRW.out.2⟩
  case round =>
    obtain ⟨i, rfl, HIN, HL⟩ := hrel
    by_cases hi : i < 4
    · have HI4 : Hid (i < 4) := hi
      have HC1 : Hid (Calls Tryd.prog 6 #[.pointer (some ⟨b, 0, none⟩), .int .i64 (i : Int)] wr fun e w' => e = .returned (.tuple #[.agg (ta (TT i)).toList.toArray, .int .i64 0]) ∧ Below wr.heap.size wr w') := counts_yes (HB1.out.1.below HL.out.2) i hi
      have HST : Hid (∀ y, Below wr.heap.size wr y → Rw (y.setCells g3 (i * 12) (ta (TT i)).toList) g3 g3 4 (Fi TT (i + 1)) ∧ Below y2.heap.size y2 (y.setCells g3 (i * 12) (ta (TT i)).toList) ∧ y.there g3 (i * 12) 12) := fun y hy => ⟨by
        rw [Fi_next]
        exact rw_store (HL.out.1.below hy) i HI4.out (TT i), setCells_below (by rw [HG3.out]; exact Nat.le_refl _) _ _ _ (keepB HL.out.2 hy), (HL.out.1.below hy).there i HI4.out⟩
      have hinf : (Tryd.prog.info? tCo).map (·.size) = some (ta (TT i)).toList.toArray.size := infoCo
      have hold : (ta fun _ => 0).size = (ta (TT i)).toList.toArray.size := rfl
      have hone : (ta (TT i)).toList.toArray.all (·.oneCell') = true := by simp [ta, Value.oneCell']
      have hlen : (ta (TT i)).toList.length = 12 := rfl
      obtain ⟨CL, HCL⟩ : ∃ CL, Hid ((ta (TT i)).toList = CL) := ⟨_, rfl⟩
      rw [HCL.out] at HC1 HST hinf hold hone hlen
      have HLN : Hid (CL.length = 12) := hlen
      have q1 : (i : Int) < 4 := by omega
      have q2 : (0 : Int) ≤ (i : Int) := by omega
      have q3 : (i : Int) + 1 ≤ 9223372036854775807 := by omega
      clear hi hlen
      go_wp2_with fail
      refine HC1.out.mono ?_
      rintro e x1 ⟨rfl, hx1⟩
      obtain ⟨Va0, HVa0⟩ : ∃ V, Hid (x1.alloc (.cells #[.int .i64 0, .int .i64 0, .int .i64 0, .int .i64 0, .int .i64 0, .int .i64 0, .int .i64 0, .int .i64 0, .int .i64 0, .int .i64 0, .int .i64 0, .int .i64 0] tCo) = V) := ⟨_, rfl⟩
      have hva0 : Va0.heap[x1.heap.size]? = some (.cells (ta fun _ => 0) tCo (0, 0)) := HVa0.out ▸ h1_0 _ _
      have bva0 : Below x1.heap.size x1 Va0 := HVa0.out ▸ below_one _ _
      obtain ⟨Va, HVa⟩ : ∃ V, Hid (Va0.setRow x1.heap.size CL.toArray = V) := ⟨_, rfl⟩
      have hva : Va.heap[x1.heap.size]? = some (.cells CL.toArray tCo (0, 0)) := HVa.out ▸ setRow_at hva0 _
      have bva : Below x1.heap.size x1 Va := HVa.out ▸ below_setRow bva0 (Nat.le_refl _) _
      have hxa : Below wr.heap.size wr Va := keepB hx1 bva
      have hth : Va.there g3 (i * 12) CL.toArray.size := by rw [show CL.toArray.size = 12 from HLN.out]; exact (HST.out Va hxa).2.2
      have HFIN : Hid (Rw (Va.setCells g3 (i * 12) CL.toArray.toList) g3 g3 4 (Fi TT (i + 1)) ∧ Below y2.heap.size y2 (Va.setCells g3 (i * 12) CL.toArray.toList)) := ⟨(HST.out Va hxa).1, (HST.out Va hxa).2.1⟩
      clear hx1 bva0 bva hxa
      go_wp2_with (first
        | (refine wpList_store_row rfl tCo _ _ rfl x1.heap.size CL.toArray (by rfl) (by rfl) _ _ hva0 hinf hold hone ?_)
        | (rw [HVa0.out])
        | (rw [HVa.out])
        | (refine wpList_load_row rfl tCo _ rfl x1.heap.size rfl _ _ _ _ hva Tryd.underlying28 rfl hinf ?_)
        | (refine wpList_store_mid rfl tCo _ _ rfl g3 (i * 12) CL.toArray (by rfl) (by rfl) hth hinf hone ?_)
        | fail)
      refine ⟨⟨i + 1, by simp, by have := HI4.out; show i + 1 ≤ 4; omega, HFIN.out⟩, ?_⟩
      have := HI4.out
      simp only [intOf]; omega
    · have hi4 : i = 4 := by have := HIN.out; omega
      subst hi4
      obtain ⟨W5, hW5⟩ : ∃ y, y = wr := ⟨_, rfl⟩
      subst hW5
      have hb5 := HB1.out.1.below HL.out.2
      have hw5 : Below w.heap.size w W5 := keepB HB1.out.2 HL.out.2
      have hr5 : Rw W5 g3 g3 4 TT := Rw.congr HL.out.1 fun q hq => by unfold Xd.Fi; rw [if_pos hq]
      have HFS : Hid (Calls Tryd.prog 7 #[.pointer (some ⟨b, 0, none⟩), .int .i64 (k : Int)] W5 fun e w' => ∃ v, e = .returned (.tuple #[v, .int .i64 0]) ∧ w'.ownsRow W5.heap.size tF 3 v 8 (fc (FL (TT k) 8)) ∧ Below W5.heap.size W5 w') := fieldsOf_any hb5 k HK.out (HMO.out k) (HTB.out _ hw5)
      have H5 : Hid (BkT W5 w.heap.size b g 4 TT ∧ Rw W5 g3 g3 4 TT ∧ Below w.heap.size w W5 ∧ g3 ≤ W5.heap.size) := ⟨hb5, hr5, hw5, by have := hr5.ltg; omega⟩
      clear hi hb5 hw5 hr5
      go_wp2_with fail
      refine HFS.out.mono ?_
      rintro e y6 ⟨fv, rfl, ho6, hy6⟩
      have HS6 : Hid (Sb w b g g3 TT TT (TT k) fv y6) := ⟨H5.out.1.below hy6, H5.out.2.1.below hy6, owns_base ho6 H5.out.2.2.2, HGG.out, keepB H5.out.2.2.1 hy6⟩
      obtain ⟨gf, cf, rfl, hgf⟩ := own_shape HS6.out.own (by omega)
      obtain ⟨f, hf⟩ : ∃ f, TT k = f := ⟨_, rfl⟩
      have HF : Hid (TT k = f) := hf
      rw [hf] at HS6
      clear ho6 hy6 hf
      -- bad := append([]api.Field{}, f...)
      have hoE := own_empty y6 g3 (by have := HS6.out.rw.ltg; omega)
      obtain ⟨ev, HEV⟩ : ∃ ev, Hid ((.slice (some ⟨y6.heap.size, 0, none⟩) 0 0 : Value) = ev) := ⟨_, rfl⟩
      rw [HEV.out] at hoE
      have HSE : Hid (Sb w b g g3 TT TT f (.slice (some ⟨gf, 0, none⟩) 8 cf) (y6.alloc (.cells #[] tF))) := HS6.out.below (below_one _ _)
      have hnw : ∀ j u, (fc (FL f 8))[j]? = some u → (y6.alloc (.cells #[] tF)).cell? ((⟨gf, 0, none⟩ : Addr).add j) = some u := fun j u hj => HSE.out.own.cells (g := gf) rfl j u hj
      have hln : (fc (FL f 8)).length = 8 * 3 := by rw [fc_len, FL_len]
      have hone := fc_one (FL f 8)
      have HE6 : Hid (y6.heap.size ≠ gf) := by have h1 := (HS6.out.own.lt gf rfl).2; show _ ≠ _; omega
      go_wp2_with (first
        | (at_builtin; refine wpList_append_lies _ rfl _ _ _ rfl g3 tF j0 _ 3 48 Tryd.underlying32 hj0 hy0 hy1 hy2 rfl (by decide) _ 0 [] rfl hoE ⟨gf, 0, none⟩ 8 cf (fc (FL f 8)) rfl hln hnw hone (by decide) (by unfold maxLen; omega) (by omega) (by have := HSE.out.rw.ltg; omega) _ rfl ?_; intro gb cb y7 hown hgrow hat hlt7; have HO7 : Hid (y7.ownsRow g3 tF 3 (.slice (some ⟨gb, 0, none⟩) 8 cb) 8 (fc (FL f 8)) ∧ (y6.alloc (.cells #[] tF)).grownBy y7 ev.ownBlock ∧ (ev.ownBlock = some gb ∨ gb = (y6.alloc (.cells #[] tF)).heap.size)) := ⟨hown, hgrow, hat⟩; clear hown hgrow hat hlt7)
        | (refine wpList_build0 rfl rfl ?_; rw [HEV.out])
        | fail)
      have hgr : (y6.alloc (.cells #[] tF)).grownBy y7 (some y6.heap.size) := by
        have := HO7.out.2.1
        rw [← HEV.out] at this
        exact this
      have hb7 : Below y6.heap.size y6 y7 := (below_one y6 _).grown hgr (by simp) (fun q hq => by cases hq; exact Nat.le_refl _)
      have HS7 : Hid (Sb w b g g3 TT TT f (.slice (some ⟨gf, 0, none⟩) 8 cf) y7) := HS6.out.below hb7
      have hgb : y6.heap.size ≤ gb := by
        rcases HO7.out.2.2 with h | h
        · rw [← HEV.out] at h
          have h' : y6.heap.size = gb := by simpa [Value.ownBlock] using h
          omega
        · rw [h]; simp
      have HR7 : Hid (RowF y7 (.slice (some ⟨gb, 0, none⟩) 8 cb) (FL f 8)) := rowf_own (by simpa [FL_len] using HO7.out.1)
      have HGB : Hid (y6.heap.size ≤ gb) := hgb
      have hlt7 : gb < y7.heap.size := (HO7.out.1.lt gb rfl).2
      have hbx : y7.cell? ⟨gb, i8 * 3 + 1, none⟩ = some (.string (valN f i8)) ∧ y7.frozen? ⟨gb, i8 * 3 + 1, none⟩ = false := by
        obtain ⟨o, cap, e, hc⟩ := HR7.out
        cases e
        obtain ⟨a, ea, -, k1, -⟩ := hc i8 (by rw [FL_len]; exact HI.out)
        cases ea
        rw [add_zero, FL_at f i8 (by rw [FL_len]; exact HI.out)] at k1
        obtain ⟨cc, hcc⟩ := own_ty HO7.out.1 rfl
        exact ⟨k1, by simp [World.frozen?, hcc]⟩
      obtain ⟨hbx1, hbx2⟩ := hbx
      have hsz := valN_size f i8
      have hwn : 10 ≤ widN i8 ∧ widN i8 ≤ 16 := by unfold widN; split <;> omega
      have HWN : Hid (10 ≤ widN i8 ∧ widN i8 ≤ 16) := hwn
      obtain ⟨C8, y8, cvb, hC8, hb8, hs8, hin8, hfr8⟩ := conv_bytes y7 (valN f i8)
      have hdd : (valN f i8).data.toList = Wd.dgs (widN i8) (f (4 + i8)).toNat := rfl
      rw [hdd] at hin8
      rw [hsz] at hfr8 hC8 cvb
      have HB8 : Hid (Below y7.heap.size y7 y8) := hb8
      have hz1' := Pick.pick_lo (a2.tdiv 8) (widN i8 : Int) (by omega)
      have hz2' := Pick.pick_hi (a2.tdiv 8) (widN i8 : Int) (by omega)
      obtain ⟨aa, haa⟩ : ∃ aa : Nat, Pick.pickOf (a2.tdiv 8) (widN i8 : Int) = (aa : Int) := ⟨(Pick.pickOf (a2.tdiv 8) (widN i8 : Int)).toNat, by omega⟩
      have haw : aa < widN i8 := by omega
      have htd : -9223372036854775808 ≤ a2.tdiv 8 ∧ a2.tdiv 8 ≤ 9223372036854775807 := by
        have h9 := HW2.out
        rcases Int.le_total 0 a2 with h | h
        · rw [Int.tdiv_eq_ediv_of_nonneg h]; omega
        · have h8 : a2.tdiv 8 = -((-a2) / 8) := by rw [← Int.tdiv_eq_ediv_of_nonneg (by omega), Int.neg_tdiv, Int.neg_neg]
          rw [h8]; omega
      have hwr : wrap64 (a2.tdiv 8) = a2.tdiv 8 := by
        first
          | exact wrap64_eq htd.1 htd.2
          | (unfold wrap64; omega)
          | (simp [wrap64]; omega)
      have PJ : Hid (∀ y, Calls Tryd.prog 5 #[.int .i64 (wrap64 (a2.tdiv 8)), .int .i64 (widN i8 : Int)] y fun e w' => e = .returned (.int .i64 (aa : Int)) ∧ w' = y) := fun y => by rw [← haa, hwr]; exact Pick.pick_any (a2.tdiv 8) (widN i8 : Int) y htd.1 htd.2 (by omega) (by omega)
      have hda : aa < (Wd.dgs (widN i8) (f (4 + i8)).toNat).length := by rw [Wd.dgs_length]; exact haw
      have hdg := dgs_dig (widN i8) (f (4 + i8)).toNat (Wd.dgs (widN i8) (f (4 + i8)).toNat)[aa] (List.getElem_mem hda)
      have hce := hin8 aa _ (List.getElem?_eq_getElem hda)
      have hfa := hfr8 aa haw
      have HSL : Hid (spL f i8 aa = (Wd.dgs (widN i8) (f (4 + i8)).toNat).set aa (nxt (Wd.dgs (widN i8) (f (4 + i8)).toNat)[aa])) := by
        show _ = _
        unfold spL
        rw [show (Wd.dgs (widN i8) (f (4 + i8)).toNat).getD aa 0 = (Wd.dgs (widN i8) (f (4 + i8)).toNat)[aa] by rw [List.getD, List.getElem?_eq_getElem hda]; rfl]
      obtain ⟨c, hc⟩ : ∃ c, (Wd.dgs (widN i8) (f (4 + i8)).toNat)[aa] = c := ⟨_, rfl⟩
      rw [hc] at hdg hce HSL
      have hnv := nxt_val c hdg
      obtain ⟨y9, HY9⟩ : ∃ y9, Hid (y8.setCell ⟨y7.heap.size, aa, none⟩ (.int .u8 (48 + ((c.toNat : Int) - 48 + 1) % 10)) = y9) := ⟨_, rfl⟩
      have hin9 : Inb y9 y7.heap.size (spL f i8 aa) := by
        have h9 := inb_set hin8 aa hda (nxt c)
        rw [hnv, HY9.out, ← HSL.out] at h9
        exact h9
      have hb9 : Below y7.heap.size y7 y9 := HY9.out ▸ hb8.setCell (p := ⟨y7.heap.size, aa, none⟩) (Nat.le_refl _) _
      have hsl : (spL f i8 aa).length = widN i8 := by rw [HSL.out, List.length_set, Wd.dgs_length]
      have cv2 : (convert 35 9 (.slice (some ⟨y7.heap.size, 0, none⟩) (widN i8) C8)).run Tryd.prog y9 = .ok (.string ⟨(spL f i8 aa).toArray⟩) y9 := by
        have h9 := run_convert_bytes_back y9 35 9 5 ⟨y7.heap.size, 0, none⟩ C8 (spL f i8 aa) Tryd.underlying35 Tryd.underlying5 Tryd.underlying9 (fun j hj => by rw [add_zero]; exact hin9 j _ (List.getElem?_eq_getElem hj))
        rw [hsl] at h9
        exact h9
      have hne9 := spL_ne f i8 aa haw
      obtain ⟨SS, hSS⟩ : ∃ SS : ByteArray, ⟨(spL f i8 aa).toArray⟩ = SS := ⟨_, rfl⟩
      rw [hSS] at cv2 hne9
      have hx9 : y9.cell? ⟨gb, i8 * 3 + 1, none⟩ = some (.string (valN f i8)) := (hb9.cell (p := ⟨gb, i8 * 3 + 1, none⟩) hlt7).trans hbx1
      have hx9f : y9.frozen? ⟨gb, i8 * 3 + 1, none⟩ = false := by
        have h9 := hb9.block gb hlt7
        unfold World.frozen? at hbx2 ⊢
        rw [h9]; exact hbx2
      obtain ⟨y10, HY10⟩ : ∃ y10, Hid (y9.setCell ⟨gb, i8 * 3 + 1, none⟩ (.string SS) = y10) := ⟨_, rfl⟩
      have hr10 : RowF y10 (.slice (some ⟨gb, 0, none⟩) 8 cb) (badL f i8 SS) := by
        have h8 := rowf_below HR7.out hb9
        have h9 := rowf_set (L := FL f 8) (gb := gb) (cb := cb) (y := y9) (by rw [FL_len]; exact h8) i8 (by rw [FL_len]; exact HI.out) SS
        rw [bad_set f i8 (by rw [FL_len]; exact HI.out), FL_len, HY10.out] at h9
        exact h9
      have hb10 : Below y6.heap.size y6 y10 := HY10.out ▸ (hb7.trans (hb9.mono hb7.size)).setCell (p := ⟨gb, i8 * 3 + 1, none⟩) hgb _
      have HS10 : Hid (Sb w b g g3 TT TT f (.slice (some ⟨gf, 0, none⟩) 8 cf) y10 ∧ RowF y10 (.slice (some ⟨gb, 0, none⟩) 8 cb) (badL f i8 SS) ∧ SS ≠ valN f i8 ∧ SS.size ≤ 16) := ⟨HS6.out.below hb10, hr10, hne9, by rw [← hSS]; show (spL f i8 aa).toArray.size ≤ 16; rw [List.size_toArray, hsl]; omega⟩
      obtain ⟨VV, hVV⟩ : ∃ VV, valN f i8 = VV := ⟨_, rfl⟩
      obtain ⟨WN, hWN⟩ : ∃ WN, widN i8 = WN := ⟨_, rfl⟩
      rw [hVV] at hbx1 cvb
      rw [hWN] at cvb hwn PJ haw cv2
      have q1 : (i8 : Int) < 8 := by have := HI.out; omega
      have q2 : (0 : Int) ≤ (i8 : Int) := by omega
      have q3 : (0 : Int) < (WN : Int) := by omega
      have q4 : (aa : Int) < (WN : Int) := by omega
      have q5 : (0 : Int) ≤ (aa : Int) := by omega
      have q6 : 48 ≤ (c.toNat : Int) := by omega
      have q7 : (c.toNat : Int) ≤ 57 := by omega
      clear hgr hb7 hgb hlt7 hsz hC8 hb8 hs8 hin8 hfr8 hdd hz1' hz2' haa haw htd hwr hda hdg hc hnv hin9 hb9 hsl hne9 hSS hr10 hb10 hVV hWN hwn
      refine (PI.out _).mono ?_
      rintro e y ⟨rfl, rfl⟩
      go_wp2_with fail
      refine (PJ.out _).mono ?_
      rintro e y' ⟨rfl, rfl⟩
      go_wp2_with (first | (rw [HY9.out]) | (rw [HY10.out]) | fail)
      have hB1 : (∀ i, i < 8 → mism (badL f i8 SS) (TT k) i = false) ↔ false = true := by
        constructor
        · intro h
          have h8 := h i8 HI.out
          rw [HF.out, mism_bad f i8 HI.out SS HS10.out.2.2.1] at h8
          cases h8
        · intro h; cases h
      have hst1 := settle_any HS10.out.1.bk HS10.out.1.bel.size k HK.out (HMO.out k) (HTB.out _ HS10.out.1.bel) ⟨#[48, 53, 48, 48]⟩ (by decide) (by decide) _ _ HS10.out.2.1 (by unfold badL; rw [List.length_set, FL_len]; decide) (bad_small f i8 SS HS10.out.2.2.2) false hB1
      clear hbx1 hbx2 hce hfa cvb cv2 hx9 hx9f q3 q4 q5 q6 q7 hone hln hnw hoE HO7 HR7
      refine hst1.mono ?_
      rintro e y11 ⟨rfl, hbk11, hbl11, hkp11, hsz11⟩
      have HS11 : Hid (Sb w b g g3 TT TT f (.slice (some ⟨gf, 0, none⟩) 8 cf) y11) := HS10.out.1.kp ⟨hkp11, hsz11⟩ (by simpa using hbk11) hbl11
      clear hst1 hB1 hbk11 hbl11 hkp11 hsz11
      go_wp2_with fail
      refine (settle_err HS11.out.bk k HK.out ⟨#[48, 53, 49, 48]⟩ (by decide) (by decide) (some ⟨gf, 0, none⟩) 8 cf).mono ?_
      rintro e y12 ⟨rfl, hb12⟩
      have HS12 : Hid (Sb w b g g3 TT TT f (.slice (some ⟨gf, 0, none⟩) 8 cf) y12) := HS11.out.below hb12
      clear hb12
      go_wp2_with fail
      go_loopw [23, 24, 25] (fun iv _ _ wr => ∃ i : Nat, iv = .int .i64 (i : Int) ∧ Hid (i ≤ 4) ∧ Hid (Sb w b g g3 TT TT f (.slice (some ⟨gf, 0, none⟩) 8 cf) wr)) (fun iv _ _ _ => 5 - (intOf iv).toNat)
      case atStart => exact ⟨0, rfl, Nat.zero_le _, HS12.out⟩
      case round =>
        obtain ⟨i, rfl, HIN, HL⟩ := hrel
        by_cases hi : i < 4
        · have HI4 : Hid (i < 4) := hi
          have HC1 : Hid (Calls Tryd.prog 6 #[.pointer (some ⟨b, 0, none⟩), .int .i64 (i : Int)] wr fun e w' => e = .returned (.tuple #[.agg (ta (TT i)).toList.toArray, .int .i64 0]) ∧ Below wr.heap.size wr w') := counts_yes HL.out.bk i hi
          have HRO : Hid (∀ y, Below wr.heap.size wr y → y.rangeAt g3 (i * 12) (ta (TT i)).toList ∧ g3 < y.heap.size) := fun y hy => ⟨(HL.out.rw.below hy).rows i HI4.out, (HL.out.rw.below hy).ltg⟩
          have HEQ : Hid (∀ w, (Op.equalIn 10000 tCo (.agg (ta (TT i)).toList.toArray) (.agg (ta (TT i)).toList.toArray)).run Tryd.prog w = .ok true w) := fun w => equal_co (TT i) w
          have hinf : (Tryd.prog.info? tCo).map (·.size) = some (ta (TT i)).toList.toArray.size := infoCo
          have hinl : (Tryd.prog.info? tCo).map (·.size) = some (ta (TT i)).toList.length := infoCo
          have hold : (ta fun _ => 0).size = (ta (TT i)).toList.toArray.size := rfl
          have hone : (ta (TT i)).toList.toArray.all (·.oneCell') = true := by simp [ta, Value.oneCell']
          obtain ⟨CL, HCL⟩ : ∃ CL, Hid ((ta (TT i)).toList = CL) := ⟨_, rfl⟩
          rw [HCL.out] at HC1 HRO HEQ hinf hinl hold hone
          have q11 : (i : Int) < 4 := by omega
          have q12 : (0 : Int) ≤ (i : Int) := by omega
          have q13 : (i : Int) + 1 ≤ 9223372036854775807 := by omega
          clear hi
          go_wp2_with fail
          refine HC1.out.mono ?_
          rintro e x1 ⟨rfl, hx1⟩
          obtain ⟨Va0, HVa0⟩ : ∃ V, Hid (x1.alloc (.cells #[.int .i64 0, .int .i64 0, .int .i64 0, .int .i64 0, .int .i64 0, .int .i64 0, .int .i64 0, .int .i64 0, .int .i64 0, .int .i64 0, .int .i64 0, .int .i64 0] tCo) = V) := ⟨_, rfl⟩
          have hva0 : Va0.heap[x1.heap.size]? = some (.cells (ta fun _ => 0) tCo (0, 0)) := HVa0.out ▸ h1_0 _ _
          have bva0 : Below x1.heap.size x1 Va0 := HVa0.out ▸ below_one _ _
          obtain ⟨Va, HVa⟩ : ∃ V, Hid (Va0.setRow x1.heap.size CL.toArray = V) := ⟨_, rfl⟩
          have hva : Va.heap[x1.heap.size]? = some (.cells CL.toArray tCo (0, 0)) := HVa.out ▸ setRow_at hva0 _
          have bva : Below x1.heap.size x1 Va := HVa.out ▸ below_setRow bva0 (Nat.le_refl _) _
          have hxa : Below wr.heap.size wr Va := keepB hx1 bva
          have HXA : Hid (Below wr.heap.size wr Va) := hxa
          obtain ⟨hro, lg⟩ := HRO.out Va hxa
          have lr : x1.heap.size < Va.heap.size := (Array.getElem?_eq_some_iff.1 hva).1
          clear hx1 bva0 bva hxa
          go_wp2_with (first
            | (refine wpList_store_row rfl tCo _ _ rfl x1.heap.size CL.toArray (by rfl) (by rfl) _ _ hva0 hinf hold hone ?_)
            | (rw [HVa0.out])
            | (rw [HVa.out])
            | fail)
          refine Ql.region_cl (by kernel_rfl) (by kernel_rfl) ?_
          try dsimp only [Act.put]
          repeat (first | go_big_quiet_skip | (go_big_quiet_want; go_big_quiet_op; first | go_big_quiet_on | (refine ⟨_, fun _ _ => rfl, ?_⟩; go_big_quiet_on) | (refine ⟨_, fun _ _ => ⟨rfl, rfl⟩, ?_⟩; go_big_quiet_on)) | (refine wpQuiet_step (fun K hK => ?_); first
            | (refine Ql.q_row (by rfl) tCo _ rfl x1.heap.size rfl _ _ _ _ hva Tryd.underlying28 rfl hinf (hK _ ?_); clear hK K; simp only [Act.put, List.setIfInBounds_toArray, List.set_cons_succ, List.set_cons_zero])
            | (refine q_mid (by rfl) tCo _ rfl _ _ rfl CL hro lg _ Tryd.underlying28 rfl hinl (hK _ ?_); clear hK K; simp only [Act.put, List.setIfInBounds_toArray, List.set_cons_succ, List.set_cons_zero])
            | (refine q_neq (by rfl) _ _ _ rfl CL.toArray (by rfl) (by rfl) HEQ.out (hK _ ?_); clear hK K; simp only [Act.put, List.setIfInBounds_toArray, List.set_cons_succ, List.set_cons_zero])
            | fail))
          refine wpQuiet_nil ?_
          intro x3 hx3
          have HX3 : Hid (Sb w b g g3 TT TT f (.slice (some ⟨gf, 0, none⟩) 8 cf) x3) := HL.out.below (keepB HXA.out hx3)
          clear hx3 hro hva
          go_wp2_with fail
          refine ⟨⟨i + 1, by simp, by have := HI4.out; show i + 1 ≤ 4; omega, HX3.out⟩, ?_⟩
          have := HI4.out
          simp only [intOf]; omega
        · have hi42 : i = 4 := by have := HIN.out; omega
          subst hi42
          obtain ⟨W6, hW6⟩ : ∃ y, y = wr := ⟨_, rfl⟩
          subst hW6
          clear hi
          go_wp2_with fail
          have hB2 : (∀ i, i < 8 → mism (FL f 8) (TT k) i = false) ↔ true = true := by
            constructor
            · intro _; rfl
            · intro _ i hi; rw [HF.out]; exact mism_no f i hi
          have hst2 := settle_any HL.out.bk HL.out.bel.size k HK.out (HMO.out k) (HTB.out _ HL.out.bel) ⟨#[48, 53, 48, 48]⟩ (by decide) (by decide) _ _ HL.out.lst (by rw [FL_len]; decide) (fl_small f) true hB2
          refine hst2.mono ?_
          rintro e y13 ⟨rfl, hbk13, hbl13, hkp13, hsz13⟩
          obtain ⟨GG, HGGe⟩ : ∃ GG, Hid (updF TT k (fun _ => 0) = GG) := ⟨_, rfl⟩
          have HS13 : Hid (Sb w b g g3 GG TT f (.slice (some ⟨gf, 0, none⟩) 8 cf) y13) := HL.out.kp ⟨hkp13, hsz13⟩ (by rw [← HGGe.out]; simpa using hbk13) hbl13
          clear hst2 hB2 hbk13 hbl13 hkp13 hsz13
          go_wp2_with fail
          go_loopw [28, 29, 30, 31] (fun iv _ _ _ wr => ∃ i : Nat, iv = .int .i64 (i : Int) ∧ Hid (i ≤ 4) ∧ Hid (Sb w b g g3 GG TT f (.slice (some ⟨gf, 0, none⟩) 8 cf) wr)) (fun iv _ _ _ _ => 5 - (intOf iv).toNat)
          case atStart => exact ⟨0, rfl, Nat.zero_le _, HS13.out⟩
          case round =>
            obtain ⟨i, rfl, HIN3, HL3⟩ := hrel
            by_cases hi : i < 4
            · have HI4 : Hid (i < 4) := hi
              have HC1 : Hid (Calls Tryd.prog 6 #[.pointer (some ⟨b, 0, none⟩), .int .i64 (i : Int)] wr fun e w' => e = .returned (.tuple #[.agg (ta (GG i)).toList.toArray, .int .i64 0]) ∧ Below wr.heap.size wr w') := counts_yes HL3.out.bk i hi
              have HRO : Hid (∀ y, Below wr.heap.size wr y → y.rangeAt g3 (i * 12) (ta (TT i)).toList) := fun y hy => (HL3.out.rw.below hy).rows i HI4.out
              have hinf : (Tryd.prog.info? tCo).map (·.size) = some (ta (GG i)).toList.toArray.size := infoCo
              have hinl : (Tryd.prog.info? tCo).map (·.size) = some (ta (TT i)).toList.length := infoCo
              have hinj : (Tryd.prog.info? tCo).map (·.size) = some (ta (TT i)).toList.toArray.size := infoCo
              have hold : (ta fun _ => 0).size = (ta (GG i)).toList.toArray.size := rfl
              have hold2 : (ta fun _ => 0).size = (ta (TT i)).toList.toArray.size := rfl
              have hone : (ta (GG i)).toList.toArray.all (·.oneCell') = true := by simp [ta, Value.oneCell']
              have hone2 : (ta (TT i)).toList.toArray.all (·.oneCell') = true := by simp [ta, Value.oneCell']
              have HEQ : Hid (∀ w, (Op.equalIn 10000 tCo (.agg (ta (GG i)).toList.toArray) (.agg (ta (GG i)).toList.toArray)).run Tryd.prog w = .ok true w) := fun w => equal_co (GG i) w
              have hsz0 : (ta (TT i)).toList.toArray.size = (ta fun _ => 0).size := rfl
              have hgi : GG i = if i = k then (fun _ => 0) else TT i := by rw [← HGGe.out]; rfl
              have q11 : (i : Int) < 4 := by omega
              have q12 : (0 : Int) ≤ (i : Int) := by omega
              have q13 : (i : Int) + 1 ≤ 9223372036854775807 := by omega
              obtain ⟨CL, HCL⟩ : ∃ CL, Hid ((ta (GG i)).toList = CL) := ⟨_, rfl⟩
              obtain ⟨CT, HCT⟩ : ∃ CT, Hid ((ta (TT i)).toList = CT) := ⟨_, rfl⟩
              rw [HCL.out] at HC1 hinf hold hone HEQ
              rw [HCT.out] at HRO hinl hinj hold2 hone2 hsz0
              clear hi
              go_wp2_with fail
              refine HC1.out.mono ?_
              rintro e x1 ⟨rfl, hx1⟩
              obtain ⟨Va0, HVa0⟩ : ∃ V, Hid (x1.alloc (.cells #[.int .i64 0, .int .i64 0, .int .i64 0, .int .i64 0, .int .i64 0, .int .i64 0, .int .i64 0, .int .i64 0, .int .i64 0, .int .i64 0, .int .i64 0, .int .i64 0] tCo) = V) := ⟨_, rfl⟩
              have hva0 : Va0.heap[x1.heap.size]? = some (.cells (ta fun _ => 0) tCo (0, 0)) := HVa0.out ▸ h1_0 _ _
              have bva0 : Below x1.heap.size x1 Va0 := HVa0.out ▸ below_one _ _
              obtain ⟨Va, HVa⟩ : ∃ V, Hid (Va0.setRow x1.heap.size CL.toArray = V) := ⟨_, rfl⟩
              have hva : Va.heap[x1.heap.size]? = some (.cells CL.toArray tCo (0, 0)) := HVa.out ▸ setRow_at hva0 _
              have bva : Below x1.heap.size x1 Va := HVa.out ▸ below_setRow bva0 (Nat.le_refl _) _
              have hxa : Below wr.heap.size wr Va := keepB hx1 bva
              have hro := HRO.out Va hxa
              have hszw : wr.heap.size ≤ Va.heap.size := hxa.size
              obtain ⟨Vb0, HVb0⟩ : ∃ V, Hid (Va.alloc (.cells #[.int .i64 0, .int .i64 0, .int .i64 0, .int .i64 0, .int .i64 0, .int .i64 0, .int .i64 0, .int .i64 0, .int .i64 0, .int .i64 0, .int .i64 0, .int .i64 0] tCo) = V) := ⟨_, rfl⟩
              have hvb0 : Vb0.heap[Va.heap.size]? = some (.cells (ta fun _ => 0) tCo (0, 0)) := HVb0.out ▸ h1_0 _ _
              have bvb0 : Below Va.heap.size Va Vb0 := HVb0.out ▸ below_one _ _
              obtain ⟨Vb, HVb⟩ : ∃ V, Hid (Vb0.setRow Va.heap.size CT.toArray = V) := ⟨_, rfl⟩
              have hvb : Vb.heap[Va.heap.size]? = some (.cells CT.toArray tCo (0, 0)) := HVb.out ▸ setRow_at hvb0 _
              have bvb : Below Va.heap.size Va Vb := HVb.out ▸ below_setRow bvb0 (Nat.le_refl _) _
              have hxb : Below wr.heap.size wr Vb := keepB hxa bvb
              have hva2 := kept bvb hva
              have HXB : Hid (Below wr.heap.size wr Vb) := hxb
              have hlt9 : x1.heap.size ≠ Va.heap.size := by have := (Array.getElem?_eq_some_iff.1 hva).1; omega
              clear hx1 bva0 bva hxa bvb0 bvb hxb
              have HINF : Hid _ := hinf
              have HINL : Hid _ := hinl
              have HINJ : Hid _ := hinj
              have HOLD : Hid _ := hold
              have HOLD2 : Hid _ := hold2
              have HONE : Hid _ := hone
              have HONE2 : Hid _ := hone2
              have HVA0H : Hid _ := hva0
              have HVB0H : Hid _ := hvb0
              clear hinf hinl hinj hold hold2 hone hone2 hva0 hvb0
              by_cases hik : i = k
              · have hcz : CL.toArray = #[.int .i64 0, .int .i64 0, .int .i64 0, .int .i64 0, .int .i64 0, .int .i64 0, .int .i64 0, .int .i64 0, .int .i64 0, .int .i64 0, .int .i64 0, .int .i64 0] := by rw [← HCL.out, hgi, if_pos hik]; rfl
                have q14 : ((i : Int) == (k : Int)) = true := by subst hik; simp
                obtain ⟨Vc, HVc⟩ : ∃ V, Hid (Vb.setRow Va.heap.size #[.int .i64 0, .int .i64 0, .int .i64 0, .int .i64 0, .int .i64 0, .int .i64 0, .int .i64 0, .int .i64 0, .int .i64 0, .int .i64 0, .int .i64 0, .int .i64 0] = V) := ⟨_, rfl⟩
                have hvc : Vc.heap[Va.heap.size]? = some (.cells CL.toArray tCo (0, 0)) := by rw [hcz]; exact HVc.out ▸ setRow_at hvb _
                have hvac : Vc.heap[x1.heap.size]? = some (.cells CL.toArray tCo (0, 0)) := HVc.out ▸ (setRow_ne (Ne.symm hlt9) _).trans hva2
                have HX3 : Hid (Sb w b g g3 GG TT f (.slice (some ⟨gf, 0, none⟩) 8 cf) Vc) := HL3.out.below (HVc.out ▸ below_setRow HXB.out hszw _)
                have hsz1 : CT.toArray.size = (#[.int .i64 0, .int .i64 0, .int .i64 0, .int .i64 0, .int .i64 0, .int .i64 0, .int .i64 0, .int .i64 0, .int .i64 0, .int .i64 0, .int .i64 0, .int .i64 0] : Array Value).size := by rw [hsz0]; rfl
                have HVB : Hid (Vb.heap[Va.heap.size]? = some (.cells CT.toArray tCo (0, 0))) := hvb
                have HSZ1 : Hid (CT.toArray.size = (#[.int .i64 0, .int .i64 0, .int .i64 0, .int .i64 0, .int .i64 0, .int .i64 0, .int .i64 0, .int .i64 0, .int .i64 0, .int .i64 0, .int .i64 0, .int .i64 0] : Array Value).size) := hsz1
                have HVC : Hid (Vc.heap[Va.heap.size]? = some (.cells CL.toArray tCo (0, 0))) := hvc
                have HVAC : Hid (Vc.heap[x1.heap.size]? = some (.cells CL.toArray tCo (0, 0))) := hvac
                clear hik hgi hlt9 hcz hszw hsz0 hva hva2 hvb hsz1 hvc hvac
                obtain ⟨ZL, HZL⟩ : ∃ ZL, Hid ((#[.int .i64 0, .int .i64 0, .int .i64 0, .int .i64 0, .int .i64 0, .int .i64 0, .int .i64 0, .int .i64 0, .int .i64 0, .int .i64 0, .int .i64 0, .int .i64 0] : Array Value) = ZL) := ⟨_, rfl⟩
                have HONE3 : Hid (ZL.all (·.oneCell') = true) := by show _ = _; rw [← HZL.out]; simp [Value.oneCell']
                have HINZ : Hid ((Tryd.prog.info? tCo).map (·.size) = some ZL.size) := by show _ = _; rw [← HZL.out]; exact infoCo
                rw [HZL.out] at HSZ1 HVc
                have heq : ∀ w, (Op.equalIn 10000 28 (.agg CL.toArray) (.agg CL.toArray)).run Tryd.prog w = .ok true w := HEQ.out
                have hm9 : Tryd.prog.eqGuardType Tryd.prog.depth 28 = false := by kernel_rfl
                go_wp2_with (first
                  | (refine wpList_store_row rfl tCo _ _ rfl x1.heap.size CL.toArray (by rfl) (by rfl) _ _ HVA0H.out HINF.out HOLD.out HONE.out ?_)
                  | (rw [HVa0.out])
                  | (rw [HVa.out])
                  | (refine wpList_store_row rfl tCo _ _ rfl Va.heap.size CT.toArray (by rfl) (by rfl) _ _ HVB0H.out HINJ.out HOLD2.out HONE2.out ?_)
                  | (rw [HVb0.out])
                  | (rw [HVb.out])
                  | (refine wpList_build28 rfl rfl ?_; rw [HZL.out])
                  | (refine wpList_store_row rfl tCo _ _ rfl Va.heap.size ZL (by rfl) (by rfl) _ _ HVB.out HINZ.out HSZ1.out HONE3.out ?_)
                  | (rw [HVc.out])
                  | (refine wpList_load_row rfl tCo _ rfl x1.heap.size rfl _ _ _ _ HVAC.out Tryd.underlying28 rfl HINF.out ?_; go_simp)
                  | (refine wpList_load_row rfl tCo _ rfl Va.heap.size rfl _ _ _ _ HVC.out Tryd.underlying28 rfl HINF.out ?_; go_simp)
                  | (refine wpList_load_mid rfl tCo _ rfl g3 (i * 12) (by rfl) CT _ hro Tryd.underlying28 rfl HINL.out ?_)
                  | fail)
                refine ⟨⟨i + 1, by simp, by have := HI4.out; show i + 1 ≤ 4; omega, HX3.out⟩, ?_⟩
                have := HI4.out
                simp only [intOf]; omega
              · have hcz : CL = CT := by rw [← HCL.out, ← HCT.out, hgi, if_neg hik]
                have q14 : ((i : Int) == (k : Int)) = false := beq_eq_false_iff_ne.2 (by omega)
                have HX3 : Hid (Sb w b g g3 GG TT f (.slice (some ⟨gf, 0, none⟩) 8 cf) Vb) := HL3.out.below HXB.out
                subst hcz
                have HVA2 : Hid (Vb.heap[x1.heap.size]? = some (.cells CL.toArray tCo (0, 0))) := hva2
                have HVB : Hid (Vb.heap[Va.heap.size]? = some (.cells CL.toArray tCo (0, 0))) := hvb
                clear hik hgi hlt9 hszw hsz0 hva hva2 hvb
                have heq : ∀ w, (Op.equalIn 10000 28 (.agg CL.toArray) (.agg CL.toArray)).run Tryd.prog w = .ok true w := HEQ.out
                have hm9 : Tryd.prog.eqGuardType Tryd.prog.depth 28 = false := by kernel_rfl
                go_wp2_with (first
                  | (refine wpList_store_row rfl tCo _ _ rfl x1.heap.size CL.toArray (by rfl) (by rfl) _ _ HVA0H.out HINF.out HOLD.out HONE.out ?_)
                  | (rw [HVa0.out])
                  | (rw [HVa.out])
                  | (refine wpList_store_row rfl tCo _ _ rfl Va.heap.size CL.toArray (by rfl) (by rfl) _ _ HVB0H.out HINJ.out HOLD2.out HONE2.out ?_)
                  | (rw [HVb0.out])
                  | (rw [HVb.out])
                  | (refine wpList_load_row rfl tCo _ rfl x1.heap.size rfl _ _ _ _ HVA2.out Tryd.underlying28 rfl HINF.out ?_; go_simp)
                  | (refine wpList_load_row rfl tCo _ rfl Va.heap.size rfl _ _ _ _ HVB.out Tryd.underlying28 rfl HINF.out ?_; go_simp)
                  | (refine wpList_load_mid rfl tCo _ rfl g3 (i * 12) (by rfl) CL _ hro Tryd.underlying28 rfl HINL.out ?_)
                  | fail)
                refine ⟨⟨i + 1, by simp, by have := HI4.out; show i + 1 ≤ 4; omega, HX3.out⟩, ?_⟩
                have := HI4.out
                simp only [intOf]; omega
            · have hi43 : i = 4 := by have := HIN3.out; omega
              subst hi43
              have hgk : ∀ j, j < 12 → 0 ≤ GG k j ∧ GG k j ≤ mostK j := fun j hj => by
                have e : GG k = fun _ => 0 := by rw [← HGGe.out]; unfold updF; simp
                rw [e]
                refine ⟨Int.le_refl _, ?_⟩
                unfold mostK; split <;> (show (0 : Int) ≤ _; decide)
              have hB3 : (∀ i, i < 8 → mism [] (GG k) i = false) ↔ true = true := ⟨fun _ => rfl, fun _ i _ => mism_nil _ _⟩
              have hst3 := settle_any HL3.out.bk HL3.out.bel.size k HK.out hgk (HTB.out _ HL3.out.bel) ⟨#[49, 53, 48, 49]⟩ (by decide) (by decide) _ _ (rowf_nil wr) (by decide) (fun q hq => by cases hq) true hB3
              have HL4 : Hid (Below w.heap.size w wr) := HL3.out.bel
              clear hi hgk hB3
              go_wp2_with fail
              refine hst3.mono ?_
              rintro e y14 ⟨rfl, -, hbl14, -, -⟩
              have HFN : Hid (Below w.heap.size w y14) := HL4.out.trans hbl14
              clear hst3 hbl14
              go_wp2_with fail
              go_ret
              exact ⟨rfl, HFN.out⟩
end Go.Proofs.YteaanenhefbkjaaDoor.Xw
