/- TotalsCount's walk. -/
import Derived.Test.YteaanenhefbkjaaTv
import Derived.BigQuiet
namespace Go.Proofs.Yteaanenhefbkjaa.Tw
set_option linter.unusedVariables false
set_option linter.unusedSimpArgs false
open Go.RowKit Lib0 Kb Xp Ic Ta Hp Hr Ht Hu Hx Tb Tc Td Te Tf Tg Tn Num Chars Tj Tk Tl Tp Tr Tu Tq Tv
attribute [local go_sem] Oper.semAt_some
theorem tot_hf (n : Int) (z : List D) (i : Nat) (hi : i ≤ (z.take 300).length) (k j : Nat) : 0 ≤ tot n (done z false i) k j ∧ tot n (done z false i) k j ≤ 1000000000000 := by
  have h1 := tot_b n k j (done z false i)
  rw [done_len z false i hi] at h1
  rw [List.length_take] at hi
  refine ⟨h1.1, Int.le_trans h1.2 ?_⟩
  have h3 : (i : Int) * capK j ≤ 300 * capK j := Int.mul_le_mul_of_nonneg_right (by omega) (capK_pos j)
  have h4 : capK j ≤ 999999999 := by unfold capK; split <;> omega
  omega
theorem at_list {x : World} {p : Addr} {X : D} (h0 : x.cell? p = some (.int .i64 X.lk)) (h1 : x.cell? ⟨p.block, p.off + 1, none⟩ = some (.int .i64 X.wh)) (h2 : x.cell? ⟨p.block, p.off + 2, none⟩ = some (.int .i64 X.am)) (h3 : x.cell? ⟨p.block, p.off + 3, none⟩ = some (.bool X.cr)) (h4 : x.cell? ⟨p.block, p.off + 4, none⟩ = some (.bool X.ys)) :
    ∀ j v, (dcs X).toList[j]? = some v → x.cell? (p.add j) = some v := by
  intro j v hv
  have e0 : p.add 0 = p := by unfold Addr.add; simp
  have e1 : ∀ j, 0 < j → p.add j = ⟨p.block, p.off + j, none⟩ := fun j hj => by unfold Addr.add; rw [if_neg (by omega)]
  match j, hv with
  | 0, hv => rw [e0, h0]; exact hv
  | 1, hv => rw [e1 1 (by omega), h1]; exact hv
  | 2, hv => rw [e1 2 (by omega), h2]; exact hv
  | 3, hv => rw [e1 3 (by omega), h3]; exact hv
  | 4, hv => rw [e1 4 (by omega), h4]; exact hv
set_option maxRecDepth 100000 in
set_option maxHeartbeats 12800000 in
theorem walk (a0 : Int) (v1 : Value) (z : List So.Opv) (w : World) (w0 : (Lit.int .i64 a0).wf = true) (wz : So.Lies w v1 z 140737488351232) :
    Calls Try.prog 3 #[.int .i64 a0, v1] w fun e w' => e = .returned (.bool true) ∧ Below w.heap.size w w' := by
  obtain ⟨⟨oz, cz, rfl, hz⟩, hzl⟩ := wz
  have hdl : Dls w oz z := ⟨fun i hi => by obtain ⟨a, e, h, -⟩ := hz i hi; exact ⟨a, e, h⟩, fun i hi => by obtain ⟨a, e, -, h⟩ := hz i hi; exact ⟨wf64 h.1, wf64 h.2.1, wf64 h.2.2.1⟩, by omega⟩
  have hw := wf64 w0
  have a1 := Pick.pick_lo a0 32 (by omega)
  have a2 := Pick.pick_hi a0 32 (by omega)
  have PK : Hid (∀ y, Calls Try.prog 4 #[.int .i64 a0, .int .i64 32] y fun e w' => e = .returned (.int .i64 (Pick.pickOf a0 32)) ∧ w' = y) := fun y => Pick.pick_any a0 32 y hw.1 hw.2 (by omega) (by omega)
  obtain ⟨m, hm⟩ : ∃ m, Pick.pickOf a0 32 = m := ⟨_, rfl⟩
  rw [hm] at PK a1 a2
  obtain ⟨n, hn⟩ : ∃ n : Nat, 1 + m = (n : Int) := ⟨(1 + m).toNat, by omega⟩
  have HN : Hid (0 < n ∧ n ≤ 32) := by show 0 < n ∧ n ≤ 32; omega
  obtain ⟨N, HN0⟩ : ∃ N, Hid (z.length = N) := ⟨_, rfl⟩
  have HT : Hid ((z.take 300).length = min N 300) := by show (z.take 300).length = _; rw [List.length_take, HN0.out]; omega
  obtain ⟨TT, HTT⟩ : ∃ TT, Hid (tot n (z.take 300) = TT) := ⟨_, rfl⟩
  have HZ : Hid (Dls w oz z) := hdl
  have q0 : (N : Int) ≤ 9223372036854775807 := by have := HN0.out; omega
  have HNT : Hid (∀ y bk, Below w.heap.size w y → Calls Try.prog 5 #[.int .i64 (n : Int), .slice oz N cz, .bool bk] y fun e w' => ∃ b g, e = .returned (.pointer (some ⟨b, 0, none⟩)) ∧ BkT w' y.heap.size b g n TT ∧ Below y.heap.size y w') := fun y bk hy => by
    have h9 := noted_any n HN.out oz cz z bk y (HZ.out.below hy)
    rw [HN0.out, HTT.out] at h9
    exact h9
  obtain ⟨i0, hi0, hz0, hz1, hz2⟩ := infoC
  have hn0 : (0 : Int) ≤ (n : Int) := by omega
  rw [HN0.out]
  clear hdl hz hzl hw w0 hm
  go_enter Try.func3, Try.ntmps3
  go_wp2_with fail
  refine (PK.out _).mono ?_
  rintro e y0 ⟨rfl, rfl⟩
  go_wp2_with fail
  refine (HNT.out _ _ (Below.refl _ _)).mono ?_
  rintro e y1 ⟨b1, g1, rfl, hb1, hy1⟩
  have HB1 : Hid (BkT y1 y0.heap.size b1 g1 n TT ∧ Below y0.heap.size y0 y1) := ⟨hb1, hy1⟩
  clear hb1 hy1
  go_wp2_with fail
  refine (HNT.out _ _ HB1.out.2).mono ?_
  rintro e y2 ⟨b2, g2, rfl, hb2, hy2⟩
  have HB2 : Hid (BkT y2 y0.heap.size b1 g1 n TT ∧ BkT y2 y1.heap.size b2 g2 n TT ∧ Below y0.heap.size y0 y2) := ⟨HB1.out.1.below hy2, hb2, keepB HB1.out.2 hy2⟩
  clear hb2 hy2
  go_wp2_with (first
    | (at_make; refine wpList_make_full _ rfl _ _ 26 rfl y2.heap.size tCo i0 _ 12 Try.underlying26 hi0 hz0 hz1 _ _ _ _ n rfl rfl rfl rfl (by rw [hz2]; have := HN.out; omega) (by have := HN.out; unfold maxLen; omega) (Nat.le_refl _) ?_; intro x hown hgrow; have HRW : Hid _ := rw_made HN.out hown hgrow; clear hown hgrow)
    | fail)
  obtain ⟨g3, HG3⟩ : ∃ g3, Hid (y2.heap.size = g3) := ⟨_, rfl⟩
  rw [HG3.out] at HRW
  rw [HG3.out]
  go_loopw [9, 10] (fun iv _ wr => ∃ i : Nat, iv = .int .i64 (i : Int) ∧ Hid (i ≤ min N 300) ∧ Hid (Rw wr g3 g3 n (tot n (done z false i)) ∧ Below y2.heap.size y2 wr)) (fun iv _ _ => 301 - (intOf iv).toNat)
  case atStart => exact ⟨0, rfl, Nat.zero_le _, by rw [done_zero]; exact HRW.out.1, by rw [HG3.out]; exact HRW.out.2⟩
  case round =>
    obtain ⟨i, rfl, HI, HB⟩ := hrel
    by_cases hlt : i < min N 300
    · have hzw := HZ.out.below (keepB HB2.out.2.2 HB.out.2)
      have hiz : i < z.length := by rw [HN0.out]; omega
      obtain ⟨a, rfl, c0, c1, c2, c3, c4⟩ := hzw.cells i hiz
      have hfn := HZ.out.fine _ hiz
      have hdn := done_next n z false i (by rw [HT.out]; exact hlt) (by simpa [idx] using hiz)
      simp only [idx, Bool.false_eq_true, if_false] at hdn
      have hbd := tot_hf n z i (by rw [HT.out]; omega)
      obtain ⟨X, hX⟩ : ∃ X, z[i] = X := ⟨_, rfl⟩
      rw [hX] at c0 c1 c2 c3 c4 hfn hdn
      have hat := at_list c0 c1 c2 c3 c4
      have hkl := pkl_lt n HN.out.1 X
      obtain ⟨k, hk⟩ : ∃ k, pkl n X = k := ⟨_, rfl⟩
      have PL : Hid (∀ y, Calls Try.prog 4 #[.int .i64 X.lk, .int .i64 (n : Int)] y fun e w' => e = .returned (.int .i64 (k : Int)) ∧ w' = y) := fun y => by
        have h9 := Pick.pick_any X.lk (n : Int) y hfn.1.1 hfn.1.2 (by have := HN.out; omega) (by have := HN.out; omega)
        have h8 := Pick.pick_lo X.lk (n : Int) (by have := HN.out; omega)
        rw [show (k : Int) = Pick.pickOf X.lk n by rw [← hk]; unfold pkl; omega]
        exact h9
      rw [hk] at hkl hdn
      obtain ⟨f, hf⟩ : ∃ f, tot n (done z false i) k = f := ⟨_, rfl⟩
      have hrg := HB.out.1.rows k hkl
      have hth0 := HB.out.1.there k hkl
      have hltg := HB.out.1.ltg
      have HCT0 : Hid (∀ y, Calls Try.prog 6 #[.agg (ta f), .agg (dcs X)] y fun e w' => e = .returned (.agg (ta (sumT f (brD X)))) ∧ Below y.heap.size y w') := fun y => counted_any f X.lk X.wh X.am X.cr X.ys hfn.2.1 hfn.2.2 (fun j _ => by rw [← hf]; exact hbd k j) y
      rw [hf] at hrg hdn
      have HST : Hid (∀ y, Below wr.heap.size wr y → Rw (y.setCells g3 (k * 12) (ta (sumT f (brD X))).toList) g3 g3 n (tot n (done z false (i + 1))) ∧ Below y2.heap.size y2 (y.setCells g3 (k * 12) (ta (sumT f (brD X))).toList) ∧ y.there g3 (k * 12) 12) := fun y hy => ⟨by
        have h9 := rw_store (HB.out.1.below hy) k hkl (sumT f (brD X))
        rw [hdn]; exact h9, setCells_below (by rw [HG3.out]; exact Nat.le_refl _) _ _ _ (keepB HB.out.2 hy), (HB.out.1.below hy).there k hkl⟩
      have hiC : (Try.prog.info? tCo).map (·.size) = some (ta f).toList.length := infoCo
      have hiG : (Try.prog.info? tCo).map (·.size) = some (ta (sumT f (brD X))).toList.length := infoCo
      have hiD : (Try.prog.info? Tr.tDe).map (·.size) = some (dcs X).toList.length := infoDe
      have hoG : ∀ v ∈ (ta (sumT f (brD X))).toList, v.oneCell' = true := by simp [ta, Value.oneCell']
      have hlG : (ta (sumT f (brD X))).toList.length = 12 := rfl
      have HCT1 : Hid (∀ y, Calls Try.prog 6 #[.agg (ta f).toList.toArray, .agg (dcs X).toList.toArray] y fun e w' => e = .returned (.agg (ta (sumT f (brD X))).toList.toArray) ∧ Below y.heap.size y w') := HCT0
      obtain ⟨CF, HCF⟩ : ∃ CF, Hid ((ta f).toList = CF) := ⟨_, rfl⟩
      obtain ⟨CG, HCG⟩ : ∃ CG, Hid ((ta (sumT f (brD X))).toList = CG) := ⟨_, rfl⟩
      obtain ⟨DL, HDL⟩ : ∃ DL, Hid ((dcs X).toList = DL) := ⟨_, rfl⟩
      rw [HCF.out] at hrg hiC HCT1
      rw [HCG.out] at hiG hoG hlG HST HCT1
      rw [HDL.out] at hat hiD HCT1
      have HLG : Hid (CG.length = 12) := hlG
      have HLT : Hid (i < min N 300) := hlt
      have q1 : (i : Int) < (N : Int) := by omega
      have q2 : (i : Int) < 300 := by omega
      have q3 : (0 : Int) ≤ (i : Int) := by omega
      have q4 : (i : Int) + 1 ≤ 9223372036854775807 := by omega
      have q5 : (k : Int) < (n : Int) := by omega
      have q6 : (0 : Int) ≤ (k : Int) := by omega
      clear hzw hiz hfn hdn hbd hX hkl hk hf hth0 hlt HCT0 hlG c1 c2 c3 c4
      go_wp2_with fail
      refine (PL.out _).mono ?_
      rintro e y3 ⟨rfl, rfl⟩
      go_wp2_with fail
      refine Ql.region_lastL (C := Ql.Cl y3) (by kernel_rfl) rfl (by kernel_rfl) (by kernel_rfl) (by kernel_rfl) rfl ((Below.refl _ _).drew) ?_
      dsimp only [List.dropLast]
      repeat (first | go_big_quiet_skip | (go_big_quiet_want; go_big_quiet_op; first | go_big_quiet_on | (refine ⟨_, fun _ _ => rfl, ?_⟩; go_big_quiet_on) | (refine ⟨_, fun _ _ => ⟨rfl, rfl⟩, ?_⟩; go_big_quiet_on)) | (refine wpQuiet_step (fun K hK => ?_); first
        | (refine q_mid (by rfl) tCo _ rfl _ _ rfl CF hrg hltg _ Try.underlying30 rfl hiC (hK _ ?_); clear hK K; simp only [Act.put, List.setIfInBounds_toArray, List.set_cons_succ, List.set_cons_zero])
        | (refine q_at (by rfl) Tr.tDe _ rfl _ rfl DL hat _ Try.underlying28 rfl hiD (hK _ ?_); clear hK K; simp only [Act.put, List.setIfInBounds_toArray, List.set_cons_succ, List.set_cons_zero])
        | (go_simp; apply Exists.intro; refine ⟨fun y hy => ?_, hK _ ?_⟩; (first | (go_at_call 6; exact Ql.cl_of hy (HCT1.out _))); clear hK K)
        | fail))
      refine wpQuiet_nil ?_
      intro y4 hy4
      have hth : y4.there g3 (k * 12) CG.toArray.size := by rw [show CG.toArray.size = 12 from HLG.out]; exact (HST.out y4 hy4).2.2
      have HFIN : Hid (Rw (y4.setCells g3 (k * 12) CG.toArray.toList) g3 g3 n (tot n (done z false (i + 1))) ∧ Below y2.heap.size y2 (y4.setCells g3 (k * 12) CG.toArray.toList)) := ⟨(HST.out y4 hy4).1, (HST.out y4 hy4).2.1⟩
      clear hy4 hrg hat c0
      refine wp_store_mid tCo _ _ rfl g3 (k * 12) CG.toArray (by rfl) (by rfl) hth hiG (all_oneCell_toArray hoG) ?_
      go_wp2_with fail
      refine ⟨⟨i + 1, by simp, by have := HLT.out; show i + 1 ≤ min N 300; omega, HFIN.out⟩, ?_⟩
      have := HLT.out
      simp only [intOf]; omega
    · have hi9 : i = min N 300 := by have := HI.out; omega
      have HE : tot n (done z false i) = TT := by
        rw [hi9, ← HT.out, done_end n z false]; exact HTT.out
      have HW : Hid (BkT wr y0.heap.size b1 g1 n TT ∧ BkT wr y1.heap.size b2 g2 n TT ∧ Rw wr g3 g3 n TT ∧ Below y0.heap.size y0 wr) := ⟨HB2.out.1.below HB.out.2, HB2.out.2.1.below HB.out.2, by rw [← HE]; exact HB.out.1, keepB HB2.out.2.2 HB.out.2⟩
      clear HE
      by_cases hN : N ≤ 300
      · have q1 : (N : Int) ≤ (i : Int) := by omega
        clear hi9 hlt hN
        obtain ⟨W5, hW5⟩ : ∃ y, y = wr := ⟨_, rfl⟩
        subst hW5
        go_wp2_with fail
        go_loopw [11, 12, 13, 14, 15] (fun kv _ _ _ _ wr => ∃ k : Nat, kv = .int .i64 (k : Int) ∧ Hid (k ≤ n) ∧ Hid (Below W5.heap.size W5 wr)) (fun kv _ _ _ _ _ => n + 1 - (intOf kv).toNat)
        case atStart => exact ⟨0, rfl, Nat.zero_le _, Below.refl _ _⟩
        case round =>
          obtain ⟨k, rfl, HKN, HX⟩ := hrel
          by_cases hkn : k < n
          · have HKL : Hid (k < n) := hkn
            have hrw := HW.out.2.2.1.below HX.out
            have HBA : Hid (∀ y, Below wr.heap.size wr y → BkT y y0.heap.size b1 g1 n TT ∧ BkT y y1.heap.size b2 g2 n TT ∧ Rw y g3 g3 n TT) := fun y hy => ⟨(HW.out.1.below HX.out).below hy, (HW.out.2.1.below HX.out).below hy, hrw.below hy⟩
            have hreq : TT k 0 = TT k 1 + TT k 2 := by rw [← HTT.out]; exact tot_req n k _
            have hp1 : 0 ≤ TT k 1 ∧ TT k 1 ≤ 1000000000000 := by
              have h9 := tot_hf n z (min N 300) (by rw [HT.out]; omega) k 1
              rw [← HT.out, done_end, HTT.out] at h9; exact h9
            have hp2 : 0 ≤ TT k 2 ∧ TT k 2 ≤ 1000000000000 := by
              have h9 := tot_hf n z (min N 300) (by rw [HT.out]; omega) k 2
              rw [← HT.out, done_end, HTT.out] at h9; exact h9
            have HC1 : Hid (∀ y, BkT y y0.heap.size b1 g1 n TT → Calls Try.prog 7 #[.pointer (some ⟨b1, 0, none⟩), .int .i64 (k : Int)] y fun e w' => e = .returned (.tuple #[.agg (ta (TT k)).toList.toArray, .int .i64 0]) ∧ Below y.heap.size y w') := fun y hy => counts_yes hy k HKL.out
            have HC2 : Hid (∀ y, BkT y y1.heap.size b2 g2 n TT → Calls Try.prog 7 #[.pointer (some ⟨b2, 0, none⟩), .int .i64 (k : Int)] y fun e w' => e = .returned (.tuple #[.agg (ta (TT k)).toList.toArray, .int .i64 0]) ∧ Below y.heap.size y w') := fun y hy => counts_yes hy k HKL.out
            have HRO : Hid (∀ y, Below wr.heap.size wr y → y.rangeAt g3 (k * 12) (ta (TT k)).toList) := fun y hy => (HBA.out y hy).2.2.rows k HKL.out
            have HEQ : Hid (∀ w, (Op.equalIn 10000 tCo (.agg (ta (TT k)).toList.toArray) (.agg (ta (TT k)).toList.toArray)).run Try.prog w = .ok true w) := fun w => equal_co (TT k) w
            obtain ⟨p, hp⟩ : ∃ p, TT k 1 = p := ⟨_, rfl⟩
            obtain ⟨q, hq⟩ : ∃ q, TT k 2 = q := ⟨_, rfl⟩
            rw [hp] at hreq hp1
            rw [hq] at hreq hp2
            have HCELL : Hid (∀ (y : World) (u : Nat), y.heap[u]? = some (.cells (ta (TT k)).toList.toArray tCo (0, 0)) → y.cell? ⟨u, 0, none⟩ = some (.int .i64 (p + q)) ∧ y.cell? ⟨u, 1, none⟩ = some (.int .i64 p) ∧ y.cell? ⟨u, 2, none⟩ = some (.int .i64 q)) := fun y u hu => by
              have h0 := (ta_cell hu 0 (by omega)).1
              have h1 := (ta_cell hu 1 (by omega)).1
              have h2 := (ta_cell hu 2 (by omega)).1
              rw [hreq] at h0
              rw [hp] at h1
              rw [hq] at h2
              exact ⟨h0, h1, h2⟩
            have hinf : (Try.prog.info? tCo).map (·.size) = some (ta (TT k)).toList.toArray.size := infoCo
            have hinl : (Try.prog.info? tCo).map (·.size) = some (ta (TT k)).toList.length := infoCo
            have hold : (ta fun _ => 0).size = (ta (TT k)).toList.toArray.size := rfl
            have hone : (ta (TT k)).toList.toArray.all (·.oneCell') = true := by simp [ta, Value.oneCell']
            obtain ⟨CL, HCL⟩ : ∃ CL, Hid ((ta (TT k)).toList = CL) := ⟨_, rfl⟩
            rw [HCL.out] at HC1 HC2 HRO HEQ HCELL hinf hinl hold hone
            have q1 : (k : Int) < (n : Int) := by omega
            have q2 : (0 : Int) ≤ (k : Int) := by omega
            have q3 : (k : Int) + 1 ≤ 9223372036854775807 := by have := HN.out; omega
            have q4 : -9223372036854775808 ≤ p + q := by omega
            have q5 : p + q ≤ 9223372036854775807 := by omega
            clear hkn hrw hreq hp1 hp2 hp hq
            go_wp2_with fail
            refine (HC1.out _ (HBA.out _ (Below.refl _ _)).1).mono ?_
            rintro e x1 ⟨rfl, hx1⟩
            obtain ⟨Va0, HVa0⟩ : ∃ V, Hid (x1.alloc (.cells #[.int .i64 0, .int .i64 0, .int .i64 0, .int .i64 0, .int .i64 0, .int .i64 0, .int .i64 0, .int .i64 0, .int .i64 0, .int .i64 0, .int .i64 0, .int .i64 0] tCo) = V) := ⟨_, rfl⟩
            have hva0 : Va0.heap[x1.heap.size]? = some (.cells (ta fun _ => 0) tCo (0, 0)) := HVa0.out ▸ h1_0 _ _
            have bva0 : Below x1.heap.size x1 Va0 := HVa0.out ▸ below_one _ _
            obtain ⟨Va, HVa⟩ : ∃ V, Hid (Va0.setRow x1.heap.size CL.toArray = V) := ⟨_, rfl⟩
            have hva : Va.heap[x1.heap.size]? = some (.cells CL.toArray tCo (0, 0)) := HVa.out ▸ setRow_at hva0 _
            have bva : Below x1.heap.size x1 Va := HVa.out ▸ below_setRow bva0 (Nat.le_refl _) _
            have hxa : Below wr.heap.size wr Va := keepB hx1 bva
            have HXA : Hid (Below wr.heap.size wr Va ∧ Va.heap[x1.heap.size]? = some (.cells CL.toArray tCo (0, 0))) := ⟨hxa, hva⟩
            clear hx1 bva0 bva hva hxa
            go_wp2_with (first
              | (refine wpList_store_row rfl tCo _ _ rfl x1.heap.size CL.toArray (by rfl) (by rfl) _ _ hva0 hinf hold hone ?_)
              | (rw [HVa0.out])
              | (rw [HVa.out])
              | fail)
            refine (HC2.out _ (HBA.out _ HXA.out.1).2.1).mono ?_
            rintro e x2 ⟨rfl, hx2⟩
            obtain ⟨Vb0, HVb0⟩ : ∃ V, Hid (x2.alloc (.cells #[.int .i64 0, .int .i64 0, .int .i64 0, .int .i64 0, .int .i64 0, .int .i64 0, .int .i64 0, .int .i64 0, .int .i64 0, .int .i64 0, .int .i64 0, .int .i64 0] tCo) = V) := ⟨_, rfl⟩
            have hvb0 : Vb0.heap[x2.heap.size]? = some (.cells (ta fun _ => 0) tCo (0, 0)) := HVb0.out ▸ h1_0 _ _
            have bvb0 : Below x2.heap.size x2 Vb0 := HVb0.out ▸ below_one _ _
            obtain ⟨Vb, HVb⟩ : ∃ V, Hid (Vb0.setRow x2.heap.size CL.toArray = V) := ⟨_, rfl⟩
            have hvb : Vb.heap[x2.heap.size]? = some (.cells CL.toArray tCo (0, 0)) := HVb.out ▸ setRow_at hvb0 _
            have bvb : Below x2.heap.size x2 Vb := HVb.out ▸ below_setRow bvb0 (Nat.le_refl _) _
            have hxb : Below wr.heap.size wr Vb := keepB HXA.out.1 (keepB hx2 bvb)
            have hxr := kept (keepB hx2 bvb) HXA.out.2
            have HXB : Hid (Below wr.heap.size wr Vb) := hxb
            obtain ⟨e0, e1, e2⟩ := HCELL.out Vb x1.heap.size hxr
            have hro := HRO.out Vb hxb
            have lr : x1.heap.size < Vb.heap.size := (Array.getElem?_eq_some_iff.1 hxr).1
            have lg : g3 < Vb.heap.size := (HBA.out Vb hxb).2.2.ltg
            clear hx2 bvb0 bvb hxb
            go_wp2_with (first
              | (refine wpList_store_row rfl tCo _ _ rfl x2.heap.size CL.toArray (by rfl) (by rfl) _ _ hvb0 hinf hold hone ?_)
              | (rw [HVb0.out])
              | (rw [HVb.out])
              | fail)
            refine Ql.region_cl (by kernel_rfl) (by kernel_rfl) ?_
            try dsimp only [Act.put]
            repeat (first | go_big_quiet_skip | (go_big_quiet_want; go_big_quiet_op; first | go_big_quiet_on | (refine ⟨_, fun _ _ => rfl, ?_⟩; go_big_quiet_on) | (refine ⟨_, fun _ _ => ⟨rfl, rfl⟩, ?_⟩; go_big_quiet_on)) | (refine wpQuiet_step (fun K hK => ?_); first
              | (refine Ql.q_row (by rfl) tCo _ rfl x1.heap.size rfl _ _ _ _ hxr Try.underlying30 rfl hinf (hK _ ?_); clear hK K; simp only [Act.put, List.setIfInBounds_toArray, List.set_cons_succ, List.set_cons_zero])
              | (refine Ql.q_row (by rfl) tCo _ rfl x2.heap.size rfl _ _ _ _ hvb Try.underlying30 rfl hinf (hK _ ?_); clear hK K; simp only [Act.put, List.setIfInBounds_toArray, List.set_cons_succ, List.set_cons_zero])
              | (refine q_mid (by rfl) tCo _ rfl _ _ rfl CL hro lg _ Try.underlying30 rfl hinl (hK _ ?_); clear hK K; simp only [Act.put, List.setIfInBounds_toArray, List.set_cons_succ, List.set_cons_zero])
              | (refine q_neq (by rfl) _ _ _ rfl CL.toArray (by rfl) (by rfl) HEQ.out (hK _ ?_); clear hK K; simp only [Act.put, List.setIfInBounds_toArray, List.set_cons_succ, List.set_cons_zero])
              | (refine Ql.q_cell (by rfl) 3 _ rfl x1.heap.size 0 rfl _ e0 lr (fun y => Try.isAgg3 y) (hK _ ?_); clear hK K; simp only [Act.put, List.setIfInBounds_toArray, List.set_cons_succ, List.set_cons_zero])
              | (refine Ql.q_cell (by rfl) 3 _ rfl x1.heap.size 1 rfl _ e1 lr (fun y => Try.isAgg3 y) (hK _ ?_); clear hK K; simp only [Act.put, List.setIfInBounds_toArray, List.set_cons_succ, List.set_cons_zero])
              | (refine Ql.q_cell (by rfl) 3 _ rfl x1.heap.size 2 rfl _ e2 lr (fun y => Try.isAgg3 y) (hK _ ?_); clear hK K; simp only [Act.put, List.setIfInBounds_toArray, List.set_cons_succ, List.set_cons_zero])
              | fail))
            refine wpQuiet_nil ?_
            intro x3 hx3
            have HX3 : Hid (Below W5.heap.size W5 x3) := keepB HX.out (keepB HXB.out hx3)
            clear hx3 hro hxr hvb e0 e1 e2
            go_wp2_with fail
            refine ⟨⟨k + 1, by simp, HKL.out, HX3.out⟩, ?_⟩
            have := HKL.out
            simp only [intOf]; omega
          · have hkn2 : k = n := by have := HKN.out; omega
            subst hkn2
            have HBA : Hid (∀ y, Below wr.heap.size wr y → BkT y y0.heap.size b1 g1 k TT) := fun y hy => (HW.out.1.below HX.out).below hy
            have HD1 : Hid (∀ y, Below wr.heap.size wr y → Calls Try.prog 7 #[.pointer (some ⟨b1, 0, none⟩), .int .i64 (k : Int)] y fun e w' => e = .returned (.tuple #[.agg (ta fun _ => 0).toList.toArray, .int .i64 40]) ∧ Below y.heap.size y w') := fun y hy => counts_no y b1 _ (fun y' hy' => has_top ((HBA.out y hy).below hy'))
            have HD2 : Hid (∀ y, Calls Try.prog 7 #[.pointer (some ⟨b1, 0, none⟩), .int .i64 (-1)] y fun e w' => e = .returned (.tuple #[.agg (ta fun _ => 0).toList.toArray, .int .i64 40]) ∧ Below y.heap.size y w') := fun y => counts_no y b1 _ (fun y' hy' => has_neg y' b1)
            have hinf : (Try.prog.info? tCo).map (·.size) = some (ta fun _ => 0).toList.toArray.size := infoCo
            have hold : (ta fun _ => 0).size = (ta fun _ => 0).toList.toArray.size := rfl
            have hone : (ta fun _ => 0).toList.toArray.all (·.oneCell') = true := by simp [ta, Value.oneCell']
            obtain ⟨CL, HCL⟩ : ∃ CL, Hid ((ta fun _ => 0).toList = CL) := ⟨_, rfl⟩
            rw [HCL.out] at HD1 HD2 hinf hold hone
            have q1 : (k : Int) ≤ (k : Int) := by omega
            clear hkn
            go_wp2_with fail
            refine (HD1.out _ (Below.refl _ _)).mono ?_
            rintro e x1 ⟨rfl, hx1⟩
            obtain ⟨Va0, HVa0⟩ : ∃ V, Hid (x1.alloc (.cells #[.int .i64 0, .int .i64 0, .int .i64 0, .int .i64 0, .int .i64 0, .int .i64 0, .int .i64 0, .int .i64 0, .int .i64 0, .int .i64 0, .int .i64 0, .int .i64 0] tCo) = V) := ⟨_, rfl⟩
            have hva0 : Va0.heap[x1.heap.size]? = some (.cells (ta fun _ => 0) tCo (0, 0)) := HVa0.out ▸ h1_0 _ _
            have bva0 : Below x1.heap.size x1 Va0 := HVa0.out ▸ below_one _ _
            obtain ⟨Va, HVa⟩ : ∃ V, Hid (Va0.setRow x1.heap.size CL.toArray = V) := ⟨_, rfl⟩
            have hva : Va.heap[x1.heap.size]? = some (.cells CL.toArray tCo (0, 0)) := HVa.out ▸ setRow_at hva0 _
            have bva : Below x1.heap.size x1 Va := HVa.out ▸ below_setRow bva0 (Nat.le_refl _) _
            have HXA : Hid (Below wr.heap.size wr Va) := keepB hx1 bva
            clear hx1 bva0 bva hva
            go_wp2_with (first
              | (refine wpList_store_row rfl tCo _ _ rfl x1.heap.size CL.toArray (by rfl) (by rfl) _ _ hva0 hinf hold hone ?_)
              | (rw [HVa0.out])
              | (rw [HVa.out])
              | fail)
            refine (HD2.out _).mono ?_
            rintro e x2 ⟨rfl, hx2⟩
            obtain ⟨Vb0, HVb0⟩ : ∃ V, Hid (x2.alloc (.cells #[.int .i64 0, .int .i64 0, .int .i64 0, .int .i64 0, .int .i64 0, .int .i64 0, .int .i64 0, .int .i64 0, .int .i64 0, .int .i64 0, .int .i64 0, .int .i64 0] tCo) = V) := ⟨_, rfl⟩
            have hvb0 : Vb0.heap[x2.heap.size]? = some (.cells (ta fun _ => 0) tCo (0, 0)) := HVb0.out ▸ h1_0 _ _
            have bvb0 : Below x2.heap.size x2 Vb0 := HVb0.out ▸ below_one _ _
            obtain ⟨Vb, HVb⟩ : ∃ V, Hid (Vb0.setRow x2.heap.size CL.toArray = V) := ⟨_, rfl⟩
            have hvb : Vb.heap[x2.heap.size]? = some (.cells CL.toArray tCo (0, 0)) := HVb.out ▸ setRow_at hvb0 _
            have bvb : Below x2.heap.size x2 Vb := HVb.out ▸ below_setRow bvb0 (Nat.le_refl _) _
            have HXB : Hid (Below wr.heap.size wr Vb) := keepB HXA.out (keepB hx2 bvb)
            clear hx2 bvb0 bvb hvb
            go_wp2_with (first
              | (refine wpList_store_row rfl tCo _ _ rfl x2.heap.size CL.toArray (by rfl) (by rfl) _ _ hvb0 hinf hold hone ?_)
              | (rw [HVb0.out])
              | (rw [HVb.out])
              | fail)
            go_wp2_with fail
            go_ret
            exact ⟨rfl, keepB (keepB HW.out.2.2.2 HX.out) HXB.out⟩
      · have q1 : (i : Int) < (N : Int) := by omega
        have q2 : (300 : Int) ≤ (i : Int) := by omega
        clear hi9 hlt hN
        obtain ⟨W5, hW5⟩ : ∃ y, y = wr := ⟨_, rfl⟩
        subst hW5
        go_wp2_with fail
        go_loopw [11, 12, 13, 14, 15] (fun kv _ _ _ _ wr => ∃ k : Nat, kv = .int .i64 (k : Int) ∧ Hid (k ≤ n) ∧ Hid (Below W5.heap.size W5 wr)) (fun kv _ _ _ _ _ => n + 1 - (intOf kv).toNat)
        case atStart => exact ⟨0, rfl, Nat.zero_le _, Below.refl _ _⟩
        case round =>
          obtain ⟨k, rfl, HKN, HX⟩ := hrel
          by_cases hkn : k < n
          · have HKL : Hid (k < n) := hkn
            have hrw := HW.out.2.2.1.below HX.out
            have HBA : Hid (∀ y, Below wr.heap.size wr y → BkT y y0.heap.size b1 g1 n TT ∧ BkT y y1.heap.size b2 g2 n TT ∧ Rw y g3 g3 n TT) := fun y hy => ⟨(HW.out.1.below HX.out).below hy, (HW.out.2.1.below HX.out).below hy, hrw.below hy⟩
            have hreq : TT k 0 = TT k 1 + TT k 2 := by rw [← HTT.out]; exact tot_req n k _
            have hp1 : 0 ≤ TT k 1 ∧ TT k 1 ≤ 1000000000000 := by
              have h9 := tot_hf n z (min N 300) (by rw [HT.out]; omega) k 1
              rw [← HT.out, done_end, HTT.out] at h9; exact h9
            have hp2 : 0 ≤ TT k 2 ∧ TT k 2 ≤ 1000000000000 := by
              have h9 := tot_hf n z (min N 300) (by rw [HT.out]; omega) k 2
              rw [← HT.out, done_end, HTT.out] at h9; exact h9
            have HC1 : Hid (∀ y, BkT y y0.heap.size b1 g1 n TT → Calls Try.prog 7 #[.pointer (some ⟨b1, 0, none⟩), .int .i64 (k : Int)] y fun e w' => e = .returned (.tuple #[.agg (ta (TT k)).toList.toArray, .int .i64 0]) ∧ Below y.heap.size y w') := fun y hy => counts_yes hy k HKL.out
            have HC2 : Hid (∀ y, BkT y y1.heap.size b2 g2 n TT → Calls Try.prog 7 #[.pointer (some ⟨b2, 0, none⟩), .int .i64 (k : Int)] y fun e w' => e = .returned (.tuple #[.agg (ta (TT k)).toList.toArray, .int .i64 0]) ∧ Below y.heap.size y w') := fun y hy => counts_yes hy k HKL.out
            have HRO : Hid (∀ y, Below wr.heap.size wr y → y.rangeAt g3 (k * 12) (ta (TT k)).toList) := fun y hy => (HBA.out y hy).2.2.rows k HKL.out
            have HEQ : Hid (∀ w, (Op.equalIn 10000 tCo (.agg (ta (TT k)).toList.toArray) (.agg (ta (TT k)).toList.toArray)).run Try.prog w = .ok true w) := fun w => equal_co (TT k) w
            obtain ⟨p, hp⟩ : ∃ p, TT k 1 = p := ⟨_, rfl⟩
            obtain ⟨q, hq⟩ : ∃ q, TT k 2 = q := ⟨_, rfl⟩
            rw [hp] at hreq hp1
            rw [hq] at hreq hp2
            have HCELL : Hid (∀ (y : World) (u : Nat), y.heap[u]? = some (.cells (ta (TT k)).toList.toArray tCo (0, 0)) → y.cell? ⟨u, 0, none⟩ = some (.int .i64 (p + q)) ∧ y.cell? ⟨u, 1, none⟩ = some (.int .i64 p) ∧ y.cell? ⟨u, 2, none⟩ = some (.int .i64 q)) := fun y u hu => by
              have h0 := (ta_cell hu 0 (by omega)).1
              have h1 := (ta_cell hu 1 (by omega)).1
              have h2 := (ta_cell hu 2 (by omega)).1
              rw [hreq] at h0
              rw [hp] at h1
              rw [hq] at h2
              exact ⟨h0, h1, h2⟩
            have hinf : (Try.prog.info? tCo).map (·.size) = some (ta (TT k)).toList.toArray.size := infoCo
            have hinl : (Try.prog.info? tCo).map (·.size) = some (ta (TT k)).toList.length := infoCo
            have hold : (ta fun _ => 0).size = (ta (TT k)).toList.toArray.size := rfl
            have hone : (ta (TT k)).toList.toArray.all (·.oneCell') = true := by simp [ta, Value.oneCell']
            obtain ⟨CL, HCL⟩ : ∃ CL, Hid ((ta (TT k)).toList = CL) := ⟨_, rfl⟩
            rw [HCL.out] at HC1 HC2 HRO HEQ HCELL hinf hinl hold hone
            have q1 : (k : Int) < (n : Int) := by omega
            have q2 : (0 : Int) ≤ (k : Int) := by omega
            have q3 : (k : Int) + 1 ≤ 9223372036854775807 := by have := HN.out; omega
            have q4 : -9223372036854775808 ≤ p + q := by omega
            have q5 : p + q ≤ 9223372036854775807 := by omega
            clear hkn hrw hreq hp1 hp2 hp hq
            go_wp2_with fail
            refine (HC1.out _ (HBA.out _ (Below.refl _ _)).1).mono ?_
            rintro e x1 ⟨rfl, hx1⟩
            obtain ⟨Va0, HVa0⟩ : ∃ V, Hid (x1.alloc (.cells #[.int .i64 0, .int .i64 0, .int .i64 0, .int .i64 0, .int .i64 0, .int .i64 0, .int .i64 0, .int .i64 0, .int .i64 0, .int .i64 0, .int .i64 0, .int .i64 0] tCo) = V) := ⟨_, rfl⟩
            have hva0 : Va0.heap[x1.heap.size]? = some (.cells (ta fun _ => 0) tCo (0, 0)) := HVa0.out ▸ h1_0 _ _
            have bva0 : Below x1.heap.size x1 Va0 := HVa0.out ▸ below_one _ _
            obtain ⟨Va, HVa⟩ : ∃ V, Hid (Va0.setRow x1.heap.size CL.toArray = V) := ⟨_, rfl⟩
            have hva : Va.heap[x1.heap.size]? = some (.cells CL.toArray tCo (0, 0)) := HVa.out ▸ setRow_at hva0 _
            have bva : Below x1.heap.size x1 Va := HVa.out ▸ below_setRow bva0 (Nat.le_refl _) _
            have hxa : Below wr.heap.size wr Va := keepB hx1 bva
            have HXA : Hid (Below wr.heap.size wr Va ∧ Va.heap[x1.heap.size]? = some (.cells CL.toArray tCo (0, 0))) := ⟨hxa, hva⟩
            clear hx1 bva0 bva hva hxa
            go_wp2_with (first
              | (refine wpList_store_row rfl tCo _ _ rfl x1.heap.size CL.toArray (by rfl) (by rfl) _ _ hva0 hinf hold hone ?_)
              | (rw [HVa0.out])
              | (rw [HVa.out])
              | fail)
            refine (HC2.out _ (HBA.out _ HXA.out.1).2.1).mono ?_
            rintro e x2 ⟨rfl, hx2⟩
            obtain ⟨Vb0, HVb0⟩ : ∃ V, Hid (x2.alloc (.cells #[.int .i64 0, .int .i64 0, .int .i64 0, .int .i64 0, .int .i64 0, .int .i64 0, .int .i64 0, .int .i64 0, .int .i64 0, .int .i64 0, .int .i64 0, .int .i64 0] tCo) = V) := ⟨_, rfl⟩
            have hvb0 : Vb0.heap[x2.heap.size]? = some (.cells (ta fun _ => 0) tCo (0, 0)) := HVb0.out ▸ h1_0 _ _
            have bvb0 : Below x2.heap.size x2 Vb0 := HVb0.out ▸ below_one _ _
            obtain ⟨Vb, HVb⟩ : ∃ V, Hid (Vb0.setRow x2.heap.size CL.toArray = V) := ⟨_, rfl⟩
            have hvb : Vb.heap[x2.heap.size]? = some (.cells CL.toArray tCo (0, 0)) := HVb.out ▸ setRow_at hvb0 _
            have bvb : Below x2.heap.size x2 Vb := HVb.out ▸ below_setRow bvb0 (Nat.le_refl _) _
            have hxb : Below wr.heap.size wr Vb := keepB HXA.out.1 (keepB hx2 bvb)
            have hxr := kept (keepB hx2 bvb) HXA.out.2
            have HXB : Hid (Below wr.heap.size wr Vb) := hxb
            obtain ⟨e0, e1, e2⟩ := HCELL.out Vb x1.heap.size hxr
            have hro := HRO.out Vb hxb
            have lr : x1.heap.size < Vb.heap.size := (Array.getElem?_eq_some_iff.1 hxr).1
            have lg : g3 < Vb.heap.size := (HBA.out Vb hxb).2.2.ltg
            clear hx2 bvb0 bvb hxb
            go_wp2_with (first
              | (refine wpList_store_row rfl tCo _ _ rfl x2.heap.size CL.toArray (by rfl) (by rfl) _ _ hvb0 hinf hold hone ?_)
              | (rw [HVb0.out])
              | (rw [HVb.out])
              | fail)
            refine Ql.region_cl (by kernel_rfl) (by kernel_rfl) ?_
            try dsimp only [Act.put]
            repeat (first | go_big_quiet_skip | (go_big_quiet_want; go_big_quiet_op; first | go_big_quiet_on | (refine ⟨_, fun _ _ => rfl, ?_⟩; go_big_quiet_on) | (refine ⟨_, fun _ _ => ⟨rfl, rfl⟩, ?_⟩; go_big_quiet_on)) | (refine wpQuiet_step (fun K hK => ?_); first
              | (refine Ql.q_row (by rfl) tCo _ rfl x1.heap.size rfl _ _ _ _ hxr Try.underlying30 rfl hinf (hK _ ?_); clear hK K; simp only [Act.put, List.setIfInBounds_toArray, List.set_cons_succ, List.set_cons_zero])
              | (refine Ql.q_row (by rfl) tCo _ rfl x2.heap.size rfl _ _ _ _ hvb Try.underlying30 rfl hinf (hK _ ?_); clear hK K; simp only [Act.put, List.setIfInBounds_toArray, List.set_cons_succ, List.set_cons_zero])
              | (refine q_mid (by rfl) tCo _ rfl _ _ rfl CL hro lg _ Try.underlying30 rfl hinl (hK _ ?_); clear hK K; simp only [Act.put, List.setIfInBounds_toArray, List.set_cons_succ, List.set_cons_zero])
              | (refine q_neq (by rfl) _ _ _ rfl CL.toArray (by rfl) (by rfl) HEQ.out (hK _ ?_); clear hK K; simp only [Act.put, List.setIfInBounds_toArray, List.set_cons_succ, List.set_cons_zero])
              | (refine Ql.q_cell (by rfl) 3 _ rfl x1.heap.size 0 rfl _ e0 lr (fun y => Try.isAgg3 y) (hK _ ?_); clear hK K; simp only [Act.put, List.setIfInBounds_toArray, List.set_cons_succ, List.set_cons_zero])
              | (refine Ql.q_cell (by rfl) 3 _ rfl x1.heap.size 1 rfl _ e1 lr (fun y => Try.isAgg3 y) (hK _ ?_); clear hK K; simp only [Act.put, List.setIfInBounds_toArray, List.set_cons_succ, List.set_cons_zero])
              | (refine Ql.q_cell (by rfl) 3 _ rfl x1.heap.size 2 rfl _ e2 lr (fun y => Try.isAgg3 y) (hK _ ?_); clear hK K; simp only [Act.put, List.setIfInBounds_toArray, List.set_cons_succ, List.set_cons_zero])
              | fail))
            refine wpQuiet_nil ?_
            intro x3 hx3
            have HX3 : Hid (Below W5.heap.size W5 x3) := keepB HX.out (keepB HXB.out hx3)
            clear hx3 hro hxr hvb e0 e1 e2
            go_wp2_with fail
            refine ⟨⟨k + 1, by simp, HKL.out, HX3.out⟩, ?_⟩
            have := HKL.out
            simp only [intOf]; omega
          · have hkn2 : k = n := by have := HKN.out; omega
            subst hkn2
            have HBA : Hid (∀ y, Below wr.heap.size wr y → BkT y y0.heap.size b1 g1 k TT) := fun y hy => (HW.out.1.below HX.out).below hy
            have HD1 : Hid (∀ y, Below wr.heap.size wr y → Calls Try.prog 7 #[.pointer (some ⟨b1, 0, none⟩), .int .i64 (k : Int)] y fun e w' => e = .returned (.tuple #[.agg (ta fun _ => 0).toList.toArray, .int .i64 40]) ∧ Below y.heap.size y w') := fun y hy => counts_no y b1 _ (fun y' hy' => has_top ((HBA.out y hy).below hy'))
            have HD2 : Hid (∀ y, Calls Try.prog 7 #[.pointer (some ⟨b1, 0, none⟩), .int .i64 (-1)] y fun e w' => e = .returned (.tuple #[.agg (ta fun _ => 0).toList.toArray, .int .i64 40]) ∧ Below y.heap.size y w') := fun y => counts_no y b1 _ (fun y' hy' => has_neg y' b1)
            have hinf : (Try.prog.info? tCo).map (·.size) = some (ta fun _ => 0).toList.toArray.size := infoCo
            have hold : (ta fun _ => 0).size = (ta fun _ => 0).toList.toArray.size := rfl
            have hone : (ta fun _ => 0).toList.toArray.all (·.oneCell') = true := by simp [ta, Value.oneCell']
            obtain ⟨CL, HCL⟩ : ∃ CL, Hid ((ta fun _ => 0).toList = CL) := ⟨_, rfl⟩
            rw [HCL.out] at HD1 HD2 hinf hold hone
            have q1 : (k : Int) ≤ (k : Int) := by omega
            clear hkn
            go_wp2_with fail
            refine (HD1.out _ (Below.refl _ _)).mono ?_
            rintro e x1 ⟨rfl, hx1⟩
            obtain ⟨Va0, HVa0⟩ : ∃ V, Hid (x1.alloc (.cells #[.int .i64 0, .int .i64 0, .int .i64 0, .int .i64 0, .int .i64 0, .int .i64 0, .int .i64 0, .int .i64 0, .int .i64 0, .int .i64 0, .int .i64 0, .int .i64 0] tCo) = V) := ⟨_, rfl⟩
            have hva0 : Va0.heap[x1.heap.size]? = some (.cells (ta fun _ => 0) tCo (0, 0)) := HVa0.out ▸ h1_0 _ _
            have bva0 : Below x1.heap.size x1 Va0 := HVa0.out ▸ below_one _ _
            obtain ⟨Va, HVa⟩ : ∃ V, Hid (Va0.setRow x1.heap.size CL.toArray = V) := ⟨_, rfl⟩
            have hva : Va.heap[x1.heap.size]? = some (.cells CL.toArray tCo (0, 0)) := HVa.out ▸ setRow_at hva0 _
            have bva : Below x1.heap.size x1 Va := HVa.out ▸ below_setRow bva0 (Nat.le_refl _) _
            have HXA : Hid (Below wr.heap.size wr Va) := keepB hx1 bva
            clear hx1 bva0 bva hva
            go_wp2_with (first
              | (refine wpList_store_row rfl tCo _ _ rfl x1.heap.size CL.toArray (by rfl) (by rfl) _ _ hva0 hinf hold hone ?_)
              | (rw [HVa0.out])
              | (rw [HVa.out])
              | fail)
            refine (HD2.out _).mono ?_
            rintro e x2 ⟨rfl, hx2⟩
            obtain ⟨Vb0, HVb0⟩ : ∃ V, Hid (x2.alloc (.cells #[.int .i64 0, .int .i64 0, .int .i64 0, .int .i64 0, .int .i64 0, .int .i64 0, .int .i64 0, .int .i64 0, .int .i64 0, .int .i64 0, .int .i64 0, .int .i64 0] tCo) = V) := ⟨_, rfl⟩
            have hvb0 : Vb0.heap[x2.heap.size]? = some (.cells (ta fun _ => 0) tCo (0, 0)) := HVb0.out ▸ h1_0 _ _
            have bvb0 : Below x2.heap.size x2 Vb0 := HVb0.out ▸ below_one _ _
            obtain ⟨Vb, HVb⟩ : ∃ V, Hid (Vb0.setRow x2.heap.size CL.toArray = V) := ⟨_, rfl⟩
            have hvb : Vb.heap[x2.heap.size]? = some (.cells CL.toArray tCo (0, 0)) := HVb.out ▸ setRow_at hvb0 _
            have bvb : Below x2.heap.size x2 Vb := HVb.out ▸ below_setRow bvb0 (Nat.le_refl _) _
            have HXB : Hid (Below wr.heap.size wr Vb) := keepB HXA.out (keepB hx2 bvb)
            clear hx2 bvb0 bvb hvb
            go_wp2_with (first
              | (refine wpList_store_row rfl tCo _ _ rfl x2.heap.size CL.toArray (by rfl) (by rfl) _ _ hvb0 hinf hold hone ?_)
              | (rw [HVb0.out])
              | (rw [HVb.out])
              | fail)
            go_wp2_with fail
            go_ret
            exact ⟨rfl, keepB (keepB HW.out.2.2.2 HX.out) HXB.out⟩
end Go.Proofs.Yteaanenhefbkjaa.Tw
