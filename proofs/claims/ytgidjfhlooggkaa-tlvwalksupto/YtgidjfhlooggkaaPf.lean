/- The document's Print. -/
import Derived.Test.YtgidjfhlooggkaaPd
namespace Go.Proofs.Ytgidjfhlooggkaa.Pf
set_option linter.unusedVariables false
set_option linter.unusedSimpArgs false
open Go.RowKit Kb Ga Gb Gc Gd Nt Gf Gg Nb Rn Wk Pd Bd Pn
theorem steps_rd {w : World} : ∀ (d : Nat) (ts : List AT), rdL w ts → ∀ x ∈ steps d ts, x.2.val.size ≤ 1048576 ∧ tagB x.2.tag ∧ d ≤ x.1 ∧ x.1 ≤ d + dep ts ∧ ∃ ko kl kc, x.2.kv = .slice ko kl kc
  | d, [], _, x, hx => by simp [steps] at hx
  | d, .mk t v kv ks :: ts, h, x, hx => by
    unfold rdL at h
    simp only [steps, List.mem_cons, List.mem_append] at hx
    simp only [dep]
    rcases hx with rfl | hx | hx
    · obtain ⟨ko, kc, e⟩ := kv_form h.1.1
      exact ⟨h.1.2.2.1, h.1.2.2.2, Nat.le_refl _, Nat.le_add_right _ _, ko, _, kc, e⟩
    · have := steps_rd (d + 1) ks h.1.2.1 x hx
      exact ⟨this.1, this.2.1, by omega, by omega, this.2.2.2.2⟩
    · have := steps_rd d ts h.2 x hx
      exact ⟨this.1, this.2.1, by omega, by omega, this.2.2.2.2⟩
theorem tgS_le3 (t : Int) : tgS t ≤ 3 := by
  unfold tgS
  split
  · omega
  · split
    · omega
    · split
      · omega
      · split <;> omega
theorem tgS_ge (t : Int) : 0 ≤ tgS t := by
  unfold tgS
  split
  · omega
  · split
    · omega
    · split
      · omega
      · split <;> omega
theorem rep_snoc (l : List UInt8) : ∀ n, Lib.repeatL l (n + 1) = Lib.repeatL l n ++ l
  | 0 => by simp [Lib.repeatL]
  | n + 1 => by
    have := rep_snoc l n
    show l ++ Lib.repeatL l (n + 1) = l ++ Lib.repeatL l n ++ l
    rw [this, List.append_assoc]
theorem cat_l (a b : List UInt8) : (⟨a.toArray⟩ : ByteArray) ++ ⟨b.toArray⟩ = ⟨(a ++ b).toArray⟩ := by
  apply ByteArray.ext
  simp
theorem ba_of (s : ByteArray) : s = ⟨s.data.toList.toArray⟩ := by
  apply ByteArray.ext
  simp
theorem prS_take (L : List El) (i : Nat) (h : i < L.length) : prS (L.take (i + 1)) = prS (L.take i) ++ lnE L[i].1 L[i].2.tag L[i].2.val := by
  rw [List.take_succ_eq_append_getElem h, prS_snoc]
theorem size_mk (l : List UInt8) : (⟨l.toArray⟩ : ByteArray).size = l.length := by
  show l.toArray.size = _
  simp
set_option maxRecDepth 100000 in
set_option maxHeartbeats 6400000 in
theorem print_doc (ts : List AT) (v : Value) (w : World) (hr : Rdn w v ts) (hL : (steps 1 ts).length ≤ 1000) (hd : dep ts ≤ 1000) :
    Calls Try.prog 27 #[v] w fun e w' => e = .returned (.string ⟨(prS (steps 1 ts)).toArray⟩) ∧ Below w.heap.size w w' := by
  have ca := Al.all_ref ts v w hr hL hd
  have HM : Hid (∀ x ∈ steps 1 ts, x.2.val.size ≤ 1048576 ∧ tagB x.2.tag ∧ 1 ≤ x.1 ∧ x.1 ≤ 1001 ∧ ∃ ko kl kc, x.2.kv = .slice ko kl kc) := fun x hx => by
    have := steps_rd 1 ts hr.kids x hx
    exact ⟨this.1, this.2.1, this.2.2.1, by omega, this.2.2.2.2⟩
  obtain ⟨o, cap, e, hN, -⟩ := hr.row
  obtain ⟨N, HN⟩ : ∃ N : Nat, Hid (ts.length = N) := ⟨_, rfl⟩
  rw [HN.out] at e
  subst e
  generalize steps 1 ts = L at *
  clear hr hN
  go_enter Try.func27, Try.ntmps27
  go_wp2_with fail
  refine ca.mono ?_
  clear ca
  rintro _ y ⟨sv, rfl, hrow, -, hy⟩
  obtain ⟨so, sc, rfl⟩ := Al.formN hrow
  obtain ⟨M, HML, hM⟩ : ∃ M, Hid (L.length = M) ∧ M ≤ 1000 := ⟨_, rfl, hL⟩
  have HROW : Hid (World.ownsRow y w.heap.size 49 4 (.slice so L.length sc) L.length (Al.sc L)) := hrow
  have HY : Hid (Below w.heap.size w y) := hy
  rw [HML.out]
  clear hrow hy hL
  go_wp2
  go_loopw [4, 5] (fun vs vi wr => ∃ (i : Nat) (D : ByteArray), i ≤ M ∧ vi = .int .i64 (i : Int) ∧ vs = .string D ∧ D.size ≤ 8388608 * i ∧ Hid (D = ⟨(prS (L.take i)).toArray⟩ ∧ Below y.heap.size y wr)) (fun _ vi _ => M - (intOf vi).toNat)
  case atStart => exact ⟨0, ⟨#[]⟩, Nat.zero_le _, rfl, rfl, Nat.le_refl 0, by simp [prS], Below.refl _ _⟩
  case round =>
    obtain ⟨i, D, hi, rfl, rfl, hD, HI⟩ := hrel
    rename World => wr
    have hwr := HI.out.2
    by_cases hlt : i < M
    case neg =>
      have hlt' : ¬ (i : Int) < (M : Int) := by omega
      have HE : Hid (D = ⟨(prS L).toArray⟩) := by show _ = _; rw [HI.out.1, List.take_of_length_le (by rw [HML.out]; omega)]
      have HB : Hid (Below w.heap.size w wr) := keepB HY.out hwr
      clear hwr HI
      go_wp2
      go_ret
      exact ⟨by rw [← HE.out]; rfl, HB.out⟩
    have hlt' : (i : Int) < (M : Int) := by omega
    have hiL : i < L.length := by rw [HML.out]; exact hlt
    obtain ⟨m1, m2, m3, m4, m5⟩ := HM.out L[i] (List.getElem_mem hiL)
    have hrow := HROW.out
    obtain ⟨gs, rfl⟩ : ∃ gs, so = some ⟨gs, 0, none⟩ := by
      rcases hrow.2 with ⟨e, hz⟩ | ⟨g, c2, cur, e, _⟩
      · omega
      · injection e with e1 e2 e3; exact ⟨g, e1⟩
    have rowr := owns_keep hrow fun q hq => hwr.block q (hrow.lt q hq).2
    obtain ⟨s0, s1, s2, s3⟩ := step_cells rowr i hiL
    have hpt := prS_take L i hiL
    obtain ⟨x, hx⟩ : ∃ x, x = L[i] := ⟨_, rfl⟩
    rw [← hx] at m1 m2 m3 m4 m5 s0 s1 s2 s3 hpt
    obtain ⟨dp, ax⟩ := x
    cases ax with
    | mk tag val kv ks =>
    simp only [AT.tag, AT.val, AT.kv] at m1 m2 m3 m4 m5 s0 s1 s2 s3 hpt
    unfold tagB at m2
    obtain ⟨ko, KL, kc, rfl⟩ := m5
    have hM1 : i * 4 + 4 ≤ 4000 := by omega
    have HPT : Hid (prS (L.take (i + 1)) = prS (L.take i) ++ lnE dp tag val) := hpt
    have HWR : Hid (Below y.heap.size y wr) := hwr
    have HDE : Hid (D = ⟨(prS (L.take i)).toArray⟩) := HI.out.1
    have b1 := below_one wr (.cells #[.int .i64 tag, .string val, .slice ko KL kc] 40)
    have n1 := h1_0 wr (.cells #[.int .i64 tag, .string val, .slice ko KL kc] 40)
    have c0 := (b1.cell (World.block_lt_of_cell? wr _ s0)).trans s0
    clear hpt hwr HI hx hrow rowr ks
    go_wp2
    obtain ⟨d0, d1, d2⟩ := Bd.cell3 n1
    have HB1 : Hid (Below y.heap.size y (wr.alloc (.cells #[.int .i64 tag, .string val, .slice ko KL kc] 40))) := keepB HWR.out b1
    clear s1 s2 s3 n1 b1 s0
    generalize wr.alloc (.cells #[.int .i64 tag, .string val, .slice ko KL kc] 40) = W at *
    go_loopw [4, 7] (fun vs vj x => ∃ (j : Nat) (E : ByteArray), 1 ≤ j ∧ j ≤ dp ∧ vj = .int .i64 (j : Int) ∧ vs = .string E ∧ E.size ≤ 8388608 * i + 2 * j ∧ Hid (E = ⟨(prS (L.take i) ++ Lib.repeatL [32, 32] (j - 1)).toArray⟩ ∧ x = W)) (fun _ vj _ => dp - (intOf vj).toNat)
    case atStart => exact ⟨1, D, Nat.le_refl _, m3, rfl, rfl, by omega, by rw [HDE.out]; simp [Lib.repeatL], rfl⟩
    case round =>
      obtain ⟨j, E, hj1, hj, rfl, rfl, hE, HE⟩ := hrel
      rename World => x
      obtain ⟨he, rfl⟩ := HE.out
      by_cases hjl : j < dp
      case pos =>
        have hjl' : (j : Int) < (dp : Int) := by omega
        have HE2 : Hid (E ++ ⟨#[32, 32]⟩ = ⟨(prS (L.take i) ++ Lib.repeatL [32, 32] j).toArray⟩) := by
          show _ = _
          obtain ⟨k, rfl⟩ : ∃ k, j = k + 1 := ⟨j - 1, by omega⟩
          rw [he, rep_snoc, ← List.append_assoc]
          exact cat_l _ _
        clear he HE
        go_wp2
        exact ⟨⟨j + 1, _, by omega, by omega, by go_num, rfl, by rw [ByteArray.size_append]; show _ + 2 ≤ _; omega, HE2.out, by first | trivial | rfl⟩, by simp [intOf]; omega⟩
      case neg =>
        obtain rfl : j = dp := by omega
        have hjl' : ¬ (j : Int) < (j : Int) := by omega
        have HE2 : Hid (E = ⟨(prS (L.take i) ++ Lib.repeatL [32, 32] (j - 1)).toArray⟩) := he
        have ct := Mr.tag_ref tag x m2.1 m2.2
        clear he HE
        go_wp2_with fail
        refine ct.mono ?_
        rintro _ z ⟨rfl, rfl⟩
        clear ct
        by_cases hp : 0 < tgS tag
        · have HSg : Hid (sgn tag = Lib0.hexL (tgB tag)) := by show _ = _; unfold sgn; rw [if_pos hp]
          obtain ⟨B, HB⟩ : ∃ B : Nat, Hid (tgS tag = (B : Int)) := ⟨(tgS tag).toNat, by show _ = _; omega⟩
          have hnb := Wn.nB_tg tag hp
          have hB3 : B ≤ 3 := by
            have := tgS_le3 tag
            rw [HB.out] at this
            omega
          have hB1 : (B : Int) ≠ 0 := by rw [← HB.out]; omega
          have ht0 : 0 ≤ tag := by
            rcases Int.lt_or_le tag 0 with h | h
            · unfold tgS at hp; rw [if_pos (by omega)] at hp; omega
            · exact h
          rw [HB.out] at hnb ⊢
          have cn := number_doc tag B z ht0 m2.2 (by omega)
          rw [show (B : Int).toNat = B by omega] at hnb
          rw [hnb] at cn
          clear hp hnb
          have hB1' : ((B : Int) == 0) = false := by simpa using hB1
          go_wp2_with fail
          refine cn.mono ?_
          rintro _ q1 ⟨rfl, bq1⟩
          have htl := Nb.tgB_len tag
          have ch := hex_doc ⟨(tgB tag).toArray⟩ q1 (by rw [size_mk]; omega)
          go_wp2_with fail
          refine ch.mono ?_
          rintro _ Q ⟨rfl, bq⟩
          have BQ : Hid (Below z.heap.size z Q) := keepB bq1 bq
          have hhz : (⟨(Lib0.hexL (tgB tag)).toArray⟩ : ByteArray).size ≤ 6 := by rw [size_mk, Lib0.hexL_length]; omega
          have hhz2 : (Lib0.hexL (tgB tag)).length ≤ 6 := by rw [Lib0.hexL_length]; omega
          clear cn ch bq1 bq
          have HS : Hid (E ++ ⟨(Lib0.hexL (tgB tag)).toArray⟩ = ⟨(prS (L.take i) ++ Lib.repeatL [32, 32] (j - 1) ++ sgn tag).toArray⟩) := by
            show _ = _
            rw [HE2.out, HSg.out]
            exact cat_l _ _
          have hS : (E ++ ⟨(Lib0.hexL (tgB tag)).toArray⟩ : ByteArray).size ≤ 8388608 * i + 2 * j + 6 := by rw [ByteArray.size_append]; omega
          have d1q : Q.cell? ⟨wr.heap.size, 1, none⟩ = some (.string val) := (BQ.out.cell (World.block_lt_of_cell? z _ d1)).trans d1
          by_cases hv0 : val.size = 0
          · have HV : Hid (vlB val = []) := by show _ = _; unfold vlB; rw [if_pos hv0]
            obtain rfl := Ls.size0 hv0
            clear hv0
            go_wp2
            refine ⟨⟨i + 1, _, by omega, by go_num, rfl, by simp only [ByteArray.size_append] at hS ⊢; show _ + 1 ≤ _; omega, ?_, keepB HB1.out BQ.out⟩, by simp [intOf]; omega⟩
            rw [HPT.out, HS.out]
            unfold lnE
            rw [HV.out, List.append_nil]
            simp only [← List.append_assoc]
            exact cat_l _ _
          · have HV : Hid (vlB val = 32 :: Lib0.hexL val.data.toList) := by show _ = _; unfold vlB; rw [if_neg hv0]
            have hne : val.toList.isEmpty = false := by rw [ByteArray.toList_eq, List.isEmpty_eq_false_iff]; exact fun h => hv0 (by have := congrArg List.length h; simpa using this)
            have chv := hex_doc val Q m1
            have hhl : (⟨(Lib0.hexL val.data.toList).toArray⟩ : ByteArray).size ≤ 2097152 := by rw [size_mk, Lib0.hexL_length]; simp; omega
            have hhl2 : (Lib0.hexL val.data.toList).length ≤ 2097152 := by rw [Lib0.hexL_length]; simp; omega
            go_wp2_with fail
            refine chv.mono ?_
            rintro _ q2 ⟨rfl, bq2⟩
            go_wp2
            refine ⟨⟨i + 1, _, by omega, by go_num, rfl, by simp only [ByteArray.size_append] at hS ⊢; show _ + _ + 1 + _ + 1 ≤ _; omega, ?_, keepB (keepB HB1.out BQ.out) bq2⟩, by simp [intOf]; omega⟩
            rw [HPT.out, HS.out]
            unfold lnE
            rw [HV.out]
            refine (congrArg (fun u => u ++ (⟨#[10]⟩ : ByteArray)) ((congrArg (fun u => u ++ _) (cat_l _ [32])).trans (cat_l _ _))).trans ((cat_l _ [10]).trans ?_)
            simp only [List.append_assoc, List.cons_append, List.nil_append]
        · have HSg : Hid (sgn tag = [63]) := by show _ = _; unfold sgn; rw [if_neg hp]
          have h00 := tgS_ge tag
          have ht : tgS tag = 0 := by omega
          rw [ht]
          have HS : Hid (E ++ ⟨#[63]⟩ = ⟨(prS (L.take i) ++ Lib.repeatL [32, 32] (j - 1) ++ sgn tag).toArray⟩) := by
            show _ = _
            rw [HE2.out, HSg.out]
            exact cat_l _ _
          have hS : (E ++ ⟨#[63]⟩ : ByteArray).size ≤ 8388608 * i + 2 * j + 6 := by rw [ByteArray.size_append]; show _ + 1 ≤ _; omega
          clear hp ht
          by_cases hv0 : val.size = 0
          · have HV : Hid (vlB val = []) := by show _ = _; unfold vlB; rw [if_pos hv0]
            obtain rfl := Ls.size0 hv0
            clear hv0
            go_wp2
            refine ⟨⟨i + 1, _, by omega, by go_num, rfl, by simp only [ByteArray.size_append] at hS ⊢; show _ + 1 ≤ _; omega, ?_, HB1.out⟩, by simp [intOf]; omega⟩
            rw [HPT.out, HS.out]
            unfold lnE
            rw [HV.out, List.append_nil]
            simp only [← List.append_assoc]
            exact cat_l _ _
          · have HV : Hid (vlB val = 32 :: Lib0.hexL val.data.toList) := by show _ = _; unfold vlB; rw [if_neg hv0]
            have hne : val.toList.isEmpty = false := by rw [ByteArray.toList_eq, List.isEmpty_eq_false_iff]; exact fun h => hv0 (by have := congrArg List.length h; simpa using this)
            have chv := hex_doc val z m1
            have hhl : (⟨(Lib0.hexL val.data.toList).toArray⟩ : ByteArray).size ≤ 2097152 := by rw [size_mk, Lib0.hexL_length]; simp; omega
            have hhl2 : (Lib0.hexL val.data.toList).length ≤ 2097152 := by rw [Lib0.hexL_length]; simp; omega
            go_wp2_with fail
            refine chv.mono ?_
            rintro _ q2 ⟨rfl, bq2⟩
            go_wp2
            refine ⟨⟨i + 1, _, by omega, by go_num, rfl, by simp only [ByteArray.size_append] at hS ⊢; show _ + _ + 1 + _ + 1 ≤ _; omega, ?_, keepB (HB1.out) bq2⟩, by simp [intOf]; omega⟩
            rw [HPT.out, HS.out]
            unfold lnE
            rw [HV.out]
            refine (congrArg (fun u => u ++ (⟨#[10]⟩ : ByteArray)) ((congrArg (fun u => u ++ _) (cat_l _ [32])).trans (cat_l _ _))).trans ((cat_l _ [10]).trans ?_)
            simp only [List.append_assoc, List.cons_append, List.nil_append]
end Go.Proofs.Ytgidjfhlooggkaa.Pf
