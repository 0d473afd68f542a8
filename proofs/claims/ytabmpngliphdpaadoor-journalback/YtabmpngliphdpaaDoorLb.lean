/- the law's some: those of the first entries that fit for sure. -/
import Derived.Test.YtabmpngliphdpaaDoorLa
namespace Go.Proofs.YtabmpngliphdpaaDoor.Lb
set_option linter.unusedVariables false
set_option linter.unusedSimpArgs false
open Go.RowKit Go.Shelf Go.Conc Lib0 Kb Ji Jj Jn Ke Kf Km Ko La
attribute [local go_sem] Oper.semAt_some
/-- an entry's size, as the law tells it -/
def sumB : List Ou → Nat
  | [] => 0
  | y :: t => y.b.size + sumB t
def tot (x : En) : Nat := x.t.size + 100 * x.L.length + sumB x.L
def sm (x : En) : Bool := decide (tot x < 1000000)
/-- it came in -/
def Rw (x : En) : Prop := (i64in x.k ∧ i64in x.l ∧ i64in x.n ∧ x.t.size ≤ 140737488355328) ∧ (∀ y ∈ x.L, (i64in y.k ∧ i64in y.l ∧ i64in y.c ∧ i64in y.a) ∧ y.b.size ≤ 140737488355328) ∧ x.L.length ≤ 140737488355328
theorem rw_ok {x : En} (h : Rw x) : x.ok := ⟨⟨h.1.1, h.1.2.1, h.1.2.2.1, Nat.le_trans h.1.2.2.2 (by decide)⟩, fun y hy => ⟨(h.2.1 y hy).1.1, (h.2.1 y hy).1.2.1, (h.2.1 y hy).1.2.2.1, (h.2.1 y hy).1.2.2.2, Nat.le_trans (h.2.1 y hy).2 (by decide)⟩, Nat.le_trans h.2.2 (by decide)⟩
theorem encT_le (s : ByteArray) : (encT s).length ≤ 10 + s.size := by
  unfold encT
  have h1 := encN_len (s.size : Int)
  rw [List.length_append, ← size_list, ByteArray.size_extract]
  omega
theorem outsL_le : ∀ (L : List Ou) (acc : List UInt8), (outsL L acc).length ≤ acc.length + 50 * L.length + sumB L
  | [], acc => by simp [outsL, sumB]
  | x :: t, acc => by
    rw [outsL]
    split
    · omega
    · have h1 := outsL_le t (acc ++ encO x)
      have h2 := encL_len [x.k, x.l, x.c, x.a]
      have h3 := encT_le x.b
      have h4 : (encO x).length ≤ 50 + x.b.size := by
        unfold encO; rw [List.length_append]; simp only [List.length_cons, List.length_nil] at h2; omega
      rw [List.length_append] at h1
      rw [List.length_cons, sumB]
      omega
theorem sm_fits {x : En} (h : sm x = true) : Fits x := by
  have h0 : tot x < 1000000 := of_decide_eq_true h
  unfold tot at h0
  unfold Fits
  rw [En.body_size]
  have h1 := outsL_le x.L (headE x.k x.l x.n x.t x.L.length)
  have h2 := encL_len [x.k, x.l, x.n]
  have h3 := encT_le x.t
  have h4 := encN_len (x.L.length : Int)
  have h5 : (headE x.k x.l x.n x.t x.L.length).length ≤ 50 + x.t.size := by
    unfold headE; rw [List.length_append, List.length_append]; simp only [List.length_cons, List.length_nil] at h2; omega
  unfold bodyE
  omega
theorem sumB_take : ∀ (L : List Ou) (k : Nat) (h : k < L.length), sumB (L.take (k + 1)) = sumB (L.take k) + L[k].b.size
  | [], k, h => by simp at h
  | x :: L, 0, h => by simp [sumB]
  | x :: L, k + 1, h => by
    rw [List.take_succ_cons, List.take_succ_cons, sumB, sumB, sumB_take L k (by simpa using h)]
    simp only [List.getElem_cons_succ]
    omega
theorem sumB_ge : ∀ (L : List Ou) (k : Nat), sumB (L.take k) ≤ sumB L
  | [], k => by simp
  | x :: L, 0 => by simp [sumB]
  | x :: L, k + 1 => by
    rw [List.take_succ_cons, sumB, sumB]
    have := sumB_ge L k
    omega
/-- those that are taken -/
def kept40 (Es : List EV) : List EV := (Es.take 40).filter fun e => sm e.1
def ecsL (Es : List EV) : List Value := Es.flatMap ecs
theorem infoE3 : (Tryd.prog.info? tEn).map (fun i => (i.zero, i.size, i.bytes)) = some (some (.agg #[.int .i64 0, .int .i64 0, .int .i64 0, .string ⟨#[]⟩, .slice none 0 0]), 5, 64) := by kernel_rfl
set_option maxRecDepth 100000 in
set_option maxHeartbeats 1600000 in
theorem some_any (w : World) (v : Value) (Es : List EV) (hv : RowE w v Es) (hR : ∀ e ∈ Es, Rw e.1) (hN : Es.length ≤ 140737488355328) :
    Calls Tryd.prog 28 #[v, .int .i64 40] w fun e w' => ∃ v', e = .returned v' ∧ w'.ownsRow w.heap.size tEn 5 v' (kept40 Es).length (ecsL (kept40 Es)) ∧ Below w.heap.size w w' := by
  obtain ⟨io, hio, hz0, hz1, hz2⟩ := info_parts infoE3
  obtain ⟨o, cap, rfl, hc⟩ := hv
  obtain ⟨N, HN⟩ : ∃ N, Hid (Es.length = N) := ⟨_, rfl⟩
  rw [HN.out] at hN ⊢
  have HC : Hid (∀ i (h : i < Es.length), (∃ a : Addr, o = some a ∧ ∀ j u, (ecs Es[i])[j]? = some u → w.cell? ((a.add (i * 5)).add j) = some u) ∧ RowO w Es[i].2 Es[i].1.L) := hc
  have HR : Hid (∀ e ∈ Es, Rw e.1) := hR
  have HNB : Hid (N ≤ 140737488355328) := hN
  clear hc hR hN
  go_enter Tryd.func28, Tryd.ntmps28
  go_wp2_with fail
  go_loopw [5, 6] (fun ov iv wr => ∃ i : Nat, iv = .int .i64 (i : Int) ∧ Hid (i ≤ N ∧ i ≤ 40) ∧ Hid (Below w.heap.size w wr) ∧ Hid (∃ D, (D = (Es.take i).filter fun e => sm e.1) ∧ wr.ownsRow w.heap.size tEn 5 ov D.length (ecsL D))) (fun _ iv _ => 41 - (intOf iv).toNat)
  case atStart => exact ⟨0, rfl, ⟨Nat.zero_le _, by decide⟩, Below.refl _ _, ⟨[], by simp, World.ownsRow_nil _ _ _ _⟩⟩
  case round =>
    obtain ⟨i, rfl, HI, HB, HO⟩ := hrel
    by_cases hin : i < N ∧ i < 40
    · obtain ⟨hiN, hi40⟩ := hin
      have hiE : i < Es.length := by rw [HN.out]; exact hiN
      obtain ⟨⟨a, rfl, hce⟩, hro⟩ := HC.out i hiE
      have hrw := HR.out _ (List.getElem_mem hiE)
      obtain ⟨⟨x, vo⟩, hx⟩ : ∃ e, Es[i] = e := ⟨_, rfl⟩
      rw [hx] at hce hro hrw
      dsimp only at hro hrw
      obtain ⟨oo, cpo, hvo, hroc⟩ := hro
      subst hvo
      obtain ⟨R, HRR⟩ : ∃ R, Hid (x.L.length = R) := ⟨_, rfl⟩
      obtain ⟨ap, hap⟩ : ∃ ap, a.add (i * 5) = ap := ⟨_, rfl⟩
      rw [hap] at hce
      rw [HRR.out] at hce
      have hcw : ∀ wi, Below w.heap.size w wi → ∀ j u, [Value.int .i64 x.k, .int .i64 x.l, .int .i64 x.n, .string x.t, .slice oo R cpo][j]? = some u → wi.cell? (ap.add j) = some u := fun wi hb j u hu => by
        have h9 := hce j u hu
        exact (hb.cell (World.block_lt_of_cell? _ _ h9)).trans h9
      have HCW : Hid (∀ wi, Below w.heap.size w wi → ∀ j u, [Value.int .i64 x.k, .int .i64 x.l, .int .i64 x.n, .string x.t, .slice oo R cpo][j]? = some u → wi.cell? (ap.add j) = some u) := hcw
      have HRO : Hid (∀ i (h : i < x.L.length), ∃ a : Addr, oo = some a ∧ ∀ j u, (x.L[i].cs)[j]? = some u → w.cell? ((a.add (i * 5)).add j) = some u) := hroc
      have HRW : Hid (Rw x) := hrw
      have HX : Hid (Es[i] = (x, .slice oo x.L.length cpo)) := hx
      have HAP : Hid (a.add (i * 5) = ap) := hap
      obtain ⟨D, hD, hown⟩ := HO.out
      have HD : Hid (((Es.take i).filter fun e => sm e.1) = D) := hD.symm
      have HDl : Hid (D.length ≤ 40) := by
        have h1 := List.length_filter_le (fun e : EV => sm e.1) (Es.take i)
        show D.length ≤ 40
        rw [hD]
        rw [List.length_take] at h1
        omega
      have c3 : wr.cell? ⟨ap.block, ap.off + 3, none⟩ = some (.string x.t) := hcw wr HB.out 3 _ rfl
      have c4 : wr.cell? ⟨ap.block, ap.off + 4, none⟩ = some (.slice oo R cpo) := hcw wr HB.out 4 _ rfl
      have q1 : (i : Int) < (N : Int) := by omega
      have q2 : (i : Int) < 40 := by omega
      have q3 : (0 : Int) ≤ (i : Int) := by omega
      obtain ⟨T, HT⟩ : ∃ T, Hid (x.t.size = T) := ⟨_, rfl⟩
      have hTb : T ≤ 140737488355328 := by have h1 := hrw.1.2.2.2; have h2 := HT.out; omega
      have hRb : R ≤ 140737488355328 := by have h1 := hrw.2.2; have h2 := HRR.out; omega
      have q4 : (x.t.size : Int) = (T : Int) := by rw [HT.out]
      have q5 : (100 : Int) * (R : Int) ≤ 9223372036854775807 := by omega
      have q6 : (T : Int) + 100 * (R : Int) ≤ 9223372036854775807 := by omega
      have HOW : Hid (wr.ownsRow w.heap.size tEn 5 u5 D.length (ecsL D)) := hown
      have HBD : Hid (T ≤ 140737488355328 ∧ R ≤ 140737488355328) := ⟨hTb, hRb⟩
      clear hce hcw hroc hrw hD hown hTb hRb HO hx
      go_wp2_with fail
      go_quiet (fail)
      have HB5 : Hid (Below w.heap.size w (wr.drewN nq)) := HB.out.trans ((below_drewN (Below.refl _ wr) nq).mono HB.out.size)
      have HO5 : Hid ((wr.drewN nq).ownsRow w.heap.size tEn 5 u5 D.length (ecsL D)) := HOW.out
      have HIE : Hid (i < Es.length) := hiE
      have HQ : Hid ((T : Int) + 100 * (R : Int) = ((T + 100 * R : Nat) : Int)) := by show _ = _; omega
      clear c3 c4 q5 q6 hap HOW
      go_wp2_with fail
      go_loopw [7, 8] (fun nv kv wi => ∃ k n : Nat, nv = .int .i64 (n : Int) ∧ kv = .int .i64 (k : Int) ∧ Hid (k ≤ R ∧ n = T + 100 * R + sumB (x.L.take k) ∧ n ≤ 14214636241867776 + 140737488355328 + 1000000) ∧ Hid (Below w.heap.size w wi) ∧ Hid (wi.ownsRow w.heap.size tEn 5 u5 D.length (ecsL D))) (fun _ kv _ => R - (intOf kv).toNat)
      case atStart =>
        refine ⟨0, T + 100 * R, ?_, rfl, ⟨Nat.zero_le _, by simp [sumB], by have := HBD.out; omega⟩, HB5.out, HO5.out⟩
        rw [← HQ.out]
      case round =>
        obtain ⟨k, n, rfl, rfl, HK, HBi, HOi⟩ := hrel
        rename World => wi
        have hci := HCW.out wi HBi.out
        have c4 : wi.cell? ⟨ap.block, ap.off + 4, none⟩ = some (.slice oo R cpo) := hci 4 _ rfl
        have hap := HAP.out
        have hnb := HK.out.2.2
        have htot : tot x = T + 100 * R + sumB x.L := by unfold tot; rw [HT.out, HRR.out]
        by_cases hkR : k < R
        · have q7 : (k : Int) < (R : Int) := by omega
          by_cases hn : n < 1000000
          · have hkE : k < x.L.length := by rw [HRR.out]; exact hkR
            obtain ⟨ao, rfl, hco⟩ := HRO.out k hkE
            have hst := sumB_take x.L k hkE
            have hyb := (HRW.out.2.1 _ (List.getElem_mem hkE)).2
            obtain ⟨⟨yk, yl, yc, ya, yb⟩, hy⟩ : ∃ y, x.L[k] = y := ⟨_, rfl⟩
            rw [hy] at hco hst hyb
            dsimp only at hst hyb
            obtain ⟨p2, hp2⟩ : ∃ p2, ao.add (k * 5) = p2 := ⟨_, rfl⟩
            rw [hp2] at hco
            have c5 : wi.cell? ⟨p2.block, p2.off + 4, none⟩ = some (.string yb) := by
              have h9 := hco 4 _ rfl
              exact (HBi.out.cell (World.block_lt_of_cell? _ _ h9)).trans h9
            have q8 : (n : Int) < 1000000 := by omega
            have q9 : (0 : Int) ≤ (k : Int) := by omega
            have q10 : (n : Int) + (yb.size : Int) ≤ 9223372036854775807 := by omega
            have q11 : (k : Int) + 1 ≤ 9223372036854775807 := by have := HBD.out; omega
            have HNX : Hid (k + 1 ≤ R ∧ n + yb.size = T + 100 * R + sumB (x.L.take (k + 1)) ∧ n + yb.size ≤ 14214636241867776 + 140737488355328 + 1000000) := ⟨hkR, by have := HK.out.2.1; omega, by omega⟩
            clear hco hst hyb hci htot hy hkE
            go_wp2_with fail
            exact ⟨⟨k + 1, n + yb.size, by push_cast; rfl, by push_cast; rfl, HNX, HBi.out, HOi.out⟩, by simp only [intOf]; omega⟩
          · have hsm : sm x = false := by
              have h1 := sumB_ge x.L k
              have h2 := HK.out.2.1
              exact decide_eq_false (by omega)
            have q8 : decide (n < 1000000) = false := decide_eq_false hn
            have q8b : decide ((n : Int) < 1000000) = false := decide_eq_false (by omega)
            have q11 : (i : Int) + 1 ≤ 9223372036854775807 := by omega
            clear hci htot
            go_wp2_with fail
            refine ⟨⟨i + 1, by push_cast; rfl, ⟨by omega, by omega⟩, HBi.out, ⟨D, ?_, HOi.out⟩⟩, by simp only [intOf]; omega⟩
            rw [List.take_succ_eq_append_getElem HIE.out, List.filter_append, HX.out, HD.out, List.filter_cons, if_neg (by show ¬ sm x = true; rw [hsm]; decide), List.filter_nil, List.append_nil]
        · have q7 : (R : Int) ≤ (k : Int) := by omega
          have hkk : k = R := by have := HK.out.1; omega
          have htn : tot x = n := by
            have h2 := HK.out.2.1
            rw [hkk, ← HRR.out, List.take_length] at h2
            rw [HRR.out] at h2
            omega
          by_cases hn : n < 1000000
          · have hsm : sm x = true := decide_eq_true (by omega)
            have q8 : (n : Int) < 1000000 := by omega
            have q11 : (i : Int) + 1 ≤ 9223372036854775807 := by omega
            have ze : (Tryd.prog.info? tEn).map (·.size) = some [Value.int .i64 x.k, .int .i64 x.l, .int .i64 x.n, .string x.t, .slice oo R cpo].length := by show _ = some 5; exact infoEn
            have hnews : ∀ j u, [Value.int .i64 x.k, .int .i64 x.l, .int .i64 x.n, .string x.t, .slice oo R cpo][j]? = some u → (wi.alloc (.cells #[.int .i64 x.k, .int .i64 x.l, .int .i64 x.n, .string x.t, .slice oo R cpo] tEn)).cell? ((⟨wi.heap.size, 0, none⟩ : Addr).add j) = some u := Jp.cells5 _ _ _ _ _ _ _
            have hone : ∀ u ∈ [Value.int .i64 x.k, .int .i64 x.l, .int .i64 x.n, .string x.t, .slice oo R cpo], u.oneCell' = true := by simp [Value.oneCell']
            have hbs : w.heap.size ≤ (wi.alloc (.cells #[.int .i64 x.k, .int .i64 x.l, .int .i64 x.n, .string x.t, .slice oo R cpo] tEn)).heap.size := by have := HBi.out.size; simp; omega
            have hDl := HDl.out
            have hBo : ∀ p, u5.ownBlock = some p → w.heap.size ≤ p := fun p hp => (HOi.out.lt p hp).1
            have HBO : Hid (∀ p, u5.ownBlock = some p → w.heap.size ≤ p) := hBo
            clear htot htn hBo
            go_wp2_with (first
              | (refine wpList_load_at rfl tEn _ rfl _ rfl [.int .i64 x.k, .int .i64 x.l, .int .i64 x.n, .string x.t, .slice oo R cpo] hci _ Tryd.underlying40 rfl ze ?_)
              | (at_builtin; refine wpList_append_own _ rfl _ _ 26 rfl w.heap.size tEn io _ 5 64 Tryd.underlying26 hio hz0 hz1 hz2 rfl (by decide) _ _ _ rfl (HOi.out.alloc _) ⟨wi.heap.size, 0, none⟩ 1 1 _ rfl rfl hnews hone (by unfold maxLen; omega) (by omega) hbs ?_; intro v' w3 hown' hg3 hnil3)
              | fail)
            have hfin : w3.ownsRow w.heap.size tEn 5 v' (D ++ [((x, Value.slice oo R cpo) : EV)]).length (ecsL (D ++ [((x, Value.slice oo R cpo) : EV)])) := by
              rw [List.length_append]
              have e9 : ecsL (D ++ [((x, Value.slice oo R cpo) : EV)]) = ecsL D ++ [.int .i64 x.k, .int .i64 x.l, .int .i64 x.n, .string x.t, .slice oo R cpo] := by simp [ecsL, ecs]
              rw [e9]
              exact hown'
            have hbel : Below w.heap.size w w3 := by
              have h1 : Below w.heap.size w (wi.alloc (.cells #[.int .i64 x.k, .int .i64 x.l, .int .i64 x.n, .string x.t, .slice oo R cpo] tEn)) := keepB HBi.out (below_one _ _)
              exact h1.trans ⟨hg3.os, hg3.tape, hg3.output, hg3.size, fun k hk => hg3.block k (Nat.lt_of_lt_of_le hk h1.size) (fun e => by have := HBO.out k e.symm; omega)⟩
            refine ⟨⟨i + 1, by push_cast; rfl, ⟨by omega, by omega⟩, hbel, ⟨_, ?_, hfin⟩⟩, by simp only [intOf]; omega⟩
            rw [List.take_succ_eq_append_getElem hiE, List.filter_append, HX.out, HD.out, List.filter_cons, if_pos (by exact hsm), List.filter_nil, HRR.out]
          · have hsm : sm x = false := decide_eq_false (by omega)
            have q8 : decide (n < 1000000) = false := decide_eq_false hn
            have q8b : decide ((n : Int) < 1000000) = false := decide_eq_false (by omega)
            have q11 : (i : Int) + 1 ≤ 9223372036854775807 := by omega
            clear hci htot htn
            go_wp2_with fail
            refine ⟨⟨i + 1, by push_cast; rfl, ⟨by omega, by omega⟩, HBi.out, ⟨D, ?_, HOi.out⟩⟩, by simp only [intOf]; omega⟩
            rw [List.take_succ_eq_append_getElem HIE.out, List.filter_append, HX.out, HD.out, List.filter_cons, if_neg (by show ¬ sm x = true; rw [hsm]; decide), List.filter_nil, List.append_nil]
    · obtain ⟨D, hD, hown⟩ := HO.out
      have hDk : D = kept40 Es := by
        rw [hD]
        unfold kept40
        by_cases h40 : i = 40
        · rw [h40]
        · have : i = Es.length := by have := HI.out; have := HN.out; omega
          rw [List.take_of_length_le (by omega), List.take_of_length_le (by have := HI.out; omega)]
      have HF : Hid (wr.ownsRow w.heap.size tEn 5 u5 (kept40 Es).length (ecsL (kept40 Es))) := hDk ▸ hown
      clear hD hDk hown HO
      by_cases hiN : i < N
      · have q1 : (i : Int) < (N : Int) := by omega
        have q2 : decide (i < 40) = false := decide_eq_false (by omega)
        go_wp2_with fail
        go_ret
        exact ⟨_, rfl, HF.out, HB.out⟩
      · have q1 : (N : Int) ≤ (i : Int) := by omega
        go_wp2_with fail
        go_ret
        exact ⟨_, rfl, HF.out, HB.out⟩
end Go.Proofs.YtabmpngliphdpaaDoor.Lb
