/- RouteOrder: the walk, at most a hundred others. -/
import Derived.Test.YtheeicjoblkfnaaGreatDoorRu
import Derived.Test.YtheeicjoblkfnaaGreatDoorRk
import Derived.Test.YtheeicjoblkfnaaGreatDoorSg
import Derived.BigQuiet
namespace Go.Proofs.YtheeicjoblkfnaaGreatDoor.Wa
set_option linter.unusedVariables false
set_option linter.unusedSimpArgs false
open Go.RowKit Go.Shelf Lib0 Kb Rp Rw Rs Li Mj Tj Sr Kq Ra Rj Ru
attribute [local go_sem] Oper.semAt_some
theorem infoS : (Tryz.prog.info? 9).map (fun i => (i.zero, i.size, i.bytes)) = some (some (.string ⟨#[]⟩), 1, 16) := by kernel_rfl
theorem lies_b {w x : World} {v : Value} {z : List ByteArray} (h : Sg.Lies w v z) (hb : Below w.heap.size w x) : Sg.Lies x v z := by
  obtain ⟨o, cap, e, h1, hc⟩ := h
  refine ⟨o, cap, e, h1, fun i hi => ?_⟩
  obtain ⟨a, ea, c0, c1⟩ := hc i hi
  exact ⟨a, ea, (hb.cell (World.block_lt_of_cell? w _ c0)).trans c0, c1⟩
theorem find_same (L : LT) (x : ByteArray) : ∃ (a b : Int) (c : Bool), ∀ e, FindPost L x e → e = .returned (.tuple #[.int .i64 a, .int .i64 b, .bool c]) := by
  unfold FindPost
  cases lon (lkp L) x.data.toList x.size with
  | none => exact ⟨0, 0, false, fun e h => h⟩
  | some y => exact ⟨y.1, (y.2 : Int), true, fun e h => h⟩
set_option maxRecDepth 100000 in
set_option maxHeartbeats 6400000 in
theorem walk (v0 : Value) (z0 : List ByteArray) (v1 : Value) (z1 : List ByteArray) (v2 : Value) (z2 : List ByteArray) (w : World) (w0 : Sg.Lies w v0 z0) (w1 : Sg.Lies w v1 z1) (w2 : Sg.Lies w v2 z2) (hcase : z1.length ≤ 100) :
    Calls Tryz.prog 7 #[v0, v1, v2] w fun e w' => e = .returned (.bool true) ∧ Below w.heap.size w w' := by
  obtain ⟨i0, hi, hz0, hz1, hz2⟩ := info_parts infoS
  have pk := fun w => Rk.known_any w
  have LA0 : Hid (∀ x, Below w.heap.size w x → Sg.Lies x v0 z0) := fun x hx => lies_b w0 hx
  have LA1 : Hid (∀ x, Below w.heap.size w x → Sg.Lies x v1 z1) := fun x hx => lies_b w1 hx
  have LA2 : Hid (∀ x, Below w.heap.size w x → Sg.Lies x v2 z2) := fun x hx => lies_b w2 hx
  obtain ⟨o0, cap0, e0, hn0, -⟩ := w0
  obtain ⟨o1, cap1, e1, hn1, -⟩ := w1
  obtain ⟨o2, cap2, e2, hn2, -⟩ := w2
  obtain ⟨N0, HN0⟩ : ∃ N, Hid (z0.length = N) := ⟨_, rfl⟩
  obtain ⟨N1, HN1⟩ : ∃ N, Hid (z1.length = N) := ⟨_, rfl⟩
  obtain ⟨N2, HN2⟩ : ∃ N, Hid (z2.length = N) := ⟨_, rfl⟩
  rw [HN0.out] at e0 hn0
  rw [HN1.out] at e1 hn1 hcase
  rw [HN2.out] at e2 hn2
  subst e0 e1 e2
  obtain ⟨C0, HC0, hC0a, hC0b⟩ : ∃ C : Nat, Hid (C ≤ 100) ∧ Hid (C ≤ N0) ∧ min (N0 : Int) 100 = (C : Int) := ⟨min N0 100, by show _ ≤ _; omega, by show _ ≤ _; omega, by omega⟩
  obtain ⟨C1, HC1, hC1a, hC1b⟩ : ∃ C : Nat, Hid (C ≤ 100) ∧ Hid (C ≤ N1) ∧ Hid (C = N1) := ⟨N1, hcase, Nat.le_refl N1, rfl⟩
  have H0 : Hid (N0 ≤ 9223372036854775807) := hn0
  have H1 : Hid (N1 ≤ 9223372036854775807) := hn1
  have H2 : Hid (N2 ≤ 9223372036854775807) := hn2
  clear hn0 hn1 hn2 hcase
  refine (callsIn_wide (n := 8)).1 ?_
  refine callsIn_of_wp_marks Tryz.func7 rfl trivial ?_ rfl
  simp only [Tryz.ntmps7, List.size_toArray, List.length_cons, List.length_nil, Nat.reduceAdd, Nat.reduceSub, Array.replicate_succ, Array.replicate_zero, List.push_toArray, List.append_toArray, List.nil_append, List.cons_append]
  refine wpIn_wide.2 ?_
  go_wp2_with fail
  have hr := h1_0 w (.cells #[.bool false] 4)
  have hb := below_one w (.cells #[.bool false] 4)
  generalize w.alloc (.cells #[.bool false] 4) = y0 at *
  refine (pk _).mono ?_
  rintro e y1 ⟨rfl, k⟩
  replace hr := kept k hr
  replace hb := keepB hb k
  clear k pk y0
  go_wp2_with fail
  refine (new_any _).mono ?_
  rintro e y2 ⟨rfl, hy⟩
  have hA : y2.heap[y1.heap.size]? = some (.cells #[.pointer none, .int .i64 0] tR) := by rw [hy]; exact h1_0 y1 _
  have hrA : w.heap.size < y1.heap.size := (Array.getElem?_eq_some_iff.1 hr).1
  have kk : Below y1.heap.size y1 y2 := by rw [hy]; exact below_one y1 _
  clear hy
  replace hr := kept kk hr
  replace hb := keepB hb kk
  obtain ⟨A, HA⟩ : ∃ A, Hid (y1.heap.size = A) := ⟨_, rfl⟩
  rw [HA.out] at hA hrA ⊢
  clear kk HA y1
  go_wp2_with fail
  refine (new_any _).mono ?_
  rintro e y3 ⟨rfl, hy⟩
  have hBb : y3.heap[y2.heap.size]? = some (.cells #[.pointer none, .int .i64 0] tR) := by rw [hy]; exact h1_0 y2 _
  have hAB : A < y2.heap.size := (Array.getElem?_eq_some_iff.1 hA).1
  have kk : Below y2.heap.size y2 y3 := by rw [hy]; exact below_one y2 _
  have hsz3 : y3.heap.size = y2.heap.size + 1 := by rw [hy]; simp
  clear hy
  replace hr := kept kk hr
  replace hA := kept kk hA
  replace hb := keepB hb kk
  obtain ⟨B, HB⟩ : ∃ B, Hid (y2.heap.size = B) := ⟨_, rfl⟩
  rw [HB.out] at hBb hAB hsz3 ⊢
  clear kk HB y2
  have hTA : Tri y3 [A, B] A [] := tri_empty (by simp) (fun x hx => by simp at hx; omega) hA
  have hTB : Tri y3 [A, B] B [] := tri_empty (by simp) (fun x hx => by simp at hx; omega) hBb
  have HAw : Hid (w.heap.size < A ∧ A < B) := ⟨hrA, hAB⟩
  have HFR : Hid (∀ x ∈ [A], w.heap.size ≤ x) := fun x hx => by simp at hx; omega
  have HFB : Hid (∀ x ∈ [B], w.heap.size ≤ x) := fun x hx => by simp at hx; omega
  have hAnB : Hid (A ≠ B) := by show _ ≠ _; omega
  have HR : Hid (y3.heap[w.heap.size]? = some (.cells #[.bool false] 4)) := hr
  clear hr hA hBb hrA hAB hsz3
  go_wp2_with fail
  go_loopw [11, 12] (fun iv _ wr => ∃ (i : Nat) (L : LT), iv = .int .i64 (i : Int) ∧ i ≤ C0 ∧ Tri wr [A, B] A L ∧ Tri wr [A, B] B [] ∧ Hid (Mem L (ks (z0.take i))) ∧ Hid (L.length ≤ i) ∧ Below w.heap.size w wr ∧ wr.heap[w.heap.size]? = some (.cells #[.bool false] 4)) (fun iv _ _ => C0 + 1 - (intOf iv).toNat)
  case atStart => exact ⟨0, [], rfl, Nat.zero_le _, hTA, hTB, (fun k => by simp [ks, lkp]), Nat.zero_le _, hb, HR.out⟩
  case round =>
    obtain ⟨i, L, rfl, hiC, hTA, hTB, HM, HL, hb, hr⟩ := hrel
    by_cases hc : i < C0
    · have p0 : (i : Int) < (C0 : Int) := by omega
      have p1 : (0 : Int) ≤ (i : Int) := by omega
      have hcN : i < N0 := by have := hC0a.out; omega
      have p2 : (i : Int) < (N0 : Int) := by omega
      have p3 : (i : Int) + 1 ≤ 9223372036854775807 := by have := HC0.out; omega
      obtain ⟨o', c', e', -, hcell⟩ := LA0.out wr hb
      rw [HN0.out] at e'
      cases e'
      obtain ⟨a, rfl, c0, c1⟩ := hcell i (by rw [HN0.out]; exact hcN)
      obtain ⟨x, hx⟩ : ∃ x, z0[i]'(by rw [HN0.out]; exact hcN) = x := ⟨_, rfl⟩
      rw [hx] at c0 c1
      have HM2 : ∀ k, k ∈ ks (z0.take (i + 1)) ↔ k = Rd.dgL x.data.toList ∨ k ∈ ks (z0.take i) := fun k => by rw [← hx]; exact take_mem z0 (i + 1) i (by rw [HN0.out]; exact hcN) (by omega) k
      have pd := Rd.digits_any x
      have HCC : Hid (i < C0) := hc
      clear hx hcell hcN hc hiC
      go_wp2_with fail
      refine (pd _ c1).mono ?_
      rintro e x1 ⟨rfl, k1⟩
      obtain ⟨p, HP⟩ : ∃ p, Hid (Rd.dgL x.data.toList = p) := ⟨_, rfl⟩
      have ok : Hid (okK p = true) := by show _ = _; rw [← HP.out]; exact Rd.dgL_ok _
      rw [HP.out] at HM2 ⊢
      have HMM : Hid (Mem (putL L p (ln p)) (ks (z0.take (i + 1)))) := HM.out.put hTA.srt ok.out HM2
      replace hTA := hTA.below k1
      replace hTB := hTB.below k1
      replace hb := keepB hb k1
      replace hr := kept k1 hr
      have pl : p.length ≤ 19 := by have := ok.out; simp only [okK, Bool.and_eq_true, decide_eq_true_eq] at this; omega
      have pp := put_any x1 [A, B] A L (sB p) (ln p) hTA (by show p.length ≤ maxLen; unfold maxLen; omega) (by have := HL.out; have := HC0.out; have := HCC.out; omega)
      rw [show (sB p).data.toList = p from rfl] at pp
      clear k1 c0 c1 pd HM2 pl
      go_wp2_with fail
      refine pp.mono ?_
      rintro e x2 ⟨he, hT2, k2⟩
      have hTB2 := hTB.fr k2 (by simp) (by simpa using fun h : B = A => hAnB.out h.symm)
      have hb2 := Fr.behind hb k2 HFR.out
      have hr2 := (k2.block w.heap.size (Array.getElem?_eq_some_iff.1 hr).1 (by have := HAw.out; simp; omega)).trans hr
      have HL2 : Hid ((putL L p (ln p)).length ≤ i + 1) := by have := putL_len L p (ln p); have := HL.out; show _ ≤ _; omega
      obtain ⟨ev, hev⟩ : ∃ ev : Int, (if putE L p = true then (0 : Int) else 150) = ev := ⟨_, rfl⟩
      rw [hev] at he
      subst he
      clear pp hev k2
      go_wp2_with fail
      exact ⟨⟨i + 1, putL L p (ln p), by simp, HCC.out, hT2, hTB2, HMM, HL2, hb2, hr2⟩, by simp only [intOf]; have := HCC.out; omega⟩
    · have p0 : ¬ (i : Int) < (C0 : Int) := by omega
      obtain rfl : i = C0 := by omega
      have HMa : Hid (Mem L (ks (z0.take i))) := HM
      have HRW0 : True := trivial
      have HLa : Hid (L.length ≤ 100) := by have := HL.out; have := HC0.out; show _ ≤ _; omega
      clear hiC hc HM HL HR
      go_wp2_with fail
      go_loopw [13, 14] (fun iv _ wr => ∃ (j : Nat) (Lb : LT), iv = .int .i64 (j : Int) ∧ j ≤ C1 ∧ Hid (Lb.length ≤ j) ∧ Tri wr [A, B] A L ∧ Tri wr [A, B] B Lb ∧ Hid (Sub Lb (ks (z1.take C1))) ∧ Hid (Lb.length ≤ 200) ∧ Below w.heap.size w wr ∧ wr.heap[w.heap.size]? = some (.cells #[.bool false] 4)) (fun iv _ _ => C1 + 1 - (intOf iv).toNat)
      case atStart => exact ⟨0, [], rfl, Nat.zero_le _, Nat.zero_le _, hTA, hTB, (fun k hk => by cases hk), Nat.zero_le _, hb, hr⟩
      case round =>
        clear hTA hTB hb hr
        obtain ⟨j, Lb, rfl, hjC, HJL, hTA, hTB, HS, HL, hb, hr⟩ := hrel
        by_cases hc : j < C1
        · have hcN : j < N1 := by have := hC1a.out; omega
          have p0 : (j : Int) < (N1 : Int) := by omega
          have p1 : (0 : Int) ≤ (j : Int) := by omega
          have p2 : (j : Int) < 100 := by have := HC1.out; omega
          have p3 : (j : Int) + 1 ≤ 9223372036854775807 := by have := HC1.out; omega
          obtain ⟨o', c', e', -, hcell⟩ := LA1.out wr hb
          rw [HN1.out] at e'
          cases e'
          obtain ⟨a, rfl, c0, c1⟩ := hcell j (by rw [HN1.out]; exact hcN)
          obtain ⟨x, hx⟩ : ∃ x, z1[j]'(by rw [HN1.out]; exact hcN) = x := ⟨_, rfl⟩
          rw [hx] at c0 c1
          have pd := Rd.digits_any x
          have HMM : Rd.dgL x.data.toList ∈ ks (z1.take C1) := by
            rw [← hx]
            simp only [ks, List.mem_map]
            refine ⟨z1[j]'(by rw [HN1.out]; exact hcN), ?_, rfl⟩
            rw [List.mem_take_iff_getElem]
            exact ⟨j, by rw [HN1.out]; omega, rfl⟩
          have HCC : Hid (j < C1) := hc
          clear hx hcell
          clear hcN hc hjC
          go_wp2_with fail
          refine (pd _ c1).mono ?_
          rintro e x1 ⟨rfl, k1⟩
          obtain ⟨p, HP⟩ : ∃ p, Hid (Rd.dgL x.data.toList = p) := ⟨_, rfl⟩
          have ok : Hid (okK p = true) := by show _ = _; rw [← HP.out]; exact Rd.dgL_ok _
          rw [HP.out] at HMM ⊢
          replace hTA := hTA.below k1
          replace hTB := hTB.below k1
          replace hb := keepB hb k1
          replace hr := kept k1 hr
          have pl : p.length ≤ 19 := by have := ok.out; simp only [okK, Bool.and_eq_true, decide_eq_true_eq] at this; omega
          have pls : (sB p).size ≤ maxLen := by show p.length ≤ maxLen; unfold maxLen; omega
          clear k1 c0 c1 pd pl
          have pp := put_any x1 [A, B] B Lb (sB p) (-1) hTB pls (by have := HL.out; omega)
          rw [show (sB p).data.toList = p from rfl] at pp
          have HS2 : Hid (Sub (putL Lb p (-1)) (ks (z1.take C1))) := HS.out.put hTB.srt HMM _
          have HJ2 : Hid ((putL Lb p (-1)).length ≤ j + 1) := by have := putL_len Lb p (-1); have := HJL.out; show _ ≤ _; omega
          have HL2 : Hid ((putL Lb p (-1)).length ≤ 200) := by have := HJ2.out; have := HCC.out; have := HC1.out; show _ ≤ _; omega
          clear HMM pls
          go_wp2_with fail
          refine pp.mono ?_
          rintro e x2 ⟨he, hT2, k2⟩
          have hTA2 := hTA.fr k2 (by simp) (by simpa using hAnB.out)
          have hb2 := Fr.behind hb k2 HFB.out
          have hr2 := (k2.block w.heap.size (Array.getElem?_eq_some_iff.1 hr).1 (by have := HAw.out; simp; omega)).trans hr
          obtain ⟨ev, hev⟩ : ∃ ev : Int, (if putE Lb p = true then (0 : Int) else 150) = ev := ⟨_, rfl⟩
          rw [hev] at he
          subst he
          clear pp hev k2
          go_wp2_with fail
          exact ⟨⟨j + 1, putL Lb p (-1), by simp, HCC.out, HJ2, hTA2, hT2, HS2, HL2, hb2, hr2⟩, by simp only [intOf]; have := HCC.out; omega⟩
        · have p0 : ¬ (j : Int) < (N1 : Int) := by have := hC1b.out; omega
          clear hjC hc HJL
          go_wp2_with fail
          go_loopw [15, 16] (fun iv _ wr => ∃ (q : Nat) (Lb : LT), iv = .int .i64 (q : Int) ∧ q ≤ C1 ∧ Tri wr [A, B] A L ∧ Tri wr [A, B] B Lb ∧ Hid (Sub Lb (ks ((z1.take C1).drop q))) ∧ Hid (Lb.length ≤ 200) ∧ Below w.heap.size w wr ∧ wr.heap[w.heap.size]? = some (.cells #[.bool false] 4)) (fun iv _ _ => C1 + 1 - (intOf iv).toNat)
          case atStart => exact ⟨0, Lb, rfl, Nat.zero_le _, hTA, hTB, by rw [List.drop_zero]; exact HS, HL, hb, hr⟩
          case round =>
            clear hTA hTB hb hr HS HL
            obtain ⟨q, Lb, rfl, hjC, hTA, hTB, HS, HL, hb, hr⟩ := hrel
            by_cases hc : q < C1
            · have hcN : q < N1 := by have := hC1a.out; omega
              have p0 : (q : Int) < (N1 : Int) := by omega
              have p1 : (0 : Int) ≤ (q : Int) := by omega
              have p2 : (q : Int) < 100 := by have := HC1.out; omega
              have p3 : (q : Int) + 1 ≤ 9223372036854775807 := by have := HC1.out; omega
              obtain ⟨o', c', e', -, hcell⟩ := LA1.out wr hb
              rw [HN1.out] at e'
              cases e'
              obtain ⟨a, rfl, c0, c1⟩ := hcell q (by rw [HN1.out]; exact hcN)
              obtain ⟨x, hx⟩ : ∃ x, z1[q]'(by rw [HN1.out]; exact hcN) = x := ⟨_, rfl⟩
              rw [hx] at c0 c1
              have pd := Rd.digits_any x
              have HMM : ∀ k, k ∈ ks ((z1.take C1).drop q) → k = Rd.dgL x.data.toList ∨ k ∈ ks ((z1.take C1).drop (q + 1)) := fun k hk => by
                have := (drop_mem (z1.take C1) q (by rw [List.length_take, HN1.out]; omega) k).1 hk
                rw [List.getElem_take, hx] at this
                exact this
              have HCC : Hid (q < C1) := hc
              clear hx hcell
              clear hcN hc hjC
              go_wp2_with fail
              refine (pd _ c1).mono ?_
              rintro e x1 ⟨rfl, k1⟩
              obtain ⟨p, HP⟩ : ∃ p, Hid (Rd.dgL x.data.toList = p) := ⟨_, rfl⟩
              have ok : Hid (okK p = true) := by show _ = _; rw [← HP.out]; exact Rd.dgL_ok _
              rw [HP.out] at HMM ⊢
              replace hTA := hTA.below k1
              replace hTB := hTB.below k1
              replace hb := keepB hb k1
              replace hr := kept k1 hr
              have pl : p.length ≤ 19 := by have := ok.out; simp only [okK, Bool.and_eq_true, decide_eq_true_eq] at this; omega
              have pls : (sB p).size ≤ maxLen := by show p.length ≤ maxLen; unfold maxLen; omega
              clear k1 c0 c1 pd pl
              have pp := drop_any x1 [A, B] B Lb (sB p) hTB pls (by have := HL.out; omega)
              rw [show (sB p).data.toList = p from rfl] at pp
              obtain ⟨Lc, hLc⟩ : ∃ Lc, (if isAt Lb p = true then del Lb p else Lb) = Lc := ⟨_, rfl⟩
              have HS2 : Hid (Sub Lc (ks ((z1.take C1).drop (q + 1)))) := by show Sub _ _; rw [← hLc]; exact HS.out.drop hTB.srt HMM
              have HL2 : Hid (Lc.length ≤ 200) := by have := del_le Lb p; rw [hLc] at this; have := HL.out; show _ ≤ _; omega
              rw [hLc] at pp
              clear HMM pls hLc
              obtain ⟨ab, hab⟩ : ∃ ab, isAt Lb p = ab := ⟨_, rfl⟩
              rw [hab] at pp
              clear hab
              go_wp2_with fail
              refine pp.mono ?_
              rintro e x2 ⟨rfl, hT2, k2⟩
              have hTA2 := hTA.fr k2 (by simp) (by simpa using hAnB.out)
              have hb2 := Fr.behind hb k2 HFB.out
              have hr2 := (k2.block w.heap.size (Array.getElem?_eq_some_iff.1 hr).1 (by have := HAw.out; simp; omega)).trans hr
              clear pp k2
              go_wp2_with fail
              exact ⟨⟨q + 1, Lc, by simp, HCC.out, hTA2, hT2, HS2, HL2, hb2, hr2⟩, by simp only [intOf]; have := HCC.out; omega⟩
            · have p0 : ¬ (q : Int) < (N1 : Int) := by have := hC1b.out; omega
              have hLb : Lb = [] := by
                refine Sub.nil ?_ hTB.srt
                have := HS.out
                rw [List.drop_of_length_le (by rw [List.length_take]; omega)] at this
                exact this
              subst hLb
              clear hjC hc HS HL
              go_wp2_with fail
              go_loopw [17, 18] (fun iv _ wr => ∃ (q : Nat) (Lb : LT), iv = .int .i64 ((q : Int) - 1) ∧ q ≤ i ∧ Hid (Lb.length ≤ i - q) ∧ Tri wr [A, B] A L ∧ Tri wr [A, B] B Lb ∧ Hid (Mem Lb (ks ((z0.take i).drop q))) ∧ Below w.heap.size w wr ∧ wr.heap[w.heap.size]? = some (.cells #[.bool false] 4)) (fun iv _ _ => ((intOf iv) + 1).toNat)
              case atStart => exact ⟨i, [], rfl, Nat.le_refl _, Nat.zero_le _, hTA, hTB, (fun k => by rw [List.drop_of_length_le (by rw [List.length_take]; omega)]; simp [ks, lkp]), hb, hr⟩
              case round =>
                clear hTA hTB hb hr
                obtain ⟨q, Lb, rfl, hqi, HQ, hTA, hTB, HM, hb, hr⟩ := hrel
                cases q with
                | succ m =>
                  have e1 : ((m + 1 : Nat) : Int) - 1 = (m : Int) := by omega
                  rw [e1]
                  clear e1
                  have hcN : m < N0 := by have := hC0a.out; omega
                  have p0 : (m : Int) < (N0 : Int) := by omega
                  have p1 : (0 : Int) ≤ (m : Int) := by omega
                  have p3 : (-9223372036854775808 : Int) ≤ (m : Int) - 1 := by omega
                  have p4 : (m : Int) - 1 ≤ 9223372036854775807 := by have := HC0.out; omega
                  have HQI : Hid (m + 1 ≤ i) := hqi
                  obtain ⟨o', c', e', -, hcell⟩ := LA0.out wr hb
                  rw [HN0.out] at e'
                  cases e'
                  obtain ⟨a, rfl, c0, c1⟩ := hcell m (by rw [HN0.out]; exact hcN)
                  obtain ⟨x, hx⟩ : ∃ x, z0[m]'(by rw [HN0.out]; exact hcN) = x := ⟨_, rfl⟩
                  rw [hx] at c0 c1
                  have pd := Rd.digits_any x
                  have HMM : ∀ k, k ∈ ks ((z0.take i).drop m) ↔ k = Rd.dgL x.data.toList ∨ k ∈ ks ((z0.take i).drop (m + 1)) := fun k => by
                    have := drop_mem (z0.take i) m (by rw [List.length_take, HN0.out]; omega) k
                    rw [List.getElem_take, hx] at this
                    exact this
                  clear hx hcell
                  clear hcN hqi
                  go_wp2_with fail
                  refine (pd _ c1).mono ?_
                  rintro e x1 ⟨rfl, k1⟩
                  obtain ⟨p, HP⟩ : ∃ p, Hid (Rd.dgL x.data.toList = p) := ⟨_, rfl⟩
                  have ok : Hid (okK p = true) := by show _ = _; rw [← HP.out]; exact Rd.dgL_ok _
                  rw [HP.out] at HMM ⊢
                  replace hTA := hTA.below k1
                  replace hTB := hTB.below k1
                  replace hb := keepB hb k1
                  replace hr := kept k1 hr
                  have pl : p.length ≤ 19 := by have := ok.out; simp only [okK, Bool.and_eq_true, decide_eq_true_eq] at this; omega
                  have pls : (sB p).size ≤ maxLen := by show p.length ≤ maxLen; unfold maxLen; omega
                  clear k1 c0 c1 pd pl
                  have pp := put_any x1 [A, B] B Lb (sB p) (ln p) hTB pls (by have := HQ.out; have := HC0.out; omega)
                  rw [show (sB p).data.toList = p from rfl] at pp
                  have HM2 : Hid (Mem (putL Lb p (ln p)) (ks ((z0.take i).drop m))) := HM.out.put hTB.srt ok.out HMM
                  have HQ2 : Hid ((putL Lb p (ln p)).length ≤ i - m) := by have := putL_len Lb p (ln p); have := HQ.out; have := HQI.out; show _ ≤ _; omega
                  clear HMM pls
                  go_wp2_with fail
                  refine pp.mono ?_
                  rintro e x2 ⟨he, hT2, k2⟩
                  have hTA2 := hTA.fr k2 (by simp) (by simpa using hAnB.out)
                  have hb2 := Fr.behind hb k2 HFB.out
                  have hr2 := (k2.block w.heap.size (Array.getElem?_eq_some_iff.1 hr).1 (by have := HAw.out; simp; omega)).trans hr
                  obtain ⟨ev, hev⟩ : ∃ ev : Int, (if putE Lb p = true then (0 : Int) else 150) = ev := ⟨_, rfl⟩
                  rw [hev] at he
                  subst he
                  clear pp hev k2
                  go_wp2_with fail
                  exact ⟨⟨m, putL Lb p (ln p), by simp, by have := HQI.out; omega, HQ2, hTA2, hT2, HM2, hb2, hr2⟩, by simp only [intOf]; omega⟩
                | zero =>
                  have e1 : ((0 : Nat) : Int) - 1 = -1 := by omega
                  rw [e1]
                  clear e1
                  have hLL : Lb = L := by
                    have h1 := HM.out
                    rw [List.drop_zero] at h1
                    exact h1.eq HMa.out hTB.srt hTA.srt
                  rw [hLL] at hTB
                  have HL9 : Hid (L.length ≤ 100) := HLa
                  have HRW : Hid (wr.heap[w.heap.size]? = some (.cells #[.bool false] 4)) := hr
                  clear hLL HM HQ hqi
                  go_wp2_with fail
                  have hlb := h2_0 wr (.cells #[.slice none 0 0] 73) (.cells #[.string ⟨#[]⟩] 9)
                  have hsb := h2_1 wr (.cells #[.slice none 0 0] 73) (.cells #[.string ⟨#[]⟩] 9)
                  have kk := below_two wr (.cells #[.slice none 0 0] 73) (.cells #[.string ⟨#[]⟩] 9)
                  have hs5 : ((wr.alloc (.cells #[.slice none 0 0] 73)).alloc (.cells #[.string ⟨#[]⟩] 9)).heap.size = wr.heap.size + 1 + 1 := by simp
                  generalize (wr.alloc (.cells #[.slice none 0 0] 73)).alloc (.cells #[.string ⟨#[]⟩] 9) = y5 at *
                  refine (all_any A _).mono ?_
                  rintro e y6 ⟨rfl, hy6⟩
                  have hbt : y6.heap[y5.heap.size]? = some (.cells #[.pointer (some ⟨A, 0, none⟩)] tPT) := by rw [hy6]; exact h1_0 y5 _
                  have k6 : Below y5.heap.size y5 y6 := by rw [hy6]; exact below_one y5 _
                  have hs6 : y6.heap.size = wr.heap.size + 1 + 1 + 1 := by rw [hy6]; simp [hs5]
                  clear hy6
                  have kw6 := keepB kk k6
                  have hTA6 : Tri y6 [A, B, wr.heap.size, wr.heap.size + 1] A L := hTA.more (fun y hy => by simp at hy; rcases hy with rfl | rfl | rfl | rfl <;> simp) (by simp) kw6 (fun y hy => by
                    simp at hy
                    have h1 := hTA.all A (by simp)
                    have h2 := hTA.all B (by simp)
                    rcases hy with rfl | rfl | rfl | rfl <;> omega)
                  have hTB6 : Tri y6 [A, B, wr.heap.size, wr.heap.size + 1] B L := hTB.more (fun y hy => by simp at hy; rcases hy with rfl | rfl | rfl | rfl <;> simp) (by simp) kw6 (fun y hy => by
                    simp at hy
                    have h1 := hTA.all A (by simp)
                    have h2 := hTA.all B (by simp)
                    rcases hy with rfl | rfl | rfl | rfl <;> omega)
                  replace hb := keepB hb kw6
                  replace hr := kept kw6 hr
                  replace hlb := kept k6 hlb
                  replace hsb := kept k6 hsb
                  have hrl : w.heap.size < wr.heap.size := (Array.getElem?_eq_some_iff.1 HRW.out).1
                  have HLBA : Hid (A < wr.heap.size ∧ B < wr.heap.size) := ⟨hTA.all A (by simp), hTA.all B (by simp)⟩
                  rw [hs5] at hbt ⊢
                  obtain ⟨lb, HLB⟩ : ∃ lb, Hid (wr.heap.size = lb) := ⟨_, rfl⟩
                  rw [HLB.out] at hTA6 hTB6 hlb hsb hbt hs6 hrl HLBA ⊢
                  clear HLB kk k6 kw6 hTA hTB hs5
                  go_wp2_with fail
                  refine (wpIn_wide (n := 8)).1 ?_
                  refine range2 (by omega) (gf := 37) (lb := #[.pointer (some ⟨lb + 1 + 1, 0, none⟩)]) rfl (enters_of Tryz.func37 (by kernel_rfl) rfl)
                    (goes_all (X := [A, B, lb, lb + 1]) (b := A) (bt := lb + 1 + 1) (L := L) _ y6 hTA6 hbt) (fun h k => h.trans k) (fun W l o o' _ h hc _ => KQ.put h hc o') (fun W => KQ.refl _ W) (Below.refl _ _) 21 22
                    (fun pre W => I1 w y6 lb pre W) (fun _ _ _ => False)
                    (I1_own (by omega)) (fun c s A B row hs hg hr => hs) ⟨.slice none 0 0, hlb, World.ownsRow_nil _ _ _ _, hsb, KT.refl _ _, hb⟩ ?assign ?body ?done ?stop
                  case assign =>
                    intro l x W K hK
                    gi_wp2
                    exact hK
                  case body =>
                    rintro l pre x W hl hI hpx
                    simp only [List.setIfInBounds_toArray, List.set_cons_succ, List.set_cons_zero]
                    obtain ⟨xp, xv⟩ := x
                    obtain ⟨lv, a1, a2, a3, a4, a5⟩ := hI
                    have hxL : (xp, xv) ∈ L := by obtain ⟨t, ht⟩ := hpx; rw [← ht]; simp
                    have hlt := lastK_lt hTA6.srt hTA6.keys hpx
                    simp only at hlt
                    have hxv : xv = ln xp := by
                      have := mem_look hTA6.srt hxL
                      rw [HMa.out xp] at this
                      split at this
                      · exact (Option.some.inj this).symm
                      · cases this
                    subst hxv
                    have hn : pre.length < 100 := by have := hpx.length_le; simp at this; have := HL9.out; omega
                    obtain ⟨LK, HLK⟩ : ∃ LK, Hid (lastK pre = LK) := ⟨_, rfl⟩
                    rw [HLK.out] at hlt a3
                    have f1 : Op.bytesLess xp LK = false := lt_asymm hlt
                    have f2 : (xp == LK) = false := by simpa using fun e : xp = LK => lt_ne hlt e.symm
                    have cs := cell1 a3
                    have fs : W.frozen? ⟨lb + 1, 0, none⟩ = false := froz a3 0
                    have s1 : (W.setCell ⟨lb + 1, 0, none⟩ (sv xp)).heap[lb]? = some (.cells #[lv] tSl) := (setCell_ne (by omega) _ _).trans a1
                    have cl := cell1 s1
                    have hf := own_from a2
                    have hrow : (W.setCell ⟨lb + 1, 0, none⟩ (sv xp)).ownsRow y6.heap.size tS 1 lv pre.length (pre.map fun x => sv x.1) := own_keep a2 fun g cur e h => (setCell_ne (fun e2 : lb + 1 = g => by have := (hf g e).1; omega) _ _).trans h
                    have hys : y6.heap.size ≤ W.heap.size := a4.size
                    have hss : (W.setCell ⟨lb + 1, 0, none⟩ (sv xp)).heap.size = W.heap.size := setCell_size _ _ _ _
                    have HST := fun {w1 : World} {v' : Value} {o : Obj} (h1 : w1.ownsRow y6.heap.size tS 1 v' (pre.length + 1) ((pre.map fun x => sv x.1) ++ [sv xp])) (h2 : ((W.setCell ⟨lb + 1, 0, none⟩ (sv xp)).alloc o).grownBy w1 lv.ownBlock) => I1_step (X := [A, B, lb, lb + 1]) (x := (xp, ln xp)) (by omega) (by omega) a1 a2 a3 a4 a5 h1 h2
                    have HU : Hid (∀ {w1 : World} {o : Obj}, ((W.setCell ⟨lb + 1, 0, none⟩ (sv xp)).alloc o).grownBy w1 lv.ownBlock → w1.cell? ⟨lb, 0, none⟩ = some lv ∧ w1.frozen? ⟨lb, 0, none⟩ = false) := fun {w1 o} h2 => by
                      have u1 := gk h2 (kept (below_one _ o) s1) (fun e => by have := (hf lb e).1; omega)
                      exact ⟨cell1 u1, froz u1 0⟩
                    have HSTH : Hid (∀ {w1 : World} {v' : Value} {o : Obj}, w1.ownsRow y6.heap.size tS 1 v' (pre.length + 1) ((pre.map fun x => sv x.1) ++ [sv xp]) → ((W.setCell ⟨lb + 1, 0, none⟩ (sv xp)).alloc o).grownBy w1 lv.ownBlock → KeepsFrom y6.heap.size W (w1.setCell ⟨lb, 0, none⟩ v') ∧ KQ [A, B, lb, lb + 1] W (w1.setCell ⟨lb, 0, none⟩ v') ∧ I1 w y6 lb (pre ++ [(xp, ln xp)]) (w1.setCell ⟨lb, 0, none⟩ v')) := fun {w1 v' o} h1 h2 => HST h1 h2
                    have HNW : ((W.setCell ⟨lb + 1, 0, none⟩ (sv xp)).alloc (.cells #[sv xp] tS)).heap[W.heap.size]? = some (.cells #[sv xp] tS) := by rw [← hss]; exact h1_0 _ _
                    clear HST hf s1 a1 a2 a3 a4 a5 hxL hlt hpx
                    gi_wp2_with (gi_at_builtin; refine wpListIn_append_own _ rfl _ _ _ rfl y6.heap.size 9 i0 _ 1 16 Tryz.underlying73 hi hz0 hz1 hz2 rfl (by omega) _ pre.length _ rfl (hrow.alloc _) _ 1 1 _ rfl (by rfl) (World.news_of_block HNW) (by simp [Value.oneCell']) (by unfold maxLen; omega) (by omega) (by simp; omega) ?_; intro v' w1 hown1 hgrow hnil; obtain ⟨g', cap', rfl⟩ := ownsRow_succ hown1; obtain ⟨u1, u2⟩ := HU.out hgrow)
                    have h9 := HSTH.out hown1 hgrow
                    exact ⟨by rw [← hs6]; exact h9.1, h9.2.1, h9.2.2⟩
                  case done =>
                    rintro D W hD hI hK
                    obtain ⟨lv, a1, a2, a3, a4, a5⟩ := hI
                    have HKD : Hid (W.heap[D]? = some (.deferred (some []))) := hK
                    have HDL : Hid (lb < D) := by show _ < _; omega
                    have hr7 := a4.cells _ _ _ _ (by simp; omega) hr
                    have hA7 := a4.cells
                    have hTA7 := hTA6.kept (a4.mono (fun b hb => by simp at hb ⊢; omega)) (KTb a4 hTA6 (by have := HAw.out; have := HLBA.out; simp; omega))
                    have hTB7 := hTB6.kept (a4.mono (fun b hb => by simp at hb ⊢; omega)) (KTb a4 hTB6 (by have := HAw.out; have := HLBA.out; simp; omega))
                    have a4s := a4.size
                    clear hK hTA6 hTB6 hA7 a3 hsb hlb hbt hr hb
                    go_wp2_with fail
                    have hkb := h1_0 W (.cells #[.int .i64 0] 3)
                    have kk := below_one W (.cells #[.int .i64 0] 3)
                    have hs5 : (W.alloc (.cells #[.int .i64 0] 3)).heap.size = W.heap.size + 1 := by simp
                    generalize W.alloc (.cells #[.int .i64 0] 3) = y7 at *
                    refine (all_any B _).mono ?_
                    rintro e y8 ⟨rfl, hy8⟩
                    have hbt8 : y8.heap[y7.heap.size]? = some (.cells #[.pointer (some ⟨B, 0, none⟩)] tPT) := by rw [hy8]; exact h1_0 y7 _
                    have k8 : Below y7.heap.size y7 y8 := by rw [hy8]; exact below_one y7 _
                    have hs8 : y8.heap.size = W.heap.size + 1 + 1 := by rw [hy8]; simp [hs5]
                    clear hy8
                    have kw8 := keepB kk k8
                    have hTA8 : Tri y8 [A, B, lb, lb + 1, W.heap.size] A L := hTA7.more (fun y hy => by simp at hy; rcases hy with rfl | rfl | rfl | rfl | rfl <;> simp) (by simp) kw8 (fun y hy => by
                      simp at hy
                      have h1 := HLBA.out
                      rcases hy with rfl | rfl | rfl | rfl | rfl <;> omega)
                    have hTB8 : Tri y8 [A, B, lb, lb + 1, W.heap.size] B L := hTB7.more (fun y hy => by simp at hy; rcases hy with rfl | rfl | rfl | rfl | rfl <;> simp) (by simp) kw8 (fun y hy => by
                      simp at hy
                      have h1 := HLBA.out
                      rcases hy with rfl | rfl | rfl | rfl | rfl <;> omega)
                    replace a1 := kept kw8 a1
                    have a2y := own_keep (w' := y8) a2 fun g cur _ e => kept kw8 e
                    replace a5 := keepB a5 kw8
                    replace hr7 := kept kw8 hr7
                    replace hkb := kept k8 hkb
                    have HKD8 : Hid (y8.heap[D]? = some (.deferred (some []))) := kept kw8 HKD.out
                    have HDW : Hid (D < W.heap.size) := (Array.getElem?_eq_some_iff.1 HKD.out).1
                    rw [hs5] at hbt8 ⊢
                    obtain ⟨kb, HKB⟩ : ∃ kb, Hid (W.heap.size = kb) := ⟨_, rfl⟩
                    rw [HKB.out] at hTA8 hTB8 hkb hbt8 hs8 a4s HDW ⊢
                    clear HKB kk k8 kw8 hTA7 hTB7 hs5 a2 a4 HKD y7
                    go_wp2_with fail
                    refine (wpIn_wide (n := 8)).1 ?_
                    refine range2 (by omega) (gf := 37) (lb := #[.pointer (some ⟨kb + 1, 0, none⟩)]) rfl (enters_of Tryz.func37 (by kernel_rfl) rfl)
                      (goes_all (X := [A, B, lb, lb + 1, kb]) (b := B) (bt := kb + 1) (L := L) _ y8 hTB8 hbt8) (fun h k => h.trans k) (fun W l o o' _ h hc _ => KQ.put h hc o') (fun W => KQ.refl _ W) (Below.refl _ _) 24 25
                      (fun pre W => I2 w y8 kb D pre W) (fun _ _ _ => False)
                      (I2_own (by omega) (by have := HDW.out; omega)) (fun c s A B row hs hg hr => hs) ⟨hkb, KT.refl _ _, a5, HKD8.out⟩ ?assign2 ?body2 ?done2 ?stop2
                    case assign2 =>
                      intro l x W K hK
                      gi_wp2
                      exact hK
                    case body2 =>
                      rintro l pre x V hl ⟨b1, b2, b3, b4⟩ hpx
                      simp only [List.setIfInBounds_toArray, List.set_cons_succ, List.set_cons_zero]
                      obtain ⟨xp, xv⟩ := x
                      have hxL : (xp, xv) ∈ L := by obtain ⟨t, ht⟩ := hpx; rw [← ht]; simp
                      have hxv : xv = ln xp := by
                        have := mem_look hTB8.srt hxL
                        rw [HMa.out xp] at this
                        split at this
                        · exact (Option.some.inj this).symm
                        · cases this
                      subst hxv
                      have hlen : pre.length < L.length := by have := hpx.length_le; simp at this; omega
                      have hLx : (L[pre.length]'hlen).1 = xp := by
                        obtain ⟨t, ht⟩ := hpx
                        have : L[pre.length]? = some (xp, ln xp) := by rw [← ht]; simp
                        rw [List.getElem?_eq_getElem hlen] at this
                        rw [Option.some.inj this]
                      have hL9 := HL9.out
                      have cl := cell1 (b2.cells _ _ _ _ (by simp; omega) a1)
                      have ck := cell1 b1
                      have fk := froz b1 0
                      obtain ⟨o9, cp9, e9, hc9⟩ := own_cell2 (own_keep (w' := V) a2y fun g cur _ e => b2.cells g _ _ _ (by simpa using fun h : g = kb => by subst h; rw [hkb] at e; cases e) e)
                      obtain ⟨g9, eg9, cg9⟩ := hc9 pre.length hlen
                      subst eg9
                      rw [hLx] at cg9
                      obtain ⟨NL, HNL⟩ : ∃ NL, Hid (L.length = NL) := ⟨_, rfl⟩
                      obtain ⟨P, HP⟩ : ∃ P, Hid (pre.length = P) := ⟨_, rfl⟩
                      rw [HNL.out] at e9 hlen hL9
                      rw [HP.out] at hlen cg9 ck
                      rw [e9] at cl
                      have p0 : (P : Int) < (NL : Int) := by omega
                      have p1 : (0 : Int) ≤ (P : Int) := by omega
                      have p2 : ¬ (NL : Int) ≤ (P : Int) := by omega
                      have p3 : (P : Int) + 1 ≤ 9223372036854775807 := by omega
                      have HS : Hid (KeepsFrom (kb + 1 + 1) V (V.setCell ⟨kb, 0, none⟩ (.int .i64 ((P : Int) + 1))) ∧ KQ [A, B, lb, lb + 1, kb] V (V.setCell ⟨kb, 0, none⟩ (.int .i64 ((P : Int) + 1))) ∧ I2 w y8 kb D (pre ++ [(xp, ln xp)]) (V.setCell ⟨kb, 0, none⟩ (.int .i64 ((P : Int) + 1)))) := by
                        refine ⟨kf_set b1 _ _, KQ.setX (by simp) _ _, ?_, b2.trans (KT.set (by simp) _ _), b3.setCell (p := ⟨kb, 0, none⟩) (by simp; omega) _, (setCell_ne (by have := HDW.out; omega) _ _).trans b4⟩
                        rw [setCell_heap b1 0, List.length_append, ← HP.out]
                        simp
                      clear hLx hxL hpx b1 b2 b3 b4 hc9 e9 hlen hL9
                      gi_wp2
                      exact HS.out
                    case stop2 =>
                      rintro D c pre W hD hp h hK
                      exact h.elim
                    case done2 =>
                      rintro D2 V hD2 ⟨b1, b2, b3, b4⟩ hK2
                      have hLBA := HLBA.out
                      have hr9 := b2.cells _ _ _ _ (by simp; omega) hr7
                      have hTA9 := hTA8.kept (b2.mono (fun b hb => by simp at hb ⊢; omega)) (KTb b2 hTA8 (by simp; omega))
                      have hTB9 := hTB8.kept (b2.mono (fun b hb => by simp at hb ⊢; omega)) (KTb b2 hTB8 (by simp; omega))
                      have cl := cell1 (b2.cells _ _ _ _ (by simp; omega) a1)
                      have ck := cell1 b1
                      obtain ⟨o9, cp9, e9, -⟩ := own_cell2 a2y
                      rw [e9] at cl
                      have hL9 := HL9.out
                      have HX1 : Hid (V.heap[D2]? = some (.deferred (some []))) := hK2
                      have HX2 : Hid (V.heap[D]? = some (.deferred (some []))) := b4
                      have HXr : Hid (V.heap[w.heap.size]? = some (.cells #[.bool false] 4)) := hr9
                      have HXA : Hid (Tri V [A, B, lb, lb + 1, kb] A L) := hTA9
                      have HXB : Hid (Tri V [A, B, lb, lb + 1, kb] B L) := hTB9
                      have HXb : Hid (Below w.heap.size w V) := b3
                      have HD12 : Hid (D < D2 ∧ w.heap.size < D) := ⟨by have := HDW.out; omega, by have := HDL.out; omega⟩
                      have pA := fun n => len_any (V.drewN n) _ A L (HXA.out.below (below_drewN (Below.refl _ V) n))
                      have pB := fun n => len_any (V.drewN n) _ B L (HXB.out.below (below_drewN (Below.refl _ V) n))
                      obtain ⟨NL, HNL⟩ : ∃ NL, Hid (L.length = NL) := ⟨_, rfl⟩
                      rw [HNL.out] at cl ck pA pB hL9
                      have n1 : (NL : Int) ≤ 100 := by omega
                      clear b1 b2 b3 b4 hK2 hr9 hTA9 hTB9 hTA8 hTB8 e9 a1 a2y a5 hr7 hkb hbt8 hL9 hLBA
                      go_wp2_with fail
                      go_quiet ((go_at_call 32; first | exact Calls.quiet_of_same (pA _) | exact Calls.quiet_of_same (pB _)))
                      have kZ : Below V.heap.size V (V.drewN nq) := below_drewN (Below.refl _ V) nq
                      generalize V.drewN nq = Z at *
                      clear cl ck pA pB
                      go_wp2_with fail
                      go_loopw [26, 27, 28, 29, 30, 31, 32] (fun iv _ _ _ _ _ _ wr => ∃ (s : Nat), iv = .int .i64 (s : Int) ∧ s ≤ 60 ∧ Hid (Below Z.heap.size Z wr)) (fun iv _ _ _ _ _ _ _ => 60 + 1 - (intOf iv).toNat)
                      case atStart => exact ⟨0, rfl, by omega, Below.refl _ Z⟩
                      case round =>
                        obtain ⟨s, rfl, hs6, HB⟩ := hrel
                        have HVw : Hid (Below V.heap.size V wr) := keepB kZ HB.out
                        clear kZ
                        by_cases hc : s < N2
                        · have p0 : (s : Int) < (N2 : Int) := by omega
                          by_cases hd : s < 60
                          · have p1 : (0 : Int) ≤ (s : Int) := by omega
                            have p2 : (s : Int) < 60 := by omega
                            have p3 : (s : Int) + 1 ≤ 9223372036854775807 := by omega
                            have hb : Below w.heap.size w wr := keepB HXb.out HVw.out
                            obtain ⟨o', c', e', -, hcell⟩ := LA2.out wr hb
                            rw [HN2.out] at e'
                            cases e'
                            obtain ⟨a, rfl, c0, c1⟩ := hcell s (by rw [HN2.out]; exact hc)
                            obtain ⟨x, hx⟩ : ∃ x, z2[s]'(by rw [HN2.out]; exact hc) = x := ⟨_, rfl⟩
                            rw [hx] at c0 c1
                            have HDD : Hid (s < 60) := hd
                            have HC1x : Hid (x.size ≤ maxLen) := c1
                            have HC0x : Hid (∀ y, Below wr.heap.size wr y → y.cell? (a.add s) = some (.string x)) := fun y hy => (hy.cell (World.block_lt_of_cell? wr _ c0)).trans c0
                            obtain ⟨fv, fn, fo, HF⟩ := find_same L x
                            clear hx hcell hc hd hs6 hb c1
                            go_wp2_with fail
                            refine (find_any _ [A, B, lb, lb + 1, kb] A L x (HXA.out.below HVw.out) HC1x.out).mono ?_
                            rintro e x1 ⟨he, k1⟩
                            obtain rfl := HF e he
                            have c2 := HC0x.out x1 k1
                            have HV1 : Hid (Below V.heap.size V x1) := keepB HVw.out k1
                            have HB1 : Hid (Below Z.heap.size Z x1) := keepB HB.out k1
                            clear he c0 k1
                            go_wp2_with fail
                            refine (find_any _ [A, B, lb, lb + 1, kb] B L x (HXB.out.below HV1.out) HC1x.out).mono ?_
                            rintro e x2 ⟨he, k1⟩
                            obtain rfl := HF e he
                            have HB2 : Hid (Below Z.heap.size Z x2) := keepB HB1.out k1
                            clear he c2 k1 HF
                            go_wp2_with fail
                            exact ⟨⟨s + 1, by simp, HDD.out, HB2⟩, by simp only [intOf]; have := HDD.out; omega⟩
                          · have p2 : ¬ (s : Int) < 60 := by omega
                            have hcR := kept HVw.out HXr.out
                            have cR := cell1 hcR
                            have fR := froz hcR 0
                            clear hc hd hs6
                            go_wp2_with fail
                            have hK1 := kept HVw.out HX1.out
                            have hK0 := kept HVw.out HX2.out
                            have hD12 := HD12.out
                            have bz0 : Below w.heap.size w wr := keepB HXb.out HVw.out
                            have u1 : (wr.setCell ⟨w.heap.size, 0, none⟩ (.bool true)).heap[D2]? = some (.deferred (some [])) := (setCell_ne (by omega) _ _).trans hK1
                            have u0 : (wr.setCell ⟨w.heap.size, 0, none⟩ (.bool true)).heap[D]? = some (.deferred (some [])) := (setCell_ne (by omega) _ _).trans hK0
                            have mr := setCell_heap hcR 0 (.bool true)
                            have bz : Below w.heap.size w (wr.setCell ⟨w.heap.size, 0, none⟩ (.bool true)) := bz0.setCell (p := ⟨w.heap.size, 0, none⟩) (Nat.le_refl _) (.bool true)
                            generalize wr.setCell ⟨w.heap.size, 0, none⟩ (.bool true) = V0 at *
                            have v0 : (V0.putObj D2 (.deferred none)).heap[D]? = some (.deferred (some [])) := (World.putObj_heap_other (by omega)).trans u0
                            have vr := (World.putObj_heap_other (o := .deferred none) (show w.heap.size ≠ D by omega)).trans ((World.putObj_heap_other (o := .deferred none) (show w.heap.size ≠ D2 by omega)).trans mr)
                            have bw := (bz.trans (belowK_b (w := w) (Nat.le_refl _) _ D2 _ (.deferred none) (by omega) u1 rfl rfl)).trans (belowK_b (w := w) (Nat.le_refl _) _ D _ (.deferred none) (by omega) v0 rfl rfl)
                            refine ⟨by simp, .inl ⟨_, _, rfl, run_takeDeferred u1, by simp, .inl ⟨_, _, rfl, run_takeDeferred v0, ?_⟩⟩⟩
                            have cr := cell1 vr
                            refine ⟨.bool true, ?_, rfl, bw⟩
                            simp [results, Tryz.f7, go_sem, cr]
                        · have p0 : ¬ (s : Int) < (N2 : Int) := by omega
                          have hcR := kept HVw.out HXr.out
                          have cR := cell1 hcR
                          have fR := froz hcR 0
                          clear hc hs6
                          go_wp2_with fail
                          have hK1 := kept HVw.out HX1.out
                          have hK0 := kept HVw.out HX2.out
                          have hD12 := HD12.out
                          have bz0 : Below w.heap.size w wr := keepB HXb.out HVw.out
                          have u1 : (wr.setCell ⟨w.heap.size, 0, none⟩ (.bool true)).heap[D2]? = some (.deferred (some [])) := (setCell_ne (by omega) _ _).trans hK1
                          have u0 : (wr.setCell ⟨w.heap.size, 0, none⟩ (.bool true)).heap[D]? = some (.deferred (some [])) := (setCell_ne (by omega) _ _).trans hK0
                          have mr := setCell_heap hcR 0 (.bool true)
                          have bz : Below w.heap.size w (wr.setCell ⟨w.heap.size, 0, none⟩ (.bool true)) := bz0.setCell (p := ⟨w.heap.size, 0, none⟩) (Nat.le_refl _) (.bool true)
                          generalize wr.setCell ⟨w.heap.size, 0, none⟩ (.bool true) = V0 at *
                          have v0 : (V0.putObj D2 (.deferred none)).heap[D]? = some (.deferred (some [])) := (World.putObj_heap_other (by omega)).trans u0
                          have vr := (World.putObj_heap_other (o := .deferred none) (show w.heap.size ≠ D by omega)).trans ((World.putObj_heap_other (o := .deferred none) (show w.heap.size ≠ D2 by omega)).trans mr)
                          have bw := (bz.trans (belowK_b (w := w) (Nat.le_refl _) _ D2 _ (.deferred none) (by omega) u1 rfl rfl)).trans (belowK_b (w := w) (Nat.le_refl _) _ D _ (.deferred none) (by omega) v0 rfl rfl)
                          refine ⟨by simp, .inl ⟨_, _, rfl, run_takeDeferred u1, by simp, .inl ⟨_, _, rfl, run_takeDeferred v0, ?_⟩⟩⟩
                          have cr := cell1 vr
                          refine ⟨.bool true, ?_, rfl, bw⟩
                          simp [results, Tryz.f7, go_sem, cr]
                  case stop =>
                    rintro D c pre W hD hp h hK
                    exact h.elim
end Go.Proofs.YtheeicjoblkfnaaGreatDoor.Wa
