import Derived.Test.YtgchdjjafgkcbaaQf22
import Derived.Test.YtgchdjjafgkcbaaQf25
/- The laws' own requests. -/
namespace Go.Proofs.Ytgchdjjafgkcbaa.Ra
set_option linter.unusedVariables false
set_option linter.unusedSimpArgs false
open Go.RowKit Go.Maps Lib0 Kb Xp Za Ze Ih Fh Hh Pa Pb Pc Pe Pf Pg
attribute [local go_sem] Oper.semAt_some
def dec (n : Nat) : List UInt8 := if h : n = 0 then [] else dec (n / 10) ++ [UInt8.ofNat (48 + n % 10)]
termination_by n
decreasing_by omega
def ks (n : Nat) : ByteArray := ⟨(dec n).toArray⟩
def req (n : Nat) : Rq := ⟨(n : Int) % 3, 0, ks n, ⟨#[115]⟩, ⟨#[]⟩, (n : Int) % 3, (n : Int) % 4, (n : Int), ⟨#[48, 50, 48, 48]⟩, [(11, ks n)], ⟨#[48, 49, 48, 48]⟩, []⟩
theorem conv1 (x : World) (z0 : Int) (d0 : Nat) (h0 : d0 < 256) (e0 : z0 = (d0 : Int)) :
    (convert 79 9 (.slice (some ⟨x.heap.size, 0, none⟩) 1 1)).run Try.prog (x.alloc (.cells #[.int .u8 z0] 5)) = .ok (.string ⟨#[UInt8.ofNat d0]⟩) (x.alloc (.cells #[.int .u8 z0] 5)) := by
  subst e0
  have h := h1_0 x (.cells #[.int .u8 (d0 : Int)] 5)
  refine run_convert_bytes_back _ 79 9 5 ⟨x.heap.size, 0, none⟩ 1 [UInt8.ofNat d0] Try.underlying79 Try.underlying5 Try.underlying9 (fun j hj => ?_)
  rw [show (⟨x.heap.size, 0, none⟩ : Addr).add j = ⟨x.heap.size, j, none⟩ by unfold Addr.add; split <;> simp_all]
  unfold World.cell?
  rw [h]
  match j, hj with
  | 0, _ => simp [Nat.mod_eq_of_lt h0]
theorem dec_step (i : Nat) (h : 0 < i) : dec i = dec (i / 10) ++ [UInt8.ofNat (48 + i % 10)] := by
  rw [dec, dif_neg (by omega)]
theorem dec_len : ∀ n : Nat, (dec n).length ≤ n := by
  intro n
  induction n using Nat.strongRecOn with
  | _ n ih =>
    by_cases h : n = 0
    · subst h; rw [dec, dif_pos rfl]; simp
    · rw [dec, dif_neg h, List.length_append, List.length_singleton]
      have := ih (n / 10) (by omega)
      omega
set_option maxRecDepth 100000 in
set_option maxHeartbeats 1600000 in
theorem request_any (n : Nat) (hn : n ≤ 1000000) (w : World) : Calls Try.prog 14 #[.int .i64 (n : Int)] w fun e w' => ∃ v1, e = .returned (pv (req n) v1 (.slice none 0 0)) ∧ w'.ownsRow w.heap.size tF 3 v1 1 (fc [(11, ks n)]) ∧ Below w.heap.size w w' := by
  obtain ⟨y, hy⟩ : ∃ y, w.alloc (.cells #[.int .i64 0, .int .i64 0, .string ⟨#[]⟩, .string ⟨#[]⟩, .string ⟨#[]⟩, .int .i64 0, .int .i64 0, .int .i64 0, .string ⟨#[]⟩, .slice none 0 0, .string ⟨#[]⟩, .slice none 0 0] tP) = y := ⟨_, rfl⟩
  have HY : Hid (Below w.heap.size w y) := hy ▸ below_one _ _
  have HZ : Hid (y.heap[w.heap.size]? = some (.cells zP tP (0, 0))) := hy ▸ h1_0 _ _
  go_enter Try.func14, Try.ntmps14
  go_wp2_with fail
  try rw [hy]
  clear hy
  have HI : Hid (Below w.heap.size w y ∧ y.heap[w.heap.size]? = some (.cells zP tP (0, 0))) := ⟨HY.out, HZ.out⟩
  go_loopw [3, 4] (fun kv iv wr => ∃ (i : Nat) (k : ByteArray), iv = .int .i64 (i : Int) ∧ kv = .string k ∧ i ≤ n ∧ Hid (dec i ++ k.data.toList = dec n) ∧ Hid (Below w.heap.size w wr ∧ wr.heap[w.heap.size]? = some (.cells zP tP (0, 0)))) (fun _ iv _ => (intOf iv).toNat)
  case atStart => exact ⟨n, ⟨#[]⟩, rfl, rfl, Nat.le_refl _, by show _ = _; simp, HI.out⟩
  case round =>
    obtain ⟨i, k, rfl, rfl, hi, HK, HS⟩ := hrel
    by_cases h0 : 0 < i
    · have q0 : (0 : Int) < (i : Int) := by omega
      have hks : k.size ≤ 1000000 := by
        have h1 := congrArg List.length HK.out
        have h2 := dec_len n
        rw [List.length_append] at h1
        have h3 : k.data.toList.length = k.size := by rw [Array.length_toList]; rfl
        omega
      have hcv := conv1 wr (48 + (i : Int) % 10) (48 + i % 10) (by omega) (by push_cast; rfl)
      have HB2 : Hid (Below w.heap.size w (wr.alloc (.cells #[.int .u8 (48 + (i : Int) % 10)] 5)) ∧ (wr.alloc (.cells #[.int .u8 (48 + (i : Int) % 10)] 5)).heap[w.heap.size]? = some (.cells zP tP (0, 0))) := ⟨keepB HS.out.1 (below_one _ _), kept (below_one _ _) HS.out.2⟩
      go_wp2_with fail
      have hdv : ((i : Int) / 10) = ((i / 10 : Nat) : Int) := by omega
      refine ⟨⟨i / 10, _, by rw [hdv], rfl, by omega, ?_, HB2.out⟩, ?_⟩
      · show _ = _
        rw [← HK.out, dec_step i h0, ByteArray.data_append]
        simp
      · simp only [intOf]
        omega
    · obtain rfl : i = 0 := by omega
      have q0 : ¬ (0 : Int) < ((0 : Nat) : Int) := by omega
      have hk : k = ks n := by
        have h1 := HK.out
        rw [dec, dif_pos rfl, List.nil_append] at h1
        unfold ks
        rw [← h1]
      subst hk
      have HX : Hid ((wr.alloc (.cells #[.int .i64 11, .string (ks n), .slice none 0 0] tF)).heap[w.heap.size]? = some (.cells zP tP (0, 0))) := kept (below_one _ _) HS.out.2
      have HG : Hid ((wr.alloc (.cells #[.int .i64 11, .string (ks n), .slice none 0 0] tF)).heap[wr.heap.size]? = some (.cells #[.int .i64 11, .string (ks n), .slice none 0 0] tF (0, 0))) := h1_0 _ _
      have HLT : Hid (w.heap.size < wr.heap.size) := (Array.getElem?_eq_some_iff.1 HS.out.2).1
      clear HK hi h0
      go_wp2_with (first | (refine wpList_store_row rfl tP _ _ rfl w.heap.size _ rfl rfl _ _ HX.out infoP rfl (by simp [Value.oneCell']) ?_) | fail)
      have hlt := HLT.out
      refine bodyPost_ret (v := .agg #[.int .i64 ((n : Int) % 3), .int .i64 0, .string (ks n), .string ⟨#[115]⟩, .string ⟨#[]⟩, .int .i64 ((n : Int) % 3), .int .i64 ((n : Int) % 4), .int .i64 (n : Int), .string ⟨#[48, 50, 48, 48]⟩, .slice (some ⟨wr.heap.size, 0, none⟩) 1 1, .string ⟨#[48, 49, 48, 48]⟩, .slice none 0 0]) (results_cell_row (fn := Try.f14) rfl _ _ w.heap.size tP _ _ _ rfl (setRow_at HX.out #[.int .i64 ((n : Int) % 3), .int .i64 0, .string (ks n), .string ⟨#[115]⟩, .string ⟨#[]⟩, .int .i64 ((n : Int) % 3), .int .i64 ((n : Int) % 4), .int .i64 (n : Int), .string ⟨#[48, 50, 48, 48]⟩, .slice (some ⟨wr.heap.size, 0, none⟩) 1 1, .string ⟨#[48, 49, 48, 48]⟩, .slice none 0 0]) Try.underlying48 rfl infoP) rfl ⟨.slice (some ⟨wr.heap.size, 0, none⟩) 1 1, rfl, ?_, below_setRow (keepB HS.out.1 (below_one _ _)) (Nat.le_refl _) _⟩
      refine ⟨by simp [fc], .inr ⟨wr.heap.size, 1, _, rfl, by omega, (setRow_ne (by omega) _).trans HG.out, Nat.le_refl _, by unfold maxLen; omega, rfl, rfl⟩⟩
end Go.Proofs.Ytgchdjjafgkcbaa.Ra
/- The document's Same over fields without kids; same, its. -/
namespace Go.Proofs.Ytgchdjjafgkcbaa.Sa
set_option linter.unusedVariables false
set_option linter.unusedSimpArgs false
open Go.RowKit Go.Maps Lib0 Kb Xp Za Zb Zc Zd Ze Pa Pb Ra
attribute [local go_sem] Oper.semAt_some
set_option maxRecDepth 100000 in
theorem nodes_nil (w : World) : Calls Try.prog 58 #[.slice none 0 0, .slice none 0 0] w fun e w' => e = .returned (.bool true) ∧ w' = w := by
  go_enter Try.func58, Try.ntmps58
  go_wp2_with fail
  go_loopw [5] (fun iv wr => iv = .int .i64 0 ∧ wr = w) (fun _ _ => 0)
  case atStart => exact ⟨rfl, rfl⟩
  case round =>
    obtain ⟨rfl, rfl⟩ := hrel
    go_wp2_with fail
    go_ret
    exact ⟨rfl, rfl⟩
set_option maxRecDepth 100000 in
set_option maxHeartbeats 1600000 in
theorem fields_yes (v u : Value) (L : List Fl) (w : World) (h : RowF w v L) (h2 : RowF w u L) (hL : L.length ≤ 100000) : Calls Try.prog 48 #[v, u] w fun e w' => e = .returned (.bool true) ∧ Below w.heap.size w w' := by
  obtain ⟨o, cap, rfl, hc⟩ := h
  obtain ⟨o2, cap2, rfl, hc2⟩ := h2
  have HC : Hid (∀ i (h : i < L.length), ∃ a b : Addr, o = some a ∧ o2 = some b ∧ (w.cell? (a.add (i * 3)) = some (.int .i64 L[i].1) ∧ w.cell? ⟨(a.add (i * 3)).block, (a.add (i * 3)).off + 1, none⟩ = some (.string L[i].2) ∧ w.cell? ⟨(a.add (i * 3)).block, (a.add (i * 3)).off + 2, none⟩ = some (.slice none 0 0)) ∧ (w.cell? (b.add (i * 3)) = some (.int .i64 L[i].1) ∧ w.cell? ⟨(b.add (i * 3)).block, (b.add (i * 3)).off + 1, none⟩ = some (.string L[i].2) ∧ w.cell? ⟨(b.add (i * 3)).block, (b.add (i * 3)).off + 2, none⟩ = some (.slice none 0 0))) := fun i hi => by
    obtain ⟨a, e, c0, c1, c2⟩ := hc i hi
    obtain ⟨b, e2, d0, d1, d2⟩ := hc2 i hi
    exact ⟨a, b, e, e2, ⟨c0, c1, c2⟩, ⟨d0, d1, d2⟩⟩
  clear hc hc2
  obtain ⟨N, HN⟩ : ∃ N, Hid (L.length = N) := ⟨_, rfl⟩
  rw [HN.out] at hL ⊢
  have HNB : Hid (N ≤ 100000) := hL
  have HKK : Hid (∀ y, Below w.heap.size w y → ∀ p u, w.cell? p = some u → y.cell? p = some u) := fun y k p u hp => (k.cell (World.block_lt_of_cell? w _ hp)).trans hp
  have HND : Hid (∀ y, Calls Try.prog 58 #[.slice none 0 0, .slice none 0 0] y fun e w' => e = .returned (.bool true) ∧ w' = y) := nodes_nil
  clear hL
  go_enter Try.func48, Try.ntmps48
  go_wp2_with fail
  go_loopw [5] (fun iv wr => ∃ i : Nat, iv = .int .i64 (i : Int) ∧ i ≤ N ∧ Hid (Below w.heap.size w wr)) (fun iv _ => N + 1 - (intOf iv).toNat)
  case atStart => exact ⟨0, rfl, Nat.zero_le _, Below.refl _ _⟩
  case round =>
    obtain ⟨i, rfl, hi, HBR⟩ := hrel
    have q1 : (0 : Int) ≤ (i : Int) := by omega
    by_cases hlt : i < N
    · have hi2 : i < L.length := by rw [HN.out]; exact hlt
      obtain ⟨a, b, rfl, rfl, ⟨c0, c1, c2⟩, ⟨d0, d1, d2⟩⟩ := HC.out i hi2
      have q0 : (i : Int) < (N : Int) := by omega
      have q3 : (i : Int) + 1 ≤ 9223372036854775807 := by have := HNB.out; omega
      obtain ⟨x, HX⟩ : ∃ x : Fl, Hid (L[i]'hi2 = x) := ⟨L[i]'hi2, rfl⟩
      rw [HX.out] at c0 c1 d0 d1
      obtain ⟨xn, xs⟩ := x
      dsimp only at c0 c1 d0 d1
      have HIN : Hid (i < N) := hlt
      have HAL : Hid (∀ y, Below w.heap.size w y → (y.cell? (a.add (i * 3)) = some (.int .i64 xn) ∧ y.cell? (b.add (i * 3)) = some (.int .i64 xn)) ∧ (y.cell? ⟨(a.add (i * 3)).block, (a.add (i * 3)).off + 1, none⟩ = some (.string xs) ∧ y.cell? ⟨(b.add (i * 3)).block, (b.add (i * 3)).off + 1, none⟩ = some (.string xs))) := fun y k => ⟨⟨HKK.out y k _ _ c0, HKK.out y k _ _ d0⟩, ⟨HKK.out y k _ _ c1, HKK.out y k _ _ d1⟩⟩
      replace c2 := HKK.out _ HBR.out _ _ c2
      replace d2 := HKK.out _ HBR.out _ _ d2
      clear c0 d0 c1 d1 hi hlt HX
      clear hi2
      go_wp2_with fail
      go_quiet ((go_at_call 58; exact Calls.quiet_of_same (HND.out _)))
      go_wp2_with fail
      have HB2 : Hid (Below w.heap.size w (wr.drewN nq)) := Kb.below_drewN HBR.out nq
      clear c2 d2
      generalize wr.drewN nq = y at *
      obtain ⟨⟨c0, d0⟩, ⟨c1, d1⟩⟩ := HAL.out y HB2.out
      clear HAL HBR
      go_quiet (fail)
      go_wp2_with fail
      have := HIN.out
      refine ⟨⟨i + 1, by simp, by omega, Kb.below_drewN HB2.out _⟩, ?_⟩
      simp only [intOf]
      omega
    · obtain rfl : i = N := by omega
      have q0 : ¬ (i : Int) < (i : Int) := by omega
      clear hi hlt
      go_wp2_with fail
      go_ret
      exact ⟨rfl, HBR.out⟩
theorem same_msg (mti : ByteArray) (v u : Value) (L : List Fl) (w : World) (h : RowF w v L) (h2 : RowF w u L) (hL : L.length ≤ 100000) : Calls Try.prog 39 #[.agg #[.string mti, v], .agg #[.string mti, u]] w fun e w' => e = .returned (.bool true) ∧ Below w.heap.size w w' := by
  have HBW : Hid (Below w.heap.size w ((w.alloc (.cells #[.string mti, v] tG)).alloc (.cells #[.string mti, u] tG))) := below_two w _ _
  have HF : Hid (Calls Try.prog 48 #[v, u] ((w.alloc (.cells #[.string mti, v] tG)).alloc (.cells #[.string mti, u] tG)) fun e w' => e = .returned (.bool true) ∧ Below ((w.alloc (.cells #[.string mti, v] tG)).alloc (.cells #[.string mti, u] tG)).heap.size ((w.alloc (.cells #[.string mti, v] tG)).alloc (.cells #[.string mti, u] tG)) w') := fields_yes v u L _ (rowf_below h HBW.out) (rowf_below h2 HBW.out) hL
  have x0 := h2_0 w (.cells #[.string mti, v] tG) (.cells #[.string mti, u] tG)
  have x1 := h2_1 w (.cells #[.string mti, v] tG) (.cells #[.string mti, u] tG)
  have HKP : Hid (∀ y, Below ((w.alloc (.cells #[.string mti, v] tG)).alloc (.cells #[.string mti, u] tG)).heap.size ((w.alloc (.cells #[.string mti, v] tG)).alloc (.cells #[.string mti, u] tG)) y → y.cell? ⟨w.heap.size, 0, none⟩ = some (.string mti) ∧ y.cell? ⟨w.heap.size + 1, 0, none⟩ = some (.string mti)) := fun y hy => by
    have e0 := kept hy x0
    have e1 := kept hy x1
    exact ⟨by simp [World.cell?, e0], by simp [World.cell?, e1]⟩
  obtain ⟨o, cap, rfl, -⟩ := h
  obtain ⟨o2, cap2, rfl, -⟩ := h2
  have c1 : ((w.alloc (.cells #[.string mti, .slice o L.length cap] tG)).alloc (.cells #[.string mti, .slice o2 L.length cap2] tG)).cell? ⟨w.heap.size, 1, none⟩ = some (.slice o L.length cap) := by simp [World.cell?, x0]
  have d1 : ((w.alloc (.cells #[.string mti, .slice o L.length cap] tG)).alloc (.cells #[.string mti, .slice o2 L.length cap2] tG)).cell? ⟨w.heap.size + 1, 1, none⟩ = some (.slice o2 L.length cap2) := by unfold World.cell?; rw [x1]; rfl
  clear x0 x1
  generalize L.length = N at *
  go_enter Try.func39, Try.ntmps39
  go_wp2_with fail
  refine HF.out.mono ?_
  rintro e y ⟨rfl, hb⟩
  obtain ⟨e0, e1⟩ := HKP.out y hb
  have HB : Hid (Below w.heap.size w y) := keepB HBW.out hb
  clear hb HF HKP c1 d1
  go_wp2_with fail
  go_ret
  exact ⟨rfl, HB.out⟩
theorem box12 {w y : World} {cs ds : Array Value} (h : Below ((w.alloc (.cells cs tP)).alloc (.cells ds tP)).heap.size ((w.alloc (.cells cs tP)).alloc (.cells ds tP)) y) : y.heap[w.heap.size]? = some (.cells cs tP (0, 0)) ∧ y.heap[w.heap.size + 1]? = some (.cells ds tP (0, 0)) := ⟨kept h (h2_0 _ _ _), kept h (h2_1 _ _ _)⟩
set_option maxRecDepth 100000 in
set_option maxHeartbeats 1600000 in
theorem same_req (r : Rq) (v1 v2 u1 u2 : Value) (w : World) (h1 : RowF w v1 r.L1) (h2 : RowF w v2 r.L2) (g1 : RowF w u1 r.L1) (g2 : RowF w u2 r.L2) (l1 : r.L1.length ≤ 100000) (l2 : r.L2.length ≤ 100000) : Calls Try.prog 29 #[pv r v1 v2, pv r u1 u2] w fun e w' => e = .returned (.bool true) ∧ Below w.heap.size w w' := by
  have HBW : Hid (Below w.heap.size w ((w.alloc (.cells (pcs r v1 v2) tP)).alloc (.cells (pcs r u1 u2) tP))) := below_two w _ _
  have HS1 : Hid (∀ y, Below w.heap.size w y → Calls Try.prog 39 #[.agg #[.string r.m1, v1], .agg #[.string r.m1, u1]] y fun e w' => e = .returned (.bool true) ∧ Below y.heap.size y w') := fun y hy => same_msg r.m1 v1 u1 r.L1 y (rowf_below h1 hy) (rowf_below g1 hy) l1
  have HS2 : Hid (∀ y, Below w.heap.size w y → Calls Try.prog 39 #[.agg #[.string r.m2, v2], .agg #[.string r.m2, u2]] y fun e w' => e = .returned (.bool true) ∧ Below y.heap.size y w') := fun y hy => same_msg r.m2 v2 u2 r.L2 y (rowf_below h2 hy) (rowf_below g2 hy) l2
  have HBX : Hid (∀ y, Below ((w.alloc (.cells (pcs r v1 v2) tP)).alloc (.cells (pcs r u1 u2) tP)).heap.size ((w.alloc (.cells (pcs r v1 v2) tP)).alloc (.cells (pcs r u1 u2) tP)) y → y.heap[w.heap.size]? = some (.cells (pcs r v1 v2) tP (0, 0)) ∧ y.heap[w.heap.size + 1]? = some (.cells (pcs r u1 u2) tP (0, 0))) := fun y hy => box12 hy
  obtain ⟨o1, c1, e1, -⟩ := h1
  obtain ⟨o2, c2, e2, -⟩ := h2
  obtain ⟨o3, c3, e3, -⟩ := g1
  obtain ⟨o4, c4, e4, -⟩ := g2
  obtain ⟨K1, HK1⟩ : ∃ K1, Hid (r.L1.length = K1) := ⟨_, rfl⟩
  obtain ⟨K2, HK2⟩ : ∃ K2, Hid (r.L2.length = K2) := ⟨_, rfl⟩
  rw [HK1.out] at e1 e3
  rw [HK2.out] at e2 e4
  subst e1 e2 e3 e4
  obtain ⟨b1, b2⟩ := HBX.out _ (Below.refl _ _)
  obtain ⟨a0, a1, a2, a3, a4, a5, a6, a7, a8, a9, a10, a11⟩ := Pg.pcells b1
  obtain ⟨d0, d1, d2, d3, d4, d5, d6, d7, d8, d9, d10, d11⟩ := Pg.pcells b2
  unfold pv
  obtain ⟨lk, cl, nu, st, tr, fr, to_, no, m1, L1, m2, L2⟩ := r
  simp only [pcs] at *
  try dsimp only at a0 a1 a2 a3 a4 a5 a6 a7 a8 a10 d0 d1 d2 d3 d4 d5 d6 d7 d8 d10
  clear b1 b2 l1 l2
  go_enter Try.func29, Try.ntmps29
  go_wp2_with fail
  refine (HS1.out _ HBW.out).mono ?_
  rintro e y ⟨rfl, hb⟩
  obtain ⟨b1, b2⟩ := HBX.out y hb
  clear a0 a1 a2 a3 a4 a5 a6 a7 a8 a9 a10 a11 d0 d1 d2 d3 d4 d5 d6 d7 d8 d9 d10 d11
  have HB : Hid (Below w.heap.size w y) := keepB HBW.out hb
  have HBY : Hid (Below ((w.alloc _).alloc _).heap.size ((w.alloc _).alloc _) y) := hb
  have f10 : y.cell? ⟨w.heap.size, 10, none⟩ = some (.string m2) := by simp [World.cell?, b1]
  have f11 : y.cell? ⟨w.heap.size, 11, none⟩ = some (.slice o2 K2 c2) := by simp [World.cell?, b1]
  have g10 : y.cell? ⟨w.heap.size + 1, 10, none⟩ = some (.string m2) := by simp [World.cell?, b2]
  have g11 : y.cell? ⟨w.heap.size + 1, 11, none⟩ = some (.slice o4 K2 c4) := by simp [World.cell?, b2]
  clear b1 b2 hb
  go_wp2_with fail
  refine (HS2.out _ HB.out).mono ?_
  rintro e y2 ⟨rfl, hb⟩
  obtain ⟨b1, b2⟩ := HBX.out y2 (HBY.out.trans (hb.mono HBY.out.size))
  have HB2 : Hid (Below w.heap.size w y2) := keepB HB.out hb
  clear f10 f11 g10 g11 hb HS1 HS2 HBX
  have a0 : y2.cell? ⟨w.heap.size, 0, none⟩ = some (.int .i64 lk) := by simp [World.cell?, b1]
  have a1 : y2.cell? ⟨w.heap.size, 1, none⟩ = some (.int .i64 cl) := by simp [World.cell?, b1]
  have a2 : y2.cell? ⟨w.heap.size, 2, none⟩ = some (.string nu) := by simp [World.cell?, b1]
  have a3 : y2.cell? ⟨w.heap.size, 3, none⟩ = some (.string st) := by simp [World.cell?, b1]
  have a4 : y2.cell? ⟨w.heap.size, 4, none⟩ = some (.string tr) := by simp [World.cell?, b1]
  have a5 : y2.cell? ⟨w.heap.size, 5, none⟩ = some (.int .i64 fr) := by simp [World.cell?, b1]
  have a6 : y2.cell? ⟨w.heap.size, 6, none⟩ = some (.int .i64 to_) := by simp [World.cell?, b1]
  have a7 : y2.cell? ⟨w.heap.size, 7, none⟩ = some (.int .i64 no) := by simp [World.cell?, b1]
  have d0 : y2.cell? ⟨w.heap.size + 1, 0, none⟩ = some (.int .i64 lk) := by simp [World.cell?, b2]
  have d1 : y2.cell? ⟨w.heap.size + 1, 1, none⟩ = some (.int .i64 cl) := by simp [World.cell?, b2]
  have d2 : y2.cell? ⟨w.heap.size + 1, 2, none⟩ = some (.string nu) := by simp [World.cell?, b2]
  have d3 : y2.cell? ⟨w.heap.size + 1, 3, none⟩ = some (.string st) := by simp [World.cell?, b2]
  have d4 : y2.cell? ⟨w.heap.size + 1, 4, none⟩ = some (.string tr) := by simp [World.cell?, b2]
  have d5 : y2.cell? ⟨w.heap.size + 1, 5, none⟩ = some (.int .i64 fr) := by simp [World.cell?, b2]
  have d6 : y2.cell? ⟨w.heap.size + 1, 6, none⟩ = some (.int .i64 to_) := by simp [World.cell?, b2]
  have d7 : y2.cell? ⟨w.heap.size + 1, 7, none⟩ = some (.int .i64 no) := by simp [World.cell?, b2]
  clear b1 b2
  go_wp2_with fail
  go_ret
  exact ⟨rfl, HB2.out⟩
set_option maxRecDepth 100000 in
set_option maxHeartbeats 1600000 in
theorem its_yes (n : Nat) (hn : n ≤ 1000000) (v1 v2 : Value) (w : World) (h1 : RowF w v1 (req n).L1) (h2 : RowF w v2 (req n).L2) : Calls Try.prog 16 #[pv (req n) v1 v2, .int .i64 (n : Int)] w fun e w' => e = .returned (.bool true) ∧ Below w.heap.size w w' := by
  have HBW : Hid (Below w.heap.size w (w.alloc (.cells (pcs (req n) v1 v2) tP))) := below_one w _
  have HBX : Hid (∀ y, Below (w.alloc (.cells (pcs (req n) v1 v2) tP)).heap.size (w.alloc (.cells (pcs (req n) v1 v2) tP)) y → y.heap[w.heap.size]? = some (.cells (pcs (req n) v1 v2) tP (0, 0))) := fun y hy => kept hy (h1_0 _ _)
  have HR : Hid (∀ y, Calls Try.prog 14 #[.int .i64 (n : Int)] y fun e w' => ∃ u1, e = .returned (pv (req n) u1 (.slice none 0 0)) ∧ w'.ownsRow y.heap.size tF 3 u1 1 (fc [(11, ks n)]) ∧ Below y.heap.size y w') := fun y => request_any n hn y
  have HS : Hid (∀ y u1, Below w.heap.size w y → RowF y u1 (req n).L1 → Calls Try.prog 29 #[pv (req n) v1 v2, pv (req n) u1 (.slice none 0 0)] y fun e w' => e = .returned (.bool true) ∧ Below y.heap.size y w') := fun y u1 hy hu => same_req (req n) v1 v2 u1 (.slice none 0 0) y (rowf_below h1 hy) (rowf_below h2 hy) hu (rowf_nil y) (by show (1 : Nat) ≤ _; omega) (by show (0 : Nat) ≤ _; omega)
  obtain ⟨o1, c1, e1, -⟩ := h1
  obtain ⟨o2, c2, e2, -⟩ := h2
  replace e1 : v1 = .slice o1 1 c1 := e1
  replace e2 : v2 = .slice o2 0 c2 := e2
  subst e1 e2
  have hb0 := HBX.out _ (Below.refl _ _)
  obtain ⟨a0, a1, a2, a3, a4, a5, a6, a7, a8, a9, a10, a11⟩ := Pg.pcells hb0
  have HCL : Hid _ := fun y hy => Pg.pcells (HBX.out y hy)
  have HDR : Hid (∀ y, Below (w.alloc (.cells (pcs (req n) (.slice o1 1 c1) (.slice o2 0 c2)) tP)).heap.size (w.alloc (.cells (pcs (req n) (.slice o1 1 c1) (.slice o2 0 c2)) tP)).drew y → Below (w.alloc (.cells (pcs (req n) (.slice o1 1 c1) (.slice o2 0 c2)) tP)).heap.size (w.alloc (.cells (pcs (req n) (.slice o1 1 c1) (.slice o2 0 c2)) tP)) y) := fun y hy => (Below.refl _ _).drew.trans hy
  unfold pv at HR HS ⊢
  simp only [pcs, req] at *
  clear hb0 HBX
  go_enter Try.func16, Try.ntmps16
  go_wp2_with fail
  go_region_with (first
    | (go_at_call 14; refine (HR.out _).mono ?_; rintro e y ⟨u1, rfl, ho, hb⟩; have hru := rowf_own (L := [(11, ks n)]) ho; have hbb := HDR.out y hb; obtain ⟨g0, g1, g2, g3, g4, g5, g6, g7, g8, g9, g10, g11⟩ := HCL.out y hbb; have HBY : Hid (Below w.heap.size w y) := keepB HBW.out hbb; have HRU : Hid (RowF y u1 [(11, ks n)]) := hru; clear ho hb hbb hru)
    | (go_at_call 29; refine (HS.out _ _ HBY.out HRU.out).mono ?_; rintro e y2 ⟨rfl, hb⟩; have HEND : Hid (Below w.heap.size w y2) := keepB HBY.out hb; clear hb))
  all_goals (go_wp2_with fail)
  all_goals go_ret
  all_goals exact ⟨rfl, HEND.out⟩
end Go.Proofs.Ytgchdjjafgkcbaa.Sa
