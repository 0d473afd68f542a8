/- Messages: Still. -/
import Derived.Test.YtbekjlinnbmpgaaSn
namespace Go.Proofs.Ytbekjlinnbmpgaa.Sm
set_option linter.unusedVariables false
set_option linter.unusedSimpArgs false
open Go.RowKit Lib0 Kp Kb Kd Kt Ks Kw Ku Kx Fs Nd Nq Nr Nl Sn
theorem isAgg_fields (y : World) : (isAgg 22).run Try.prog y = .ok false y := by simp [isAgg, go_sem]
set_option maxRecDepth 100000 in
set_option maxHeartbeats 1600000 in
theorem stillM_any (mti : ByteArray) (ts : List Tr) (base g : Nat) (v : Value) (w : World) (hle : Lent w base g ts) (hz : Lien w v ts) :
    Calls Try.prog 11 #[.agg #[.string mti, .slice (some ⟨g, 0, none⟩) ts.length (ts.length + 5)], .agg #[.string mti, v]] w fun e w' => e = .returned (.bool true) ∧ Below w.heap.size w w' := by
  have HL0 : Hid (Lent w base g ts) := hle
  obtain ⟨o, cap, rfl, hl, hc⟩ := hz
  obtain ⟨N, HN, hN⟩ : ∃ N : Nat, Hid (ts.length = N) ∧ N ≤ 1048576 := ⟨_, rfl, hl⟩
  obtain ⟨M, HM5⟩ : ∃ M : Nat, Hid (N + 5 = M) := ⟨_, rfl⟩
  have eM := HM5.out
  have HC0 : Hid (ts ≠ [] → ∃ a, o = some a ∧ laid w a 0 ts) := hc
  have y1 : IntKind.i64.wrap ((N : Int) + 5) = (M : Int) := by rw [IntKind.wrap_i64]; omega
  have y2 : (N : Int) + 5 = (M : Int) := by omega
  have y3 : IntKind.i64.wrap (M : Int) = (M : Int) := by rw [IntKind.wrap_i64]; omega
  have y4 : (0 : Int) ≤ (M : Int) := by omega
  clear hc hl hle
  rw [HN.out, eM]
  clear eM
  go_enter Try.func11, Try.ntmps11
  go_wp2
  have Mt0 := h2_0 w (.cells #[.string mti, .slice (some ⟨g, 0, none⟩) N M] 24) (.cells #[.string mti, .slice o N cap] 24)
  have Mm0 := h2_1 w (.cells #[.string mti, .slice (some ⟨g, 0, none⟩) N M] 24) (.cells #[.string mti, .slice o N cap] 24)
  have Bw := below_two w (.cells #[.string mti, .slice (some ⟨g, 0, none⟩) N M] 24) (.cells #[.string mti, .slice o N cap] 24)
  have HL : Hid (Lent ((w.alloc (.cells #[.string mti, .slice (some ⟨g, 0, none⟩) N M] 24)).alloc (.cells #[.string mti, .slice o N cap] 24)) base g ts) := lent_below Bw HL0.out
  have HC : Hid (ts ≠ [] → ∃ a, o = some a ∧ laid ((w.alloc (.cells #[.string mti, .slice (some ⟨g, 0, none⟩) N M] 24)).alloc (.cells #[.string mti, .slice o N cap] 24)) a 0 ts) := (fun h => by
    obtain ⟨a, e, hl⟩ := HC0.out h
    exact ⟨a, e, laid_below Bw a 0 ts hl⟩ : ts ≠ [] → ∃ a, o = some a ∧ laid ((w.alloc (.cells #[.string mti, .slice (some ⟨g, 0, none⟩) N M] 24)).alloc (.cells #[.string mti, .slice o N cap] 24)) a 0 ts)
  generalize (w.alloc (.cells #[.string mti, .slice (some ⟨g, 0, none⟩) N M] 24)).alloc (.cells #[.string mti, .slice o N cap] 24) = x2 at *
  obtain ⟨bm, Hbm⟩ : ∃ bm, Hid (w.heap.size + 1 = bm) := ⟨_, rfl⟩
  obtain ⟨bt, Hbt⟩ : ∃ bt, Hid (w.heap.size = bt) := ⟨_, rfl⟩
  rw [Hbm.out] at Mm0
  rw [Hbt.out] at Mt0
  rw [show w.heap.size + 1 = bm from Hbm.out, show w.heap.size = bt from Hbt.out]
  clear HC0 HL0
  go_loopw [6] (fun i wr => ∃ k : Nat, k ≤ M ∧ i = .int .i64 (k : Int) ∧ Below x2.heap.size x2 wr) (fun i _ => M + 1 - (intOf i).toNat)
  case atStart => exact ⟨0, Nat.zero_le _, rfl, Below.refl _ _⟩
  case round =>
    obtain ⟨k, hk, rfl, bw⟩ := hrel
    rename World => w9
    obtain ⟨bt0, bt1, _, _⟩ := held2 bw Mt0
    obtain ⟨bm0, bm1, _, _⟩ := held2 bw Mm0
    by_cases hlt : k < M
    · have q0 : (0 : Int) ≤ (k : Int) := by omega
      have q1 : (k : Int) < (M : Int) := by omega
      have L9 := lent_below bw HL.out
      by_cases hkN : k < N
      · have q2 : ¬ (N : Int) ≤ (k : Int) := by omega
        have q3 : (k : Int) < (N : Int) := by omega
        have hkt : k < ts.length := by rw [HN.out]; exact hkN
        obtain ⟨a, rfl, hla⟩ := HC.out (by intro hh; rw [hh] at hkt; simp at hkt)
        obtain ⟨tag, val, kids, ko, kc, et, d0, d1, d2, hv, hkd⟩ := laid_at ts 0 k hkt (laid_below bw a 0 ts hla)
        obtain ⟨tag', val', kids', kg, et', c0, c1, c2, hkl⟩ := lent_at ts 0 k hkt L9.2.2.2
        rw [et] at et'
        injection et' with t1 t2 t3
        subst t1; subst t2; subst t3
        rw [Nat.zero_add] at d0 d1 d2
        rw [Nat.zero_add, Nat.mul_comm 3 k] at c0 c1 c2
        have hmem : Tr.mk tag val kids ∈ ts := by rw [← et]; exact List.getElem_mem hkt
        have pk := fun (y : World) (hy : Below w9.heap.size w9 y) => still_any _ kids (Nat.le_refl _) base kg (.slice ko kids.length kc) y (lent_below hy hkl) (lien_below hkd hy)
        have hE : (a.add (k * 3)).block < w9.heap.size := World.block_lt_of_cell? w9 _ d0
        have hg9 : g < w9.heap.size := L9.2.1
        have hbm9 : bm < w9.heap.size := World.block_lt_of_cell? w9 _ bm1
        generalize kids.length = kl at *
        clear et hmem hla hkd hkl L9
        go_wp2_with fail
        go_quiet (fail)
        rename Nat => nq
        have BQ : Below w9.heap.size w9 (w9.drewN nq) := below_drewN (Below.refl _ _) nq
        have e2 := keepC BQ c2 hg9
        have g2 := keepC BQ d2 hE
        have gm := keepC BQ bm1 hbm9
        have hbm8 := Nat.lt_of_lt_of_le hbm9 BQ.size
        have pk2 := fun (y : World) (hy : Below (w9.drewN nq).heap.size (w9.drewN nq) y) => pk y (keepB BQ hy)
        have bw2 := keepB bw BQ
        have hE2 := Nat.lt_of_lt_of_le hE BQ.size
        have hg2 := Nat.lt_of_lt_of_le hg9 BQ.size
        generalize w9.drewN nq = w8 at *
        clear c0 c1 c2 d0 d1 d2 pk BQ hE hg9 bw bt0 bt1 bm0 bm1 hbm9
        go_wp2_with fail
        refine Ql.region_cl (by kernel_rfl) (by kernel_rfl) ?_
        repeat (refine wpQuiet_step (fun K hK => ?_); first
          | (go_simp; refine hK _ ?_; clear hK K)
          | (go_simp; refine ⟨_, fun _ _ => rfl, hK _ ?_⟩; clear hK K)
          | (go_simp; refine ⟨_, fun _ _ => ⟨rfl, rfl⟩, hK _ ?_⟩; clear hK K)
          | (refine Ql.q_cell (by rfl) 22 _ rfl bm 1 rfl _ gm hbm8 (fun y => isAgg_fields y) (hK _ ?_); clear hK K)
          | (refine Ql.q_cell (by rfl) 30 _ rfl g (k * 3 + 2) rfl _ e2 hg2 (fun y => isAgg_nodes y) (hK _ ?_); clear hK K)
          | (refine Ql.q_cell (by rfl) 30 _ rfl (a.add (k * 3)).block ((a.add (k * 3)).off + 2) rfl _ g2 hE2 (fun y => isAgg_nodes y) (hK _ ?_); clear hK K)
          | (go_simp; apply Exists.intro; refine ⟨fun y hy => ?_, hK _ ?_⟩; (go_at_call 24; exact Ql.cl_of hy (pk2 y hy)); clear hK K))
        refine wpQuiet_nil ?_
        intro y hy
        have b3 := keepB bw2 hy
        go_wp2
        go_roundw
        case rel => exact ⟨k + 1, by omega, by go_num, b3⟩
        case measure => simp [intOf]; omega
      · have q2 : (N : Int) ≤ (k : Int) := by omega
        obtain ⟨c0, c1, c2⟩ := L9.2.2.1 k (by rw [HN.out]; omega) (by rw [HN.out]; have := HM5.out; omega)
        rw [Nat.mul_comm 3 k] at c0 c1 c2
        unfold mk4 at c1
        go_wp2
        go_roundw
        case rel => exact ⟨k + 1, by omega, by go_num, bw⟩
        case measure => simp [intOf]; omega
    · have q1 : ¬ (k : Int) < (M : Int) := by omega
      go_wp2
      go_ret
      exact ⟨rfl, Bw.trans (bw.mono Bw.size)⟩
end Go.Proofs.Ytbekjlinnbmpgaa.Sm
