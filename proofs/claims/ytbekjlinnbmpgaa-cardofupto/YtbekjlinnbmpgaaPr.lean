/- Messages: Parts, of one message. -/
import Derived.Test.YtbekjlinnbmpgaaTn
namespace Go.Proofs.Ytbekjlinnbmpgaa.Pr
set_option linter.unusedVariables false
set_option linter.unusedSimpArgs false
open Go.RowKit Lib0 Kp Kb Kd Kt Ks Kw Ku Kx Fs Nd Nq Nr Nl Sn
open Sm (isAgg_fields)
set_option maxRecDepth 100000 in
set_option maxHeartbeats 3200000 in
theorem partsM_any (mti : ByteArray) (ts : List Tr) (v : Value) (gm : Nat) (w : World) (hm : w.heap[gm]? = some (.cells #[.string mti, v] 24)) (hz : Lien w v ts) :
    Calls Try.prog 7 #[.int .i64 70000, .slice (some ⟨gm, 0, none⟩) 1 1] w fun e w' => e = .returned (.int .i64 (prt 70000 ts 0)) ∧ Below w.heap.size w w' := by
  have hf := lien_fine hz
  obtain ⟨o, cap, rfl, hl, hc⟩ := hz
  obtain ⟨N, HN, hN⟩ : ∃ N : Nat, Hid (ts.length = N) ∧ N ≤ 1048576 := ⟨_, rfl, hl⟩
  have HC : Hid (ts ≠ [] → ∃ a, o = some a ∧ laid w a 0 ts) := hc
  have HF : Hid (fine ts) := hf
  clear hc hl hf
  rw [HN.out] at hm
  go_enter Try.func7, Try.ntmps7
  go_wp2
  go_loopw [5, 6, 7] (fun nn i _ wr => ((i = .int .i64 0 ∧ nn = .int .i64 0) ∨ (i = .int .i64 1 ∧ nn = .int .i64 (prt 70000 ts 0))) ∧ Below w.heap.size w wr) (fun _ i _ _ => 2 - (intOf i).toNat)
  case atStart => exact ⟨Or.inl ⟨rfl, rfl⟩, Below.refl _ _⟩
  case round =>
    obtain ⟨hc, bw0⟩ := hrel
    rename World => w7
    rcases hc with ⟨rfl, rfl⟩ | ⟨rfl, rfl⟩
    · go_wp2
      go_loopw [5, 7] (fun nn i wr => ∃ (k : Nat) (r : Int), k ≤ N ∧ i = .int .i64 (k : Int) ∧ nn = .int .i64 r ∧ 0 ≤ r ∧ r ≤ 135537 ∧ Hid (prt 70000 (ts.drop k) r = prt 70000 ts 0) ∧ Below w.heap.size w wr) (fun _ i _ => N - (intOf i).toNat)
      case atStart => exact ⟨0, 0, Nat.zero_le _, rfl, rfl, by decide, by decide, by show _ = _; rw [List.drop_zero], bw0⟩
      case round =>
        obtain ⟨k, r, hk, rfl, rfl, hr0, hr1, HR, bw⟩ := hrel
        rename World => w9
        obtain ⟨m0, m1, _, _⟩ := held2 bw hm
        have hgm : gm < w9.heap.size := World.block_lt_of_cell? w9 _ m1
        by_cases hlt : k < N
        · have hlt' : (k : Int) < N := by omega
          by_cases hr : r ≤ 70000
          · have hkz : k < ts.length := by rw [HN.out]; exact hlt
            obtain ⟨a, rfl, hla⟩ := HC.out (by intro hh; rw [hh] at hkz; simp at hkz)
            obtain ⟨tag, val, kids, ko, kc, et, d0, d1, d2, hv, hkd⟩ := laid_at ts 0 k hkz (laid_below bw a 0 ts hla)
            rw [Nat.zero_add] at d0 d1 d2
            have hmem : Tr.mk tag val kids ∈ ts := by rw [← et]; exact List.getElem_mem hkz
            have HS := prt_step hkz et r hr
            obtain ⟨q, Hq, hq, hq1⟩ : ∃ q : Nat, Hid (val.size / 64 = q) ∧ (val.size : Int) / 64 = q ∧ q ≤ 65536 := ⟨_, rfl, by omega, by omega⟩
            rw [hq] at HS
            have hle := prt_le kids (r + 1 + q) (fine_at HF.out hmem) (by omega) (by omega)
            have pk := fun (y : World) (hy : Below w9.heap.size w9 y) => parts_any _ kids (Nat.le_refl _) (.slice ko kids.length kc) (r + 1 + q) y (lien_below hkd hy) (by omega) (by omega)
            obtain ⟨R, HRR, hR0, hR1⟩ : ∃ R : Int, Hid (prt 70000 kids (r + 1 + q) = R) ∧ 0 ≤ R ∧ R ≤ 135537 := ⟨_, rfl, hle.1, hle.2⟩
            rw [HRR.out] at pk HS
            have HS2 : Hid (prt 70000 (ts.drop (k + 1)) R = prt 70000 ts 0) := by show _ = _; rw [← HS]; exact HR.out
            generalize kids.length = kl at *
            have u1 : IntKind.i64.wrap (r + 1) = r + 1 := wrap_i64 _ (by omega) (by omega)
            have u2 : IntKind.i64.wrap (r + 1 + (q : Int)) = r + 1 + (q : Int) := wrap_i64 _ (by omega) (by omega)
            have v3 : (val.size : Int).tdiv 64 = q := by rw [Int.tdiv_eq_ediv_of_nonneg (by omega)]; exact hq
            have v4 : IntKind.i64.wrap (q : Int) = q := wrap_i64 _ (by omega) (by omega)
            have hE : (a.add (k * 3)).block < w9.heap.size := World.block_lt_of_cell? w9 _ d0
            clear HS hle hla hkd et hmem
            go_wp2_with fail
            refine Ql.region_cl (by kernel_rfl) (by kernel_rfl) ?_
            repeat (refine wpQuiet_step (fun K hK => ?_); first
              | (go_simp; refine hK _ ?_; clear hK K)
              | (go_simp; refine ⟨_, fun _ _ => rfl, hK _ ?_⟩; clear hK K)
              | (go_simp; refine ⟨_, fun _ _ => ⟨rfl, rfl⟩, hK _ ?_⟩; clear hK K)
              | (refine Ql.q_cell (by rfl) 22 _ rfl gm 1 rfl _ m1 hgm (fun y => isAgg_fields y) (hK _ ?_); clear hK K)
              | (refine Ql.q_cell (by rfl) 9 _ rfl (a.add (k * 3)).block ((a.add (k * 3)).off + 1) rfl _ d1 hE (fun y => isAgg_str y) (hK _ ?_); clear hK K)
              | (refine Ql.q_cell (by rfl) 30 _ rfl (a.add (k * 3)).block ((a.add (k * 3)).off + 2) rfl _ d2 hE (fun y => isAgg_nodes y) (hK _ ?_); clear hK K)
              | (go_simp; apply Exists.intro; refine ⟨fun y hy => ?_, hK _ ?_⟩; (go_at_call 19; exact Ql.cl_of hy (pk y hy)); clear hK K))
            refine wpQuiet_nil ?_
            intro y hy
            have b2 := keepB bw hy
            go_wp2
            go_roundw
            case rel => exact ⟨k + 1, R, by omega, by go_num, rfl, hR0, hR1, HS2, b2⟩
            case measure => simp [intOf]; omega
          · have HE : Hid (Value.int .i64 r = .int .i64 (prt 70000 ts 0)) := by show _ = _; rw [← HR.out, prt_done _ _ hr]
            go_wp2
            exact ⟨⟨Or.inr ⟨by simp, HE.out⟩, bw⟩, by simp [intOf]⟩
        · have hlt' : ¬ (k : Int) < N := by omega
          have HE : Hid (Value.int .i64 r = .int .i64 (prt 70000 ts 0)) := by
            show _ = _
            rw [← HR.out, List.drop_of_length_le (by rw [HN.out]; omega)]
            unfold prt; rfl
          go_wp2
          exact ⟨⟨Or.inr ⟨by simp, HE.out⟩, bw⟩, by simp [intOf]⟩
    · go_wp2
      go_ret
      exact ⟨rfl, bw0⟩
end Go.Proofs.Ytbekjlinnbmpgaa.Pr
