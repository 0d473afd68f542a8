/- Nodes: parts. -/
import Derived.Test.YtbekjlinnbmpgaaNd
import Derived.Test.YtbekjlinnbmpgaaQl
namespace Go.Proofs.Ytbekjlinnbmpgaa.Nq
set_option linter.unusedVariables false
open Go.RowKit Lib0 Kp Kb Kd Kt Ks Kw Ku Kx Fs Nd
theorem mem_lt {ts : List Tr} {tag : Int} {val : ByteArray} {kids : List Tr} (h : Tr.mk tag val kids ∈ ts) : SizeOf.sizeOf kids < SizeOf.sizeOf ts := by
  have := List.sizeOf_lt_of_mem h
  have e : SizeOf.sizeOf (Tr.mk tag val kids) = 1 + SizeOf.sizeOf tag + SizeOf.sizeOf val + SizeOf.sizeOf kids := by simp
  omega
theorem lien_below {w x : World} {v : Value} {ts : List Tr} (h : Lien w v ts) (hb : Below w.heap.size w x) : Lien x v ts := by
  obtain ⟨o, cap, e, hl, hc⟩ := h
  refine ⟨o, cap, e, hl, fun hn => ?_⟩
  obtain ⟨a, ea, h1⟩ := hc hn
  exact ⟨a, ea, laid_below hb a 0 ts h1⟩
theorem lien_fine {w : World} {v : Value} {ts : List Tr} (h : Lien w v ts) : fine ts := by
  obtain ⟨o, cap, e, hl, hc⟩ := h
  by_cases hn : ts = []
  · subst hn; unfold fine; trivial
  · obtain ⟨a, _, h1⟩ := hc hn
    exact laid_fine a 0 ts h1
theorem isAgg_nodes (y : World) : (isAgg 30).run Try.prog y = .ok false y := by simp [isAgg, go_sem]
set_option maxRecDepth 100000 in
set_option maxHeartbeats 1600000 in
theorem parts_any : ∀ (m : Nat) (ts : List Tr), SizeOf.sizeOf ts ≤ m → ∀ (v : Value) (n : Int) (w : World), Lien w v ts → 0 ≤ n → n ≤ 135537 →
    Calls Try.prog 19 #[v, .int .i64 n, .int .i64 70000] w fun e w' => e = .returned (.int .i64 (prt 70000 ts n)) ∧ Below w.heap.size w w' := by
  intro m
  induction m with
  | zero =>
    intro ts hm
    cases ts <;> simp at hm
  | succ m ih =>
    intro ts hm v n w hz hn0 hn1
    have hf := lien_fine hz
    have HZ : Hid (Lien w v ts) := hz
    obtain ⟨o, cap, rfl, hl, hc⟩ := hz
    obtain ⟨N, HN, hN⟩ : ∃ N : Nat, Hid (ts.length = N) ∧ N ≤ 1048576 := ⟨_, rfl, hl⟩
    have HC : Hid (ts ≠ [] → ∃ a, o = some a ∧ laid w a 0 ts) := hc
    have HF : Hid (fine ts) := hf
    have IH : Hid (∀ ts : List Tr, SizeOf.sizeOf ts ≤ m → ∀ (v : Value) (n : Int) (w : World), Lien w v ts → 0 ≤ n → n ≤ 135537 →
      Calls Try.prog 19 #[v, .int .i64 n, .int .i64 70000] w fun e w' => e = .returned (.int .i64 (prt 70000 ts n)) ∧ Below w.heap.size w w') := ih
    have HM : Hid (SizeOf.sizeOf ts ≤ m + 1) := hm
    clear hc hl hf ih hm
    rw [HN.out]
    go_enter Try.func19, Try.ntmps19
    go_wp2
    go_loopw [1, 7] (fun nn i wr => ∃ (k : Nat) (r : Int), k ≤ N ∧ i = .int .i64 (k : Int) ∧ nn = .int .i64 r ∧ 0 ≤ r ∧ r ≤ 135537 ∧ Hid (prt 70000 (ts.drop k) r = prt 70000 ts n) ∧ Below w.heap.size w wr) (fun _ i _ => N - (intOf i).toNat)
    case atStart => exact ⟨0, n, Nat.zero_le _, rfl, rfl, hn0, hn1, by show _ = _; rw [List.drop_zero], Below.refl _ _⟩
    case round =>
      obtain ⟨k, r, hk, rfl, rfl, hr0, hr1, HR, bw⟩ := hrel
      rename World => w9
      by_cases hlt : k < N
      · have hlt' : (k : Int) < N := by omega
        by_cases hr : r ≤ 70000
        · have hkz : k < ts.length := by rw [HN.out]; exact hlt
          obtain ⟨a, rfl, hla⟩ := HC.out (by intro hh; rw [hh] at hkz; simp at hkz)
          obtain ⟨tag, val, kids, ko, kc, et, d0, d1, d2, hv, hkd⟩ := laid_at ts 0 k hkz (laid_below bw a 0 ts hla)
          rw [Nat.zero_add] at d0 d1 d2
          have hmem : Tr.mk tag val kids ∈ ts := by rw [← et]; exact List.getElem_mem hkz
          have HS := prt_step hkz et r hr
          obtain ⟨q, Hq, hq, hq1⟩ : ∃ q : Nat, Hid (val.size / 64 = q) ∧ (val.size : Int) / 64 = q ∧ q ≤ 65536 := ⟨_, rfl, by omega, by omega⟩
          rw [hq] at HS
          have hle := prt_le kids (r + 1 + q) (fine_at HF.out hmem) (by omega) (by omega)
          have pk := fun (y : World) (hy : Below w9.heap.size w9 y) => IH.out kids (by have := mem_lt hmem; have := HM.out; omega) (.slice ko kids.length kc) (r + 1 + q) y (lien_below hkd hy) (by omega) (by omega)
          obtain ⟨R, HRR, hR0, hR1⟩ : ∃ R : Int, Hid (prt 70000 kids (r + 1 + q) = R) ∧ 0 ≤ R ∧ R ≤ 135537 := ⟨_, rfl, hle.1, hle.2⟩
          rw [HRR.out] at pk HS
          have HS2 : Hid (prt 70000 (ts.drop (k + 1)) R = prt 70000 ts n) := by show _ = _; rw [← HS]; exact HR.out
          generalize kids.length = kl at *
          have u1 : IntKind.i64.wrap (r + 1) = r + 1 := wrap_i64 _ (by omega) (by omega)
          have u2 : IntKind.i64.wrap (r + 1 + (q : Int)) = r + 1 + (q : Int) := wrap_i64 _ (by omega) (by omega)
          have u3 : (val.size : Int).tdiv 64 = q := by rw [Int.tdiv_eq_ediv_of_nonneg (by omega)]; exact hq
          have u4 : IntKind.i64.wrap (q : Int) = q := wrap_i64 _ (by omega) (by omega)
          have hE : (a.add (k * 3)).block < w9.heap.size := World.block_lt_of_cell? w9 _ d0
          clear HS hle hla hkd et hmem
          go_wp2_with fail
          refine Ql.region_cl (by kernel_rfl) (by kernel_rfl) ?_
          repeat (refine wpQuiet_step (fun K hK => ?_); first
            | (go_simp; refine hK _ ?_; clear hK K)
            | (go_simp; refine ⟨_, fun _ _ => rfl, hK _ ?_⟩; clear hK K)
            | (go_simp; refine ⟨_, fun _ _ => ⟨rfl, rfl⟩, hK _ ?_⟩; clear hK K)
            | (refine Ql.q_cell (by rfl) 9 _ rfl (a.add (k * 3)).block ((a.add (k * 3)).off + 1) rfl _ d1 hE (fun y => isAgg_str y) (hK _ ?_); clear hK K)
            | (refine Ql.q_cell (by rfl) 30 _ rfl (a.add (k * 3)).block ((a.add (k * 3)).off + 2) rfl _ d2 hE (fun y => isAgg_nodes y) (hK _ ?_); clear hK K)
            | (go_simp; apply Exists.intro; refine ⟨fun y hy => ?_, hK _ ?_⟩; (go_at_call 19; exact Ql.cl_of hy (pk y hy)); clear hK K))
          refine wpQuiet_nil ?_
          intro y hy
          have b2 := keepB bw hy
          go_wp2
          go_round
          case rel => exact ⟨k + 1, R, by omega, by go_num, rfl, hR0, hR1, HS2, b2⟩
          case measure => simp [intOf]; omega
        · have HE : Hid (r = prt 70000 ts n) := by show _ = _; rw [← HR.out, prt_done _ _ hr]
          go_wp2
          go_ret
          exact ⟨by rw [HE.out]; rfl, bw⟩
      · have hlt' : ¬ (k : Int) < N := by omega
        have HE : Hid (r = prt 70000 ts n) := by
          show _ = _
          rw [← HR.out, List.drop_of_length_le (by rw [HN.out]; omega)]
          unfold prt; rfl
        go_wp2
        go_ret
        exact ⟨by rw [HE.out]; rfl, bw⟩
end Go.Proofs.Ytbekjlinnbmpgaa.Nq
