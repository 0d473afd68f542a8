/- Nodes: stillNodes. -/
import Derived.Test.YtbekjlinnbmpgaaTw
namespace Go.Proofs.Ytbekjlinnbmpgaa.Sn
set_option linter.unusedVariables false
set_option linter.unusedSimpArgs false
open Go.RowKit Lib0 Kp Kb Kd Kt Ks Kw Ku Kx Fs Nd Nq Nr Nl
theorem marks_lt {w : World} {g n : Nat} (h : marks w g n) : g < w.heap.size := World.block_lt_of_cell? w _ (h n (Nat.le_refl _) (by omega)).1
theorem lent_at {w : World} {base g : Nat} : ∀ (ts : List Tr) (i k : Nat) (h : k < ts.length), lentL w base g i ts → ∃ (tag : Int) (val : ByteArray) (kids : List Tr) (kg : Nat), ts[k] = .mk tag val kids ∧ w.cell? ⟨g, 3 * (i + k), none⟩ = some (.int .i64 tag) ∧ w.cell? ⟨g, 3 * (i + k) + 1, none⟩ = some (.string val) ∧
      w.cell? ⟨g, 3 * (i + k) + 2, none⟩ = some (.slice (some ⟨kg, 0, none⟩) kids.length (kids.length + 5)) ∧ Lent w base kg kids
  | [], _, _, h, _ => by simp at h
  | .mk tag val kids :: ts, i, 0, _, hl => by
    unfold lentL at hl
    obtain ⟨⟨kg, h0, h1, h2, h3, h4, h5⟩, _⟩ := hl
    exact ⟨tag, val, kids, kg, rfl, h0, h1, h2, h3, marks_lt h4, h4, h5⟩
  | t :: ts, i, k + 1, h, hl => by
    have h2 : lentL w base g (i + 1) ts := by
      cases t
      unfold lentL at hl
      exact hl.2
    have := lent_at ts (i + 1) k (by simpa using h) h2
    rw [show i + 1 + k = i + (k + 1) by omega] at this
    simpa using this
theorem lent_below {w x : World} {base g : Nat} {ts : List Tr} (hb : Below w.heap.size w x) (h : Lent w base g ts) : Lent x base g ts := lent_world (fun b _ hlt => hb.block b hlt) hb.size h
theorem isAgg_i (y : World) : (isAgg 3).run Try.prog y = .ok false y := by simp [isAgg, go_sem]
set_option maxRecDepth 100000 in
set_option maxHeartbeats 1600000 in
theorem still_any : ∀ (m : Nat) (ts : List Tr), SizeOf.sizeOf ts ≤ m → ∀ (base g : Nat) (v : Value) (w : World), Lent w base g ts → Lien w v ts →
    Calls Try.prog 24 #[.slice (some ⟨g, 0, none⟩) ts.length (ts.length + 5), v] w fun e w' => e = .returned (.bool true) ∧ Below w.heap.size w w' := by
  intro m
  induction m with
  | zero =>
    intro ts hm
    cases ts <;> simp at hm
  | succ m ih =>
    intro ts hm base g v w hle hz
    have HL : Hid (Lent w base g ts) := hle
    have HZ : Hid (Lien w v ts) := hz
    obtain ⟨o, cap, rfl, hl, hc⟩ := hz
    obtain ⟨N, HN, hN⟩ : ∃ N : Nat, Hid (ts.length = N) ∧ N ≤ 1048576 := ⟨_, rfl, hl⟩
    obtain ⟨M, HM5⟩ : ∃ M : Nat, Hid (N + 5 = M) := ⟨_, rfl⟩
    have eM := HM5.out
    have HC : Hid (ts ≠ [] → ∃ a, o = some a ∧ laid w a 0 ts) := hc
    have IH : Hid (∀ (ts : List Tr), SizeOf.sizeOf ts ≤ m → ∀ (base g : Nat) (v : Value) (w : World), Lent w base g ts → Lien w v ts →
      Calls Try.prog 24 #[.slice (some ⟨g, 0, none⟩) ts.length (ts.length + 5), v] w fun e w' => e = .returned (.bool true) ∧ Below w.heap.size w w') := ih
    have HM : Hid (SizeOf.sizeOf ts ≤ m + 1) := hm
    have y1 : IntKind.i64.wrap ((N : Int) + 5) = (M : Int) := by rw [IntKind.wrap_i64]; omega
    have y2 : (N : Int) + 5 = (M : Int) := by omega
    have y3 : IntKind.i64.wrap (M : Int) = (M : Int) := by rw [IntKind.wrap_i64]; omega
    have y4 : (0 : Int) ≤ (M : Int) := by omega
    clear hc hl ih hm hle
    rw [HN.out, eM]
    clear eM
    go_enter Try.func24, Try.ntmps24
    go_wp2
    go_loopw [6] (fun i wr => ∃ k : Nat, k ≤ M ∧ i = .int .i64 (k : Int) ∧ Below w.heap.size w wr) (fun i _ => M + 1 - (intOf i).toNat)
    case atStart => exact ⟨0, Nat.zero_le _, rfl, Below.refl _ _⟩
    case round =>
      obtain ⟨k, hk, rfl, bw⟩ := hrel
      rename World => w9
      by_cases hlt : k < M
      · have q0 : (0 : Int) ≤ (k : Int) := by omega
        have q1 : (k : Int) < (M : Int) := by omega
        have L9 := lent_below bw HL.out
        by_cases hkN : k < N
        · have q2 : ¬ (N : Int) ≤ (k : Int) := by omega
          have q3 : (k : Int) < (N : Int) := by omega
          have hkt : k < ts.length := by rw [HN.out]; exact hkN
          obtain ⟨a, rfl, hla⟩ := HC.out (by intro hh; rw [hh] at hkt; simp at hkt)
          obtain ⟨tag, val, kids, ko, kc, et, d0, d1, d2, hv, hkd⟩ := laid_at ts 0 k hkt (laid_below bw a 0 ts hla)
          obtain ⟨tag', val', kids', kg, et', c0, c1, c2, hkl⟩ := lent_at ts 0 k hkt L9.2.2.2
          rw [et] at et'
          injection et' with t1 t2 t3
          subst t1; subst t2; subst t3
          rw [Nat.zero_add] at d0 d1 d2
          rw [Nat.zero_add, Nat.mul_comm 3 k] at c0 c1 c2
          have hmem : Tr.mk tag val kids ∈ ts := by rw [← et]; exact List.getElem_mem hkt
          have pk := fun (y : World) (hy : Below w9.heap.size w9 y) => IH.out kids (by have := mem_lt hmem; have := HM.out; omega) base kg (.slice ko kids.length kc) y (lent_below hy hkl) (lien_below hkd hy)
          have hE : (a.add (k * 3)).block < w9.heap.size := World.block_lt_of_cell? w9 _ d0
          have hg9 : g < w9.heap.size := L9.2.1
          generalize kids.length = kl at *
          clear et hmem hla hkd hkl L9
          go_wp2_with fail
          go_quiet (fail)
          rename Nat => nq
          have BQ : Below w9.heap.size w9 (w9.drewN nq) := below_drewN (Below.refl _ _) nq
          have e2 := keepC BQ c2 hg9
          have g2 := keepC BQ d2 hE
          have pk2 := fun (y : World) (hy : Below (w9.drewN nq).heap.size (w9.drewN nq) y) => pk y (keepB BQ hy)
          have bw2 := keepB bw BQ
          have hE2 := Nat.lt_of_lt_of_le hE BQ.size
          have hg2 := Nat.lt_of_lt_of_le hg9 BQ.size
          generalize w9.drewN nq = w8 at *
          clear c0 c1 c2 d0 d1 d2 pk BQ hE hg9 bw
          go_wp2_with fail
          refine Ql.region_cl (by kernel_rfl) (by kernel_rfl) ?_
          repeat (refine wpQuiet_step (fun K hK => ?_); first
            | (go_simp; refine hK _ ?_; clear hK K)
            | (go_simp; refine ⟨_, fun _ _ => rfl, hK _ ?_⟩; clear hK K)
            | (go_simp; refine ⟨_, fun _ _ => ⟨rfl, rfl⟩, hK _ ?_⟩; clear hK K)
            | (refine Ql.q_cell (by rfl) 30 _ rfl g (k * 3 + 2) rfl _ e2 hg2 (fun y => isAgg_nodes y) (hK _ ?_); clear hK K)
            | (refine Ql.q_cell (by rfl) 30 _ rfl (a.add (k * 3)).block ((a.add (k * 3)).off + 2) rfl _ g2 hE2 (fun y => isAgg_nodes y) (hK _ ?_); clear hK K)
            | (go_simp; apply Exists.intro; refine ⟨fun y hy => ?_, hK _ ?_⟩; (go_at_call 24; exact Ql.cl_of hy (pk2 y hy)); clear hK K))
          refine wpQuiet_nil ?_
          intro y hy
          have b3 := keepB bw2 hy
          go_wp2
          go_roundw
          case rel => exact ⟨k + 1, by omega, by go_num, b3⟩
          case measure => simp [intOf]; omega
        · have q2 : (N : Int) ≤ (k : Int) := by omega
          obtain ⟨c0, c1, c2⟩ := L9.2.2.1 k (by rw [HN.out]; omega) (by rw [HN.out]; have := HM5.out; omega)
          rw [Nat.mul_comm 3 k] at c0 c1 c2
          unfold mk4 at c1
          go_wp2
          go_roundw
          case rel => exact ⟨k + 1, by omega, by go_num, bw⟩
          case measure => simp [intOf]; omega
      · have q1 : ¬ (k : Int) < (M : Int) := by omega
        go_wp2
        go_ret
        exact ⟨rfl, bw⟩
end Go.Proofs.Ytbekjlinnbmpgaa.Sn
