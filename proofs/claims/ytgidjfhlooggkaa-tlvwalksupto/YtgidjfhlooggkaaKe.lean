/- The laws' kept: lent nodes as they were. -/
import Derived.Test.YtgidjfhlooggkaaLw
import Derived.Test.YtgidjfhlooggkaaQl
import Derived.BigQuiet
namespace Go.Proofs.Ytgidjfhlooggkaa.Ke
set_option linter.unusedVariables false
set_option linter.unusedSimpArgs false
open Go.RowKit Kb Gd Nt Li Bo Bp Bq Bs Le Lw
theorem er_same : ∀ xs ys : List AT, er xs = er ys → xs.length = ys.length ∧ ∀ i (h : i < xs.length) (h' : i < ys.length), xs[i].tag = ys[i].tag ∧ xs[i].val = ys[i].val ∧ er xs[i].kids = er ys[i].kids
  | [], [], _ => ⟨rfl, fun i h => by simp at h⟩
  | .mk t v kv ks :: ts, .mk t' v' kv' ks' :: ts', e => by
    simp only [er, List.cons.injEq, Tr.mk.injEq] at e
    obtain ⟨⟨e1, e2, e3⟩, e4⟩ := e
    obtain ⟨h1, h2⟩ := er_same ts ts' e4
    refine ⟨by simp [h1], fun i h h' => ?_⟩
    cases i with
    | zero => exact ⟨e1, e2, e3⟩
    | succ i => simpa using h2 i (by simpa using h) (by simpa using h')
  | [], .mk t v kv ks :: ts, e => by simp [er] at e
  | .mk t v kv ks :: ts, [], e => by simp [er] at e
theorem lnt_at {w : World} {base : Nat} : ∀ (ts : List AT) (i : Nat) (h : i < ts.length), lnt w base ts → (fp ts).Nodup → Lnt w base ts[i].kv ts[i].kids
  | [], i, h, _, _ => by simp at h
  | .mk t v kv ks :: ts, 0, h, hr, nd => by
    unfold lnt at hr
    simp only [fp] at nd
    exact ⟨hr.1.1, hr.1.2.1, (List.nodup_append.1 nd).1⟩
  | .mk t v kv ks :: ts, i + 1, h, hr, nd => by
    unfold lnt at hr
    simp only [fp] at nd
    simpa using lnt_at ts i (by simpa using h) hr.2 (List.nodup_append.1 nd).2.1
theorem mark_at {w : World} {base g cap : Nat} {ts : List AT} (h : w.ownsRow base 40 3 (.slice (some ⟨g, 0, none⟩) (ts.length + 3) cap) (ts.length + 3) (cs ts ++ mkC (-7) 3)) (i : Nat) (h0 : ts.length ≤ i) (h1 : i < ts.length + 3) :
    w.cell? ⟨g, i * 3, none⟩ = some (.int .i64 (-7)) ∧ w.cell? ⟨g, i * 3 + 1, none⟩ = some (.string ⟨#[]⟩) ∧ w.cell? ⟨g, i * 3 + 2, none⟩ = some (.slice none 0 0) := by
  have hc := h.cells (g := g) rfl
  have hl := cs_len ts
  obtain ⟨a0, a1, a2⟩ := mkC_at (-7) 3 (i - ts.length) (by omega)
  refine ⟨?_, ?_, ?_⟩
  · rw [← add0]; refine hc _ _ ?_
    rw [List.getElem?_append_right (by omega), show i * 3 - (cs ts).length = (i - ts.length) * 3 by omega]; exact a0
  · rw [← add0]; refine hc _ _ ?_
    rw [List.getElem?_append_right (by omega), show i * 3 + 1 - (cs ts).length = (i - ts.length) * 3 + 1 by omega]; exact a1
  · rw [← add0]; refine hc _ _ ?_
    rw [List.getElem?_append_right (by omega), show i * 3 + 2 - (cs ts).length = (i - ts.length) * 3 + 2 by omega]; exact a2
theorem own_cap {w : World} {base n g cap : Nat} {xs : List Value} (h : w.ownsRow base 40 3 (.slice (some ⟨g, 0, none⟩) n cap) n xs) : n ≤ cap := by
  rcases h.2 with ⟨e, _⟩ | ⟨g', cap', cur, e, _, _, hn, _⟩
  · cases e
  · injection e with e1 e2 e3
    omega
def KeptC (n : Nat) : Prop := ∀ (xs ys : List AT) (v u : Value) (w : World) (base : Nat), SizeOf.sizeOf xs < n → Lnt w base v xs → Rdn w u ys → er xs = er ys →
  Calls Try.prog 19 #[v, u] w fun e w' => e = .returned (.bool true) ∧ Below w.heap.size w w'
set_option maxRecDepth 100000 in
set_option maxHeartbeats 3200000 in
theorem kept_step {n : Nat} (ih : KeptC n) (xs ys : List AT) (v u : Value) (w : World) (base : Nat) (hsz : SizeOf.sizeOf xs < n + 1) (ha : Lnt w base v xs) (hb : Rdn w u ys) (he : er xs = er ys) :
    Calls Try.prog 19 #[v, u] w fun e w' => e = .returned (.bool true) ∧ Below w.heap.size w w' := by
  have HL : Hid (Lnt w base v xs) := ha
  have HA : Hid (Rdn w v xs) := ha.reads
  have HB : Hid (Rdn w u ys) := hb
  obtain ⟨g, cap, e, hrow, hN⟩ := ha.row
  obtain ⟨p, cbp, e2, hM, -⟩ := hb.row
  obtain ⟨hlen, hat⟩ := er_same xs ys he
  obtain ⟨N, HN, hN2⟩ : ∃ N : Nat, Hid (xs.length = N) ∧ N ≤ 1048576 := ⟨_, rfl, hN⟩
  have HM : Hid (ys.length = N) := by show _ = _; rw [← hlen]; exact HN.out
  rw [HN.out] at e
  rw [HM.out] at e2
  subst e e2
  have HZ : Hid (SizeOf.sizeOf xs < n + 1) := hsz
  have HAT : Hid (∀ i (h : i < xs.length) (h' : i < ys.length), xs[i].tag = ys[i].tag ∧ xs[i].val = ys[i].val ∧ er xs[i].kids = er ys[i].kids) := hat
  have hcap := own_cap hrow
  rw [HN.out] at hcap
  have HROW : Hid (World.ownsRow w base 40 3 (.slice (some ⟨g, 0, none⟩) (xs.length + 3) cap) (xs.length + 3) (cs xs ++ mkC (-7) 3)) := hrow
  clear ha hb hN hM hsz he hlen hat hrow
  go_enter Try.func19, Try.ntmps19
  go_wp2
  go_loopw [5] (fun vi wr => ∃ (i : Nat), i ≤ N ∧ vi = .int .i64 (i : Int) ∧ Below w.heap.size w wr) (fun vi _ => N - (intOf vi).toNat)
  case atStart => exact ⟨0, Nat.zero_le _, rfl, Below.refl _ _⟩
  case round =>
    obtain ⟨i, hi, rfl, hwr⟩ := hrel
    rename World => wr
    by_cases hlt : i < N
    · have hlt' : (i : Int) < (N : Int) := by omega
      have hia : i < xs.length := by rw [HN.out]; exact hlt
      have hib : i < ys.length := by rw [HM.out]; exact hlt
      obtain ⟨et, ev, ek⟩ := HAT.out i hia hib
      have nd := List.nodup_append.1 HL.out.apart
      have ka := lnt_at xs i hia (HL.out.below hwr).kids nd.2.1
      have kb := rdL_at ys i hib (HB.out.below hwr).kids
      have hzl := kids_lt hia
      have hz0 := HZ.out
      obtain ⟨ya, hya⟩ : ∃ y, y = xs[i] := ⟨_, rfl⟩
      obtain ⟨yb, hyb⟩ : ∃ y, y = ys[i] := ⟨_, rfl⟩
      obtain ⟨o', cap', e', _, hc⟩ := (HA.out.below hwr).row
      obtain ⟨a, ea, d0, d1, d2⟩ := hc i hia
      rw [HN.out] at e'
      obtain ⟨rfl, rfl⟩ : some ⟨g, 0, none⟩ = o' ∧ cap = cap' := by simpa using e'
      injection ea with ea
      subst ea
      obtain ⟨p', cbp', e'', _, hc2⟩ := (HB.out.below hwr).row
      obtain ⟨b, eb, f0, f1, f2⟩ := hc2 i hib
      rw [HM.out] at e''
      obtain ⟨rfl, rfl⟩ : p = p' ∧ cbp = cbp' := by simpa using e''
      subst eb
      rw [← hya] at et ev ek ka hzl d0 d1 d2
      rw [← hyb] at et ev ek kb f0 f1 f2
      clear hc hc2 e' e'' hya hyb nd
      cases ya with
      | mk ta va kva ksa =>
      cases yb with
      | mk tb vb kvb ksb =>
      simp only [AT.tag, AT.val, AT.kv, AT.kids] at et ev ek ka kb hzl d0 d1 d2 f0 f1 f2
      subst et ev
      obtain ⟨lo, lc, hkv, -⟩ := ka.reads.row
      obtain ⟨mo, mc, hkv2, -⟩ := kb.1.row
      obtain ⟨LA, HLA⟩ : ∃ L, Hid (ksa.length = L) := ⟨_, rfl⟩
      obtain ⟨LB, HLB⟩ : ∃ L, Hid (ksb.length = L) := ⟨_, rfl⟩
      rw [HLA.out] at hkv
      rw [HLB.out] at hkv2
      subst hkv hkv2
      have pS := fun (y : World) (hy : Ql.Cl wr y) => ih ksa ksb (.slice lo LA lc) (.slice mo LB mc) y base (by omega) (ka.below hy) (kb.1.below hy) ek
      have ba2 := World.block_lt_of_cell? wr _ d2
      have bb2 := World.block_lt_of_cell? wr _ f2
      rw [add0] at d0 d1 d2 ba2
      simp only at d1 d2 ba2
      clear ka kb hzl hz0 ek
      go_wp2_with fail
      refine Ql.region_cl (by kernel_rfl) (by kernel_rfl) ?_
      repeat (refine wpQuiet_step (fun K hK => ?_); first
        | (refine Ql.q_cell (by rfl) 23 _ rfl g _ rfl _ d2 ba2 (fun y => Try.isAgg23 y) (hK _ ?_); clear hK K)
        | (refine Ql.q_cell (by rfl) 23 _ rfl (b.add (i * 3)).block _ rfl _ f2 bb2 (fun y => Try.isAgg23 y) (hK _ ?_); clear hK K)
        | (go_simp; apply Exists.intro; refine ⟨fun y hy => ?_, hK _ ?_⟩; (go_at_call 19; exact Ql.cl_of hy (pS y hy)); clear hK K)
        | (go_simp; refine hK _ ?_; clear hK K)
        | (go_simp; refine ⟨_, fun _ _ => rfl, hK _ ?_⟩; clear hK K)
        | (go_simp; refine ⟨_, fun _ _ => ⟨rfl, rfl⟩, hK _ ?_⟩; clear hK K))
      refine wpQuiet_nil ?_
      intro y1 hy1
      have g0 := (hy1.cell (World.block_lt_of_cell? wr _ d0)).trans d0
      have g1 := (hy1.cell (World.block_lt_of_cell? wr _ d1)).trans d1
      have h0 := (hy1.cell (World.block_lt_of_cell? wr _ f0)).trans f0
      have h1 := (hy1.cell (World.block_lt_of_cell? wr _ f1)).trans f1
      have hw1 : Below w.heap.size w y1 := keepB hwr hy1
      clear d0 d1 d2 f0 f1 f2 ba2 bb2 pS hy1
      go_wp2_with fail
      go_quiet (fail)
      have bq := below_drewN (Below.refl y1.heap.size y1) nq
      have hw2 := keepB hw1 bq
      clear g0 g1 h0 h1 bq
      generalize y1.drewN nq = y2 at *
      go_wp2
      exact ⟨⟨i + 1, by omega, by go_num, hw2⟩, by simp [intOf]; omega⟩
    · have hlt' : ¬ (i : Int) < (N : Int) := by omega
      obtain rfl : i = N := by omega
      have hc3 : (i : Int) + 3 ≤ (cap : Int) := by omega
      have HWR : Hid (Below w.heap.size w wr) := hwr
      obtain ⟨M, HM3⟩ : ∃ M : Nat, Hid (i + 3 = M) := ⟨_, rfl⟩
      clear hwr
      go_wp2
      go_loopw [8] (fun vi wx => ∃ (k : Nat), i ≤ k ∧ k ≤ i + 3 ∧ vi = .int .i64 (k : Int) ∧ Below w.heap.size w wx) (fun vi _ => i + 3 - (intOf vi).toNat)
      case atStart => exact ⟨i, Nat.le_refl _, by omega, rfl, HWR.out⟩
      case round =>
        obtain ⟨k, hk0, hk1, rfl, hwx⟩ := hrel
        rename World => wx
        by_cases hk : k < i + 3
        · have q1 : (k : Int) < (i : Int) + 3 := by omega
          have ro := owns_keep HROW.out fun q hq => hwx.block q (HROW.out.lt q hq).2
          obtain ⟨c0, c1, c2⟩ := mark_at ro k (by rw [HN.out]; exact hk0) (by rw [HN.out]; exact hk)
          have HWX : Hid (Below w.heap.size w wx) := hwx
          clear ro hwx
          go_wp2
          exact ⟨⟨k + 1, by omega, by omega, by go_num, HWX.out⟩, by simp [intOf]; omega⟩
        · have q1 : ¬ (k : Int) < (i : Int) + 3 := by omega
          have HWX : Hid (Below w.heap.size w wx) := hwx
          clear hwx
          go_wp2
          go_ret
          exact ⟨rfl, HWX.out⟩
theorem kept_all : ∀ n, KeptC n
  | 0 => fun xs ys v u w base h => absurd h (Nat.not_lt_zero _)
  | n + 1 => fun xs ys v u w base h ha hb he => kept_step (kept_all n) xs ys v u w base h ha hb he
theorem kept_any (xs ys : List AT) (v u : Value) (w : World) (base : Nat) (ha : Lnt w base v xs) (hb : Rdn w u ys) (he : er xs = er ys) :
    Calls Try.prog 19 #[v, u] w fun e w' => e = .returned (.bool true) ∧ Below w.heap.size w w' := kept_all _ xs ys v u w base (Nat.lt_succ_self _) ha hb he
end Go.Proofs.Ytgidjfhlooggkaa.Ke
