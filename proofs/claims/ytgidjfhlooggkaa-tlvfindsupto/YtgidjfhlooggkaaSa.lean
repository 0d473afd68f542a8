/- The document's Same. -/
import Derived.Test.YtgidjfhlooggkaaFd
import Derived.BigQuiet
namespace Go.Proofs.Ytgidjfhlooggkaa.Sa
set_option linter.unusedVariables false
set_option linter.unusedSimpArgs false
open Go.RowKit Kb Ga Gb Gc Nt
def smB : List AT → List AT → Bool
  | [], [] => true
  | .mk t v _ ks :: ts, .mk t' v' _ ks' :: ts' => smB ks ks' && (t == t' && (decide (v = v') && smB ts ts'))
  | [], _ :: _ => false
  | _ :: _, [] => false
theorem smB_er : ∀ (a b : List AT), smB a b = true ↔ er a = er b
  | [], [] => by simp [smB]
  | .mk t v kv ks :: ts, .mk t' v' kv' ks' :: ts' => by
    have h1 := smB_er ks ks'
    have h2 := smB_er ts ts'
    simp only [smB, er, Bool.and_eq_true, beq_iff_eq, decide_eq_true_eq, List.cons.injEq, Tr.mk.injEq, h1, h2]
    constructor
    · rintro ⟨a, b, c, d⟩; exact ⟨⟨b, c, a⟩, d⟩
    · rintro ⟨⟨b, c, a⟩, d⟩; exact ⟨a, b, c, d⟩
  | [], .mk t v kv ks :: ts => by simp [smB, er]
  | .mk t v kv ks :: ts, [] => by simp [smB, er]
theorem smB_len : ∀ (a b : List AT), smB a b = true → a.length = b.length
  | [], [], _ => rfl
  | .mk t v kv ks :: ts, .mk t' v' kv' ks' :: ts', h => by
    simp only [smB, Bool.and_eq_true] at h
    simp only [List.length_cons, smB_len ts ts' h.2.2.2]
  | [], .mk t v kv ks :: ts, h => by simp [smB] at h
  | .mk t v kv ks :: ts, [], h => by simp [smB] at h
theorem smB_at (a b : List AT) (i : Nat) (ha : i < a.length) (hb : i < b.length) : smB (a.drop i) (b.drop i) = (smB a[i].kids b[i].kids && (a[i].tag == b[i].tag && (decide (a[i].val = b[i].val) && smB (a.drop (i + 1)) (b.drop (i + 1))))) := by
  rw [List.drop_eq_getElem_cons ha, List.drop_eq_getElem_cons hb]
  cases a[i]; cases b[i]
  simp only [smB, AT.kids, AT.tag, AT.val]
  first | rfl | congr
def SameC (n : Nat) : Prop := ∀ (xs ys : List AT) (v u : Value) (w : World), SizeOf.sizeOf xs < n → Rdn w v xs → Rdn w u ys →
  Calls Try.prog 12 #[v, u] w fun e w' => e = .returned (.bool (smB xs ys)) ∧ Below w.heap.size w w'
set_option maxRecDepth 100000 in
set_option maxHeartbeats 3200000 in
theorem same_step {n : Nat} (ih : SameC n) (xs ys : List AT) (v u : Value) (w : World) (hsz : SizeOf.sizeOf xs < n + 1) (ha : Rdn w v xs) (hb : Rdn w u ys) :
    Calls Try.prog 12 #[v, u] w fun e w' => e = .returned (.bool (smB xs ys)) ∧ Below w.heap.size w w' := by
  have HA : Hid (Rdn w v xs) := ha
  have HB : Hid (Rdn w u ys) := hb
  obtain ⟨o, cap, e, hN, -⟩ := ha.row
  obtain ⟨p, cbp, e2, hM, -⟩ := hb.row
  obtain ⟨N, HN, hN2⟩ : ∃ N : Nat, Hid (xs.length = N) ∧ N ≤ 1048576 := ⟨_, rfl, hN⟩
  obtain ⟨M, HM, hM2⟩ : ∃ M : Nat, Hid (ys.length = M) ∧ M ≤ 1048576 := ⟨_, rfl, hM⟩
  rw [HN.out] at e
  rw [HM.out] at e2
  subst e e2
  obtain ⟨R, HR⟩ : ∃ R, Hid (smB xs ys = R) := ⟨_, rfl⟩
  rw [HR.out]
  have HZ : Hid (SizeOf.sizeOf xs < n + 1) := hsz
  clear ha hb hN hM hsz
  by_cases hNM : N = M
  case neg =>
    have hq : ((N : Int) == (M : Int)) = false := by simp; omega
    have HF : Hid (R = false) := by
      show _ = _
      rw [← HR.out]
      cases h : smB xs ys with
      | false => rfl
      | true => exact absurd (smB_len xs ys h) (by rw [HN.out, HM.out]; exact hNM)
    go_enter Try.func12, Try.ntmps12
    go_wp2
    go_ret
    exact ⟨by rw [HF.out]; rfl, Below.refl _ _⟩
  subst hNM
  go_enter Try.func12, Try.ntmps12
  go_wp2
  go_loopw [5] (fun vi wr => ∃ (i : Nat), i ≤ N ∧ vi = .int .i64 (i : Int) ∧ Hid (smB (xs.drop i) (ys.drop i) = R) ∧ Below w.heap.size w wr) (fun vi _ => N - (intOf vi).toNat)
  case atStart => exact ⟨0, Nat.zero_le _, rfl, by show _ = _; simpa using HR.out, Below.refl _ _⟩
  case round =>
    obtain ⟨i, hi, rfl, HS, hwr⟩ := hrel
    rename World => wr
    by_cases hlt : i < N
    · have hlt' : (i : Int) < (N : Int) := by omega
      have hia : i < xs.length := by rw [HN.out]; exact hlt
      have hib : i < ys.length := by rw [HM.out]; exact hlt
      have HT := smB_at xs ys i hia hib
      rw [HS.out] at HT
      have ka := rdL_at xs i hia (HA.out.below hwr).kids
      have kb := rdL_at ys i hib (HB.out.below hwr).kids
      have hzl := kids_lt hia
      have hz0 := HZ.out
      obtain ⟨ya, hya⟩ : ∃ y, y = xs[i] := ⟨_, rfl⟩
      obtain ⟨yb, hyb⟩ : ∃ y, y = ys[i] := ⟨_, rfl⟩
      obtain ⟨o', cap', e', _, hc⟩ := (HA.out.below hwr).row
      obtain ⟨a, ea, d0, d1, d2⟩ := hc i hia
      rw [HN.out] at e'
      obtain ⟨rfl, rfl⟩ : o = o' ∧ cap = cap' := by simpa using e'
      subst ea
      obtain ⟨p', cbp', e'', _, hc2⟩ := (HB.out.below hwr).row
      obtain ⟨b, eb, f0, f1, f2⟩ := hc2 i hib
      rw [HM.out] at e''
      obtain ⟨rfl, rfl⟩ : p = p' ∧ cbp = cbp' := by simpa using e''
      subst eb
      rw [← hya] at HT ka hzl d0 d1 d2
      rw [← hyb] at HT kb f0 f1 f2
      clear hc hc2 e' e'' hya hyb
      cases ya with
      | mk ta va kva ksa =>
      cases yb with
      | mk tb vb kvb ksb =>
      simp only [AT.tag, AT.val, AT.kv, AT.kids] at HT ka kb hzl d0 d1 d2 f0 f1 f2
      obtain ⟨lo, lc, hkv, -⟩ := ka.1.row
      obtain ⟨mo, mc, hkv2, -⟩ := kb.1.row
      obtain ⟨LA, HLA⟩ : ∃ L, Hid (ksa.length = L) := ⟨_, rfl⟩
      obtain ⟨LB, HLB⟩ : ∃ L, Hid (ksb.length = L) := ⟨_, rfl⟩
      rw [HLA.out] at hkv
      rw [HLB.out] at hkv2
      subst hkv hkv2
      obtain ⟨S, HS2⟩ : ∃ S, Hid (smB ksa ksb = S) := ⟨_, rfl⟩
      have pS := fun (y : World) (hy : Ql.Cl wr y) => ih ksa ksb (.slice lo LA lc) (.slice mo LB mc) y (by omega) (ka.1.below hy) (kb.1.below hy)
      simp only [HS2.out] at pS HT
      obtain ⟨D, HD⟩ : ∃ D, Hid (smB (xs.drop (i + 1)) (ys.drop (i + 1)) = D) := ⟨_, rfl⟩
      rw [HD.out] at HT
      replace HT : Hid (R = (S && (ta == tb && (decide (va = vb) && D)))) := HT
      have ba2 := World.block_lt_of_cell? wr _ d2
      have bb2 := World.block_lt_of_cell? wr _ f2
      clear ka kb hzl hz0 HA HB
      go_wp2_with fail
      refine Ql.region_cl (by kernel_rfl) (by kernel_rfl) ?_
      repeat (refine wpQuiet_step (fun K hK => ?_); first
        | (refine Ql.q_cell (by rfl) 23 _ rfl (a.add (i * 3)).block _ rfl _ d2 ba2 (fun y => Try.isAgg23 y) (hK _ ?_); clear hK K)
        | (refine Ql.q_cell (by rfl) 23 _ rfl (b.add (i * 3)).block _ rfl _ f2 bb2 (fun y => Try.isAgg23 y) (hK _ ?_); clear hK K)
        | (go_simp; apply Exists.intro; refine ⟨fun y hy => ?_, hK _ ?_⟩; (go_at_call 12; exact Ql.cl_of hy (pS y hy)); clear hK K)
        | (go_simp; refine hK _ ?_; clear hK K)
        | (go_simp; refine ⟨_, fun _ _ => rfl, hK _ ?_⟩; clear hK K)
        | (go_simp; refine ⟨_, fun _ _ => ⟨rfl, rfl⟩, hK _ ?_⟩; clear hK K))
      refine wpQuiet_nil ?_
      intro y1 hy1
      have g0 := (hy1.cell (World.block_lt_of_cell? wr _ d0)).trans d0
      have g1 := (hy1.cell (World.block_lt_of_cell? wr _ d1)).trans d1
      have h0 := (hy1.cell (World.block_lt_of_cell? wr _ f0)).trans f0
      have h1 := (hy1.cell (World.block_lt_of_cell? wr _ f1)).trans f1
      have hw1 : Below w.heap.size w y1 := keepB hwr hy1
      clear d0 d1 d2 f0 f1 f2 ba2 bb2 pS hy1
      cases S
      · have HE : Hid (R = false) := by show _ = _; rw [HT.out]; rfl
        go_wp2_with fail
        go_quiet (fail)
        have bq := below_drewN (Below.refl y1.heap.size y1) nq
        have hw2 := keepB hw1 bq
        clear g0 g1 h0 h1 bq
        generalize y1.drewN nq = y2 at *
        go_wp2
        go_ret
        exact ⟨by rw [HE.out]; rfl, hw2⟩
      · by_cases ht : ta = tb
        · by_cases hv : va = vb
          · subst ht hv
            have HE : Hid (D = R) := by show _ = _; rw [HT.out]; simp
            go_wp2_with fail
            go_quiet (fail)
            have bq := below_drewN (Below.refl y1.heap.size y1) nq
            have hw2 := keepB hw1 bq
            clear g0 g1 h0 h1 bq
            generalize y1.drewN nq = y2 at *
            go_wp2
            exact ⟨⟨i + 1, by omega, by go_num, by show _ = _; rw [HD.out]; exact HE.out, hw2⟩, by simp [intOf]; omega⟩
          · subst ht
            have HE : Hid (R = false) := by show _ = _; rw [HT.out]; simp [hv]
            have hv1 : (va.toList == vb.toList) = false := by
              rw [beq_eq_false_iff_ne]
              intro e
              rw [ByteArray.toList_eq, ByteArray.toList_eq] at e
              exact hv (ByteArray.ext (Array.toList_inj.1 e))
            clear hv
            go_wp2_with fail
            go_quiet (fail)
            have bq := below_drewN (Below.refl y1.heap.size y1) nq
            have hw2 := keepB hw1 bq
            clear g0 g1 h0 h1 bq
            generalize y1.drewN nq = y2 at *
            go_wp2
            go_ret
            exact ⟨by rw [HE.out]; rfl, hw2⟩
        · have HE : Hid (R = false) := by show _ = _; rw [HT.out]; simp [ht]
          have ht1 : (ta == tb) = false := by simpa using ht
          go_wp2_with fail
          go_quiet (fail)
          have bq := below_drewN (Below.refl y1.heap.size y1) nq
          have hw2 := keepB hw1 bq
          clear g0 g1 h0 h1 bq
          generalize y1.drewN nq = y2 at *
          go_wp2
          go_ret
          exact ⟨by rw [HE.out]; rfl, hw2⟩
    · have hlt' : ¬ (i : Int) < (N : Int) := by omega
      have HT : Hid (R = true) := by
        have := HS.out
        rw [List.drop_eq_nil_of_le (by rw [HN.out]; omega), List.drop_eq_nil_of_le (by rw [HM.out]; omega)] at this
        show _ = _
        rw [← this]; simp [smB]
      go_wp2
      go_ret
      exact ⟨by rw [HT.out]; rfl, hwr⟩
theorem same_all : ∀ n, SameC n
  | 0 => fun xs ys v u w h _ _ => absurd h (by omega)
  | n + 1 => fun xs ys v u w h ha hb => same_step (same_all n) xs ys v u w h ha hb
theorem same_any (xs ys : List AT) (v u : Value) (w : World) (ha : Rdn w v xs) (hb : Rdn w u ys) :
    Calls Try.prog 12 #[v, u] w fun e w' => e = .returned (.bool (smB xs ys)) ∧ Below w.heap.size w w' := same_all _ xs ys v u w (Nat.lt_succ_self _) ha hb
end Go.Proofs.Ytgidjfhlooggkaa.Sa
