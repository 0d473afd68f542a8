/- The document's Build. -/
import Derived.Test.YtgidjfhlooggkaaWn
import Derived.Test.YtgidjfhlooggkaaLc
namespace Go.Proofs.Ytgidjfhlooggkaa.Wd
set_option linter.unusedVariables false
set_option linter.unusedSimpArgs false
open Go.RowKit Kb Ga Gb Gc Gd Nt Gf Gg Nb Rn Wk Wr Ls Ag Wn Bu
set_option maxRecDepth 100000 in
set_option maxHeartbeats 1600000 in
theorem build_doc (ts : List AT) (v : Value) (w : World) (hr : Rdn w v ts) (hL : lsz ts ≤ 1099511627776) :
    Calls Try.prog 17 #[v] w fun e w' => e = .returned (.tuple #[.string (bldS ts), .int .i64 (bldE ts)]) ∧ Below w.heap.size w w' := by
  obtain ⟨RS, HRS⟩ : ∃ S, Hid (bldS ts = S) := ⟨_, rfl⟩
  obtain ⟨RE, HRE⟩ : ∃ E, Hid (bldE ts = E) := ⟨_, rfl⟩
  rw [HRS.out, HRE.out]
  have B0 := below_one w (.cells #[.int .i64 0, .int .i64 0] 75)
  have HA : Wb (w.alloc (.cells #[.int .i64 0, .int .i64 0] 75)) w.heap.size ((0 : Nat) : Int) 0 := h1_0 w _
  have bl : ∀ x, (w.alloc (.cells #[.int .i64 0, .int .i64 0] 75)).grownBy x (some w.heap.size) → Below w.heap.size w x := fun x h => B0.grown h B0.size (by intro k e; injection e with e; omega)
  have ck := nodesw_all _ ts v (w.alloc (.cells #[.int .i64 0, .int .i64 0] 75)) w.heap.size 0 1 (Nat.lt_succ_self _) (fun x hx => hr.below (bl x hx)) HA (by omega) (by omega) hL
  obtain ⟨o, cap, e, hN, -⟩ := hr.row
  obtain ⟨N, HN⟩ : ∃ N : Nat, Hid (ts.length = N) := ⟨_, rfl⟩
  rw [HN.out] at e
  subst e
  have HBE : Hid (bldE ts = if wrR 0 (steps 1 ts) = 0 then if 9999 < lsz ts then 91 else 0 else wrR 0 (steps 1 ts)) := rfl
  have HBS : Hid (bldS ts = if bldE ts = 0 then ⟨(enT (er ts)).toArray⟩ else ⟨#[]⟩) := by show _ = _; unfold bldS; rw [encS_en]
  have HLE : Hid (lsz ts = (enT (er ts)).length) := lsz_en ts
  have HBL : Hid (∀ x, (w.alloc (.cells #[.int .i64 0, .int .i64 0] 75)).grownBy x (some w.heap.size) → Below w.heap.size w x) := bl
  rw [HRS.out] at HBS
  rw [HRE.out] at HBE HBS
  generalize wrR 0 (steps 1 ts) = R at *
  generalize (steps 1 ts).length = C at *
  generalize enT (er ts) = T at *
  generalize lsz ts = L at *
  clear hr HA B0 bl HRS HRE
  go_enter Try.func17, Try.ntmps17
  go_wp2_with fail
  generalize w.alloc (.cells #[.int .i64 0, .int .i64 0] 75) = w1 at *
  refine ck.mono ?_
  clear ck
  rintro _ y ⟨S, E', m', rfl, PK⟩
  have HB : Hid (Below w.heap.size w y) := HBL.out y PK.gr
  obtain ⟨⟨c0, c1⟩, fz⟩ := PK.wb.at
  have hsz := PK.sz
  by_cases hE : E' = 0
  · obtain ⟨p1, p2, p3⟩ := PK.ok hE
    have hR0 : R = 0 := by rw [← PK.er]; exact hE
    subst hE
    have hS : S.size = L := by rw [p3, HLE.out]; rfl
    by_cases hb : S.size ≤ 9999
    · have hb' : ¬ 9999 < (S.size : Int) := by omega
      have eE : RE = 0 := by rw [HBE.out, if_pos hR0, if_neg (by omega)]
      have HE : Hid (RE = 0 ∧ RS = S) := ⟨eE, by rw [HBS.out, if_pos eE, p3]⟩
      clear c0 fz PK p1 p2 p3 hS eE
      go_wp2
      go_ret2
      exact ⟨by rw [HE.out.1, HE.out.2]; rfl, HB.out⟩
    · have hb' : 9999 < (S.size : Int) := by omega
      have eE : RE = 91 := by rw [HBE.out, if_pos hR0, if_pos (by omega)]
      have HE : Hid (RE = 91 ∧ RS = ⟨#[]⟩) := ⟨eE, by rw [HBS.out, if_neg (by rw [eE]; omega)]⟩
      clear c0 fz PK p1 p2 p3 hS eE
      go_wp2
      go_ret2
      exact ⟨by rw [HE.out.1, HE.out.2]; rfl, HB.out⟩
  · have hE' : (E' == 0) = false := by simpa using hE
    have eE : RE = E' := by rw [HBE.out, if_neg (by rw [← PK.er]; exact hE)]; exact PK.er.symm
    have HE : Hid (RE = E' ∧ RS = ⟨#[]⟩) := ⟨eE, by rw [HBS.out, if_neg (by rw [eE]; exact hE)]⟩
    clear c0 fz PK eE hE
    go_wp2_with fail
    go_quiet (fail)
    clear c1
    go_wp2_with fail
    go_ret2
    exact ⟨by rw [HE.out.1, HE.out.2]; rfl, below_drewN HB.out nq⟩
/-- what hangs on the tree alone -/
theorem st_er : ∀ (d : Nat) (xs ys : List AT) (c : Nat), er xs = er ys → wrR c (steps d xs) = wrR c (steps d ys) ∧ (steps d xs).length = (steps d ys).length
  | d, [], [], c, _ => ⟨rfl, rfl⟩
  | d, .mk t v kv ks :: ts, .mk t' v' kv' ks' :: ts', c, e => by
    simp only [er, List.cons.injEq, Tr.mk.injEq] at e
    obtain ⟨⟨rfl, rfl, e3⟩, e4⟩ := e
    have hl : ks.length = ks'.length := by rw [← er_len, ← er_len, e3]
    have h1 : wr1 c (d, .mk t v kv ks) = wr1 c (d, .mk t v kv' ks') := by
      show wrC c d t v ks.length = wrC c d t v ks'.length
      rw [hl]
    have k2 := fun c => st_er (d + 1) ks ks' c e3
    have k3 := fun c => st_er d ts ts' c e4
    refine ⟨?_, by simp only [steps, List.length_cons, List.length_append, (k2 0).2, (k3 0).2]⟩
    simp only [steps]
    by_cases h0 : wr1 c (d, .mk t v kv ks) = 0
    · rw [wrR_cons _ h0, wrR_cons _ (h1 ▸ h0)]
      by_cases h4 : wrR (c + 1) (steps (d + 1) ks) = 0
      · rw [wrR_go _ _ _ h4, wrR_go _ _ _ ((k2 (c + 1)).1 ▸ h4), (k2 0).2]
        exact (k3 _).1
      · rw [wrR_stop _ _ _ h4, wrR_stop _ _ _ (by rw [← (k2 (c + 1)).1]; exact h4)]
        exact (k2 _).1
    · rw [wrR_hit _ h0, wrR_hit _ (by rw [← h1]; exact h0)]
      exact h1
  | d, [], .mk t v kv ks :: ts, c, e => by simp [er] at e
  | d, .mk t v kv ks :: ts, [], c, e => by simp [er] at e
theorem bld_er {xs ys : List AT} (e : er xs = er ys) : bldE xs = bldE ys ∧ bldS xs = bldS ys := by
  have h1 := (st_er 1 xs ys 0 e).1
  have h2 : lsz xs = lsz ys := by rw [lsz_en, lsz_en, e]
  have h3 : bldE xs = bldE ys := by unfold bldE; rw [h1, h2]
  exact ⟨h3, by unfold bldS; rw [h3, encS_en, encS_en, e]⟩
theorem cnt_st : ∀ (d : Nat) (ts : List AT), (steps d ts).length = (Li.lsK ts).length
  | d, [] => by simp [steps, Li.lsK]
  | d, .mk t v kv ks :: ts => by
    simp only [steps, Li.lsK, List.length_cons, List.length_append, cnt_st (d + 1) ks, cnt_st d ts]
    omega
theorem lsz_few {w : World} {ts : List AT} (h : rdL w ts) (hc : (Li.lsK ts).length ≤ 700) : lsz ts ≤ 1099511627776 := by
  have := lsz_steps 1 ts h
  rw [cnt_st] at this
  omega
end Go.Proofs.Ytgidjfhlooggkaa.Wd
