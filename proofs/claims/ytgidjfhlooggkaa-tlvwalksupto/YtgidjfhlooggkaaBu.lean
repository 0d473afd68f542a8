/- Nodes are written. -/
import Derived.Test.YtgidjfhlooggkaaNb
import Derived.Test.YtgidjfhlooggkaaSb
namespace Go.Proofs.Ytgidjfhlooggkaa.Bu
set_option linter.unusedVariables false
set_option linter.unusedSimpArgs false
open Go.RowKit Kb Ga Gb Gc Nt Wk Ls Wr Nb
theorem lsz_steps {w : World} : ∀ (d : Nat) (ts : List AT), rdL w ts → lsz ts ≤ (steps d ts).length * 1048582
  | d, [], _ => by simp [lsz]
  | d, .mk t v kv ks :: ts, h => by
    unfold rdL at h
    have h1 := lsz_steps (d + 1) ks h.1.2.1
    have h2 := lsz_steps d ts h.2
    have h3 := h.1.2.2.1
    have h4 := tgS_bd t
    have h5 := lnS_bd ((v.size + lsz ks : Nat) : Int)
    simp only [lsz, steps, List.length_cons, List.length_append]
    omega
/-- what Build tells -/
def bldE (ts : List AT) : Int := if wrR 0 (steps 1 ts) = 0 then if 9999 < lsz ts then 91 else 0 else wrR 0 (steps 1 ts)
def bldS (ts : List AT) : ByteArray := if bldE ts = 0 then ⟨(encS (steps 1 ts)).toArray⟩ else ⟨#[]⟩
set_option maxRecDepth 100000 in
theorem build_any (ts : List AT) (v : Value) (w : World) (hr : Rdn w v ts) (hd : dep ts ≤ 999999) :
    Calls Try.prog 18 #[v] w fun e w' => e = .returned (.tuple #[.string (bldS ts), .int .i64 (bldE ts)]) ∧ Below w.heap.size w w' := by
  obtain ⟨S, HS⟩ : ∃ S, Hid (bldS ts = S) := ⟨_, rfl⟩
  obtain ⟨E, HE⟩ : ∃ E, Hid (bldE ts = E) := ⟨_, rfl⟩
  rw [HS.out, HE.out]
  have c1 := wrong_any ts v w hr hd
  obtain ⟨o, cap, e, hN, -⟩ := hr.row
  obtain ⟨N, HN⟩ : ∃ N : Nat, Hid (ts.length = N) := ⟨_, rfl⟩
  rw [HN.out] at e
  subst e
  by_cases h0 : wrR 0 (steps 1 ts) = 0
  · have hlen := wrR_len _ 0 (by omega) h0
    rw [Nat.zero_add] at hlen
    have hlz := lsz_steps 1 ts hr.kids
    have hl2 : lsz ts ≤ 1099511627776 := by omega
    rw [h0] at c1
    have c2 := fun (y : World) (hy : Below w.heap.size w y) => listSize_any ts (.slice o N cap) y (hr.below hy) hl2
    by_cases h9 : 9999 < lsz ts
    · have HE2 : Hid (E = 91) := by show _ = _; rw [← HE.out]; unfold bldE; rw [if_pos h0, if_pos h9]
      have HS2 : Hid (S = ⟨#[]⟩) := by show _ = _; rw [← HS.out]; unfold bldS; rw [HE.out, HE2.out]; rfl
      obtain ⟨Z, HZ⟩ : ∃ Z, Hid (lsz ts = Z) := ⟨_, rfl⟩
      simp only [HZ.out] at c2
      rw [HZ.out] at h9
      have h9' : 9999 < (Z : Int) := by omega
      clear hr hlz hl2 hlen h0 HE HS
      go_enter Try.func18, Try.ntmps18
      go_wp2_with fail
      refine c1.mono ?_
      rintro _ x ⟨rfl, hx⟩
      go_wp2_with fail
      refine (c2 x hx).mono ?_
      rintro _ y ⟨rfl, hy⟩
      go_wp2
      go_ret2
      exact ⟨by rw [HE2.out, HS2.out]; rfl, keepB hx hy⟩
    · have HE2 : Hid (E = 0) := by show _ = _; rw [← HE.out]; unfold bldE; rw [if_pos h0, if_neg h9]
      have HS2 : Hid (S = ⟨(encS (steps 1 ts)).toArray⟩) := by show _ = _; rw [← HS.out]; unfold bldS; rw [HE.out, HE2.out]; rfl
      have c3 := fun (y : World) (hy : Below w.heap.size w y) => bytes_any ts (.slice o N cap) y (hr.below hy) hd (by omega) (by omega)
      obtain ⟨Z, HZ⟩ : ∃ Z, Hid (lsz ts = Z) := ⟨_, rfl⟩
      simp only [HZ.out] at c2
      rw [HZ.out] at h9
      have h9' : ¬ 9999 < (Z : Int) := by omega
      clear hr hlz hl2 hlen h0 HE HS
      go_enter Try.func18, Try.ntmps18
      go_wp2_with fail
      refine c1.mono ?_
      rintro _ x ⟨rfl, hx⟩
      go_wp2_with fail
      refine (c2 x hx).mono ?_
      rintro _ y ⟨rfl, hy⟩
      go_wp2_with fail
      refine (c3 y (keepB hx hy)).mono ?_
      rintro _ z ⟨rfl, hz⟩
      go_wp2
      go_ret2
      exact ⟨by rw [HE2.out, HS2.out]; rfl, keepB (keepB hx hy) hz⟩
  · have HE2 : Hid (wrR 0 (steps 1 ts) = E) := by show _ = _; rw [← HE.out]; unfold bldE; rw [if_neg h0]
    have hne : ¬ E = 0 := by rw [← HE2.out]; exact h0
    have HS2 : Hid (S = ⟨#[]⟩) := by show _ = _; rw [← HS.out]; unfold bldS; rw [HE.out, if_neg hne]
    have hne' : (E != 0) = true := by simp; exact hne
    rw [HE2.out] at c1
    clear hr h0 HE HS hne
    go_enter Try.func18, Try.ntmps18
    go_wp2_with fail
    refine c1.mono ?_
    rintro _ x ⟨rfl, hx⟩
    go_wp2
    go_ret2
    exact ⟨by rw [HS2.out]; rfl, hx⟩
end Go.Proofs.Ytgidjfhlooggkaa.Bu
