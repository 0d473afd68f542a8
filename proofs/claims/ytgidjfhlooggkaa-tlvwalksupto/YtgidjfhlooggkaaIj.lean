/- Plain: no two rows of nodes that may be have the same bytes. -/
import Derived.Test.YtgidjfhlooggkaaAg
namespace Go.Proofs.Ytgidjfhlooggkaa.Ij
set_option linter.unusedVariables false
set_option linter.unusedSimpArgs false
open Go.RowKit Kb Ga Gb Gc Nt Ag
theorem b8_eq {x y : Int} (h : b8 x = b8 y) : x % 256 = y % 256 := by rw [← b8_val, ← b8_val, h]
theorem tgS_cases (t : Int) (h : 0 < tgS t) : (tgS t = 1 ∧ 0 < t ∧ t < 256 ∧ ¬ t % 32 = 31) ∨ (tgS t = 2 ∧ 0 < t ∧ t < 65536 ∧ t / 256 % 32 = 31 ∧ t % 256 < 128) ∨ (tgS t = 3 ∧ 0 < t ∧ t < 16777216 ∧ t / 65536 % 32 = 31 ∧ 128 < t / 256 % 256 ∧ t % 256 < 128) := by
  unfold tgS at h ⊢
  repeat' split at h
  all_goals (repeat' split)
  all_goals omega
theorem tgB_one {t : Int} (h : tgS t = 1) : tgB t = [b8 t] := by unfold tgB; rw [if_pos h]
theorem tgB_two {t : Int} (h : tgS t = 2) : tgB t = [b8 (t / 256), b8 t] := by unfold tgB; rw [if_neg (by omega), if_pos h]
theorem tgB_three {t : Int} (h : tgS t = 3) : tgB t = [b8 (t / 65536), b8 (t / 256), b8 t] := by unfold tgB; rw [if_neg (by omega), if_neg (by omega), if_pos h]
theorem tgB_inj {t u : Int} {r s : List UInt8} (ht : 0 < tgS t) (hu : 0 < tgS u) (h : tgB t ++ r = tgB u ++ s) : t = u ∧ r = s := by
  rcases tgS_cases t ht with ⟨a, a1, a2, a3⟩ | ⟨a, a1, a2, a3, a4⟩ | ⟨a, a1, a2, a3, a4, a5⟩ <;>
  rcases tgS_cases u hu with ⟨b, b1, b2, b3⟩ | ⟨b, b1, b2, b3, b4⟩ | ⟨b, b1, b2, b3, b4, b5⟩ <;>
  first
    | rw [tgB_one a] at h
    | rw [tgB_two a] at h
    | rw [tgB_three a] at h
  all_goals first
    | rw [tgB_one b] at h
    | rw [tgB_two b] at h
    | rw [tgB_three b] at h
  all_goals simp only [List.cons_append, List.nil_append, List.cons.injEq] at h
  · have := b8_eq h.1; exact ⟨by omega, h.2⟩
  · have := b8_eq h.1; omega
  · have := b8_eq h.1; omega
  · have := b8_eq h.1; omega
  · have := b8_eq h.1; have := b8_eq h.2.1; exact ⟨by omega, h.2.2⟩
  · have := b8_eq h.1; have := b8_eq h.2.1; omega
  · have := b8_eq h.1; omega
  · have := b8_eq h.1; have := b8_eq h.2.1; omega
  · have := b8_eq h.1; have := b8_eq h.2.1; have := b8_eq h.2.2.1; exact ⟨by omega, h.2.2.2⟩
theorem b8_lit (x : Int) (k : UInt8) (h : b8 x = k) : x % 256 = (k.toNat : Int) := by rw [← b8_val, h]
theorem lnB_inj {n m : Nat} {r s : List UInt8} (hn : n ≤ 65535) (hm : m ≤ 65535) (h : lnB (n : Int) ++ r = lnB (m : Int) ++ s) : n = m ∧ r = s := by
  have k1 : ((129 : UInt8).toNat : Int) = 129 := rfl
  have k2 : ((130 : UInt8).toNat : Int) = 130 := rfl
  unfold lnB at h
  repeat' split at h
  all_goals simp only [List.cons_append, List.nil_append, List.cons.injEq] at h
  · have := b8_eq h.1; exact ⟨by omega, h.2⟩
  · have := b8_lit _ _ h.1; omega
  · have := b8_lit _ _ h.1; omega
  · have := b8_lit _ _ h.1.symm; omega
  · have := b8_eq h.2.1; exact ⟨by omega, h.2.2⟩
  · exact absurd h.1 (by decide)
  · have := b8_lit _ _ h.1.symm; omega
  · exact absurd h.1 (by decide)
  · have := b8_eq h.2.1; have := b8_eq h.2.2.1; exact ⟨by omega, h.2.2.2⟩
theorem mkd_tg {t : Int} (h : mkd t = true) : 0 < tgS t := by
  unfold mkd tgB at h
  split at h
  · omega
  · split at h
    · omega
    · split at h
      · omega
      · simp [mkB] at h
theorem good_tg {d : Nat} {t : Int} {v : ByteArray} {ks ts : List Tr} (h : good d (.mk t v ks :: ts)) : 0 < tgS t := by
  unfold good at h
  have := h.1.2
  split at this
  · exact mkd_tg (by assumption)
  · exact this.1
theorem ba_ext {a b : ByteArray} (h : a.data.toList = b.data.toList) : a = b := ByteArray.ext (Array.toList_inj.1 h)
theorem ba_nil {a : ByteArray} (h : a.size = 0) : a.data.toList = [] := List.eq_nil_of_length_eq_zero (by simpa using h)
theorem enT_ne {d : Nat} {t : Int} {v : ByteArray} {ks ts : List Tr} (h : good d (.mk t v ks :: ts)) : enT (.mk t v ks :: ts) ≠ [] := by
  have h1 := good_tg h
  have h2 := tgB_size t
  intro e
  simp only [enT, List.append_eq_nil_iff] at e
  rw [e.1.1.1.1] at h2
  simp only [List.length_nil] at h2
  omega
theorem enT_inj : ∀ (d : Nat) (a b : List Tr), good d a → good d b → (enT a).length ≤ 65535 → enT a = enT b → a = b
  | _, [], [], _, _, _, _ => rfl
  | _, [], .mk t v ks :: ts, _, hb, _, h => absurd h.symm (by rw [show enT [] = [] by simp [enT]]; exact enT_ne hb)
  | _, .mk t v ks :: ts, [], ha, _, _, h => absurd h (by rw [show enT [] = [] by simp [enT]]; exact enT_ne ha)
  | d, .mk t v ks :: ts, .mk t' v' ks' :: ts', ha, hb, hl, h => by
    have e1 := good_tg ha
    have e2 := good_tg hb
    have hl' : (enT (.mk t' v' ks' :: ts')).length ≤ 65535 := by rw [← h]; exact hl
    have sv : v.data.toList.length = v.size := by simp
    have sv' : v'.data.toList.length = v'.size := by simp
    simp only [enT, List.length_append] at h hl hl'
    rw [sv] at hl
    rw [sv'] at hl'
    simp only [List.append_assoc] at h
    obtain ⟨et, h2⟩ := tgB_inj e1 e2 h
    subst et
    obtain ⟨hn, h3⟩ := lnB_inj (by omega) (by omega) h2
    rw [← List.append_assoc, ← List.append_assoc] at h3
    clear h h2
    obtain ⟨h, ht⟩ := List.append_inj h3 (by simp only [List.length_append]; rw [sv, sv']; exact hn)
    unfold good at ha hb
    have it := enT_inj d ts ts' ha.2 hb.2 (by omega) ht
    have ga := ha.1.2
    have gb := hb.1.2
    by_cases hm : mkd t = true
    · rw [if_pos hm] at ga gb
      rw [ba_nil ga.1, ba_nil gb.1] at h
      have ik := enT_inj (d + 1) ks ks' ga.2 gb.2 (by omega) (by simpa using h)
      rw [it, ik, ba_ext ((ba_nil ga.1).trans (ba_nil gb.1).symm)]
    · rw [if_neg hm] at ga gb
      obtain ⟨-, rfl⟩ := ga
      obtain ⟨-, rfl⟩ := gb
      have ev : v = v' := ba_ext (by simpa [enT] using h)
      rw [it, ev]
end Go.Proofs.Ytgidjfhlooggkaa.Ij
