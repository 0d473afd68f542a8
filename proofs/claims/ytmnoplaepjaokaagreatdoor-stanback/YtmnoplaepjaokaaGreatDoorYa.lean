/- Numbers that are dealt out, plain. -/
import Derived.WalkKit
namespace Go.Proofs.YtmnoplaepjaokaaGreatDoor.Ya
set_option linter.unusedVariables false
set_option linter.unusedSimpArgs false
/-- a table of truths with one of them otherwise -/
def upd (f : Nat → Bool) (k : Nat) (b : Bool) : Nat → Bool := fun i => if i = k then b else f i
theorem upd_same (f : Nat → Bool) (k : Nat) (b : Bool) : upd f k b k = b := by simp [upd]
theorem upd_ne (f : Nat → Bool) {k i : Nat} (b : Bool) (h : i ≠ k) : upd f k b i = f i := by simp [upd, h]
/-- the first one from k on up to mo that is not out; 0: there is none -/
def ff (mo : Nat) (out : Nat → Bool) (k : Nat) : Nat := ((List.range' k (mo + 1 - k)).find? fun j => !out j).getD 0
theorem ff_none {mo : Nat} {out : Nat → Bool} {k : Nat} (h : ∀ i, k ≤ i → i ≤ mo → out i = true) : ff mo out k = 0 := by
  rw [ff, List.find?_eq_none.2]
  · rfl
  · intro i hi
    rw [List.mem_range'_1] at hi
    simp [h i (by omega) (by omega)]
theorem ff_some {mo : Nat} {out : Nat → Bool} {k j : Nat} (h1 : k ≤ j) (h2 : j ≤ mo) (h3 : out j = false) (h4 : ∀ i, k ≤ i → i < j → out i = true) : ff mo out k = j := by
  have hf : (List.range' k (mo + 1 - k)).find? (fun j => !out j) = some j := by
    rw [List.find?_eq_some_iff_getElem]
    refine ⟨by simp [h3], j - k, by simp; omega, by simp; omega, fun i hi => ?_⟩
    simp [h4 (k + i) (by omega) (by omega)]
  rw [ff, hf]; rfl
theorem ff_spec (mo : Nat) (out : Nat → Bool) (k : Nat) : (ff mo out k = 0 ∧ ∀ i, k ≤ i → i ≤ mo → out i = true) ∨ (k ≤ ff mo out k ∧ ff mo out k ≤ mo ∧ out (ff mo out k) = false ∧ ∀ i, k ≤ i → i < ff mo out k → out i = true) := by
  cases hf : (List.range' k (mo + 1 - k)).find? fun j => !out j with
  | none =>
    refine .inl ⟨by rw [ff, hf]; rfl, fun i h1 h2 => ?_⟩
    have := List.find?_eq_none.1 hf i (List.mem_range'_1.2 (by omega))
    simpa using this
  | some j =>
    obtain ⟨hj, n, hn, e, h⟩ := List.find?_eq_some_iff_getElem.1 hf
    have e0 : ff mo out k = j := by rw [ff, hf]; rfl
    simp at e hn hj
    subst e
    rw [e0]
    refine .inr ⟨by omega, by omega, hj, fun i h1 h2 => ?_⟩
    have := h (i - k) (by omega)
    simp at this
    rwa [show k + (i - k) = i by omega] at this
/-- how many of 1 to m are out -/
def cnt (out : Nat → Bool) : Nat → Nat
  | 0 => 0
  | m + 1 => cnt out m + (if out (m + 1) then 1 else 0)
theorem cnt_le (out : Nat → Bool) : ∀ m, cnt out m ≤ m
  | 0 => Nat.le_refl _
  | m + 1 => by have := cnt_le out m; simp only [cnt]; split <;> omega
theorem cnt_ext {f g : Nat → Bool} : ∀ m, (∀ i, 1 ≤ i → i ≤ m → f i = g i) → cnt f m = cnt g m
  | 0, _ => rfl
  | m + 1, h => by simp only [cnt, cnt_ext m fun i h1 h2 => h i h1 (by omega), h (m + 1) (by omega) (by omega)]
theorem cnt_all {out : Nat → Bool} : ∀ m, cnt out m = m ↔ ∀ i, 1 ≤ i → i ≤ m → out i = true
  | 0 => ⟨fun _ i h1 h2 => by omega, fun _ => rfl⟩
  | m + 1 => by
    have h0 := cnt_le out m
    have ih := cnt_all (out := out) m
    simp only [cnt]
    constructor
    · intro h i h1 h2
      by_cases ho : out (m + 1) = true
      · rw [if_pos ho] at h
        by_cases e : i = m + 1
        · rw [e]; exact ho
        · exact ih.1 (by omega) i h1 (by omega)
      · rw [if_neg ho] at h; omega
    · intro h
      rw [if_pos (h (m + 1) (by omega) (by omega)), ih.2 fun i h1 h2 => h i h1 (by omega)]
theorem cnt_put {out : Nat → Bool} {k : Nat} (h : out k = false) (h1 : 1 ≤ k) : ∀ m, cnt (upd out k true) m = cnt out m + (if k ≤ m then 1 else 0)
  | 0 => by simp [cnt]; omega
  | m + 1 => by
    simp only [cnt, cnt_put h h1 m]
    by_cases e : m + 1 = k
    · subst e; simp [upd_same, h]
    · rw [upd_ne _ _ e]
      by_cases e2 : k ≤ m
      · have e3 : k ≤ m + 1 := by omega
        simp only [e2, e3, if_true]; omega
      · have e3 : ¬ k ≤ m + 1 := by omega
        simp only [e2, e3, if_false]; omega
theorem cnt_cut {out : Nat → Bool} {k : Nat} (h : out k = true) (h1 : 1 ≤ k) : ∀ m, cnt (upd out k false) m + (if k ≤ m then 1 else 0) = cnt out m
  | 0 => by simp [cnt]; omega
  | m + 1 => by
    have ih := cnt_cut h h1 m
    simp only [cnt]
    by_cases e : m + 1 = k
    · subst e
      have e3 : ¬ m + 1 ≤ m := by omega
      simp only [e3, if_false] at ih
      simp [upd_same, h]; omega
    · rw [upd_ne _ _ e]
      by_cases e2 : k ≤ m
      · have e3 : k ≤ m + 1 := by omega
        simp only [e2, e3, if_true] at ih ⊢; omega
      · have e3 : ¬ k ≤ m + 1 := by omega
        simp only [e2, e3, if_false] at ih ⊢; omega
structure St where
  mo : Nat
  last : Nat
  many : Nat
  out : Nat → Bool
def fresh (mo : Nat) : St := ⟨mo, 0, 0, fun _ => false⟩
/-- the one that comes next; 0: all are out -/
def nxt (S : St) : Nat := if ff S.mo S.out (S.last + 1) = 0 then ff S.mo S.out 1 else ff S.mo S.out (S.last + 1)
def tk (S : St) : St := if nxt S = 0 then S else ⟨S.mo, nxt S, S.many + 1, upd S.out (nxt S) true⟩
def isOut (S : St) (k : Int) : Bool := decide (1 ≤ k) && decide (k ≤ S.mo) && S.out k.toNat
def fr (S : St) (k : Int) : St := if isOut S k then ⟨S.mo, S.last, S.many - 1, upd S.out k.toNat false⟩ else S
def tkE (S : St) : Int := if nxt S = 0 then 180 else 0
def frE (S : St) (k : Int) : Int := if isOut S k then 0 else 181
structure OK (S : St) : Prop where
  mo1 : 1 ≤ S.mo
  mo2 : S.mo ≤ 999999
  last : S.last ≤ S.mo
  many : S.many = cnt S.out S.mo
  zero : S.out 0 = false
theorem ok_fresh {mo : Nat} (h1 : 1 ≤ mo) (h2 : mo ≤ 999999) : OK (fresh mo) := ⟨h1, h2, Nat.zero_le _, by
  have : ∀ m, cnt (fun _ => false) m = 0 := fun m => by induction m with
    | zero => rfl
    | succ m ih => simp [cnt, ih]
  exact (this mo).symm, rfl⟩
theorem OK.many_le {S : St} (h : OK S) : S.many ≤ S.mo := h.many ▸ cnt_le _ _
/-- what comes next is one of the row that is not out, and those that are passed by are out -/
structure Nx (S : St) (t : Nat) : Prop where
  t1 : 1 ≤ t
  t2 : t ≤ S.mo
  free : S.out t = false
  up : S.last < t → ∀ i, S.last < i → i < t → S.out i = true
  hi : t ≤ S.last → ∀ i, S.last < i → i ≤ S.mo → S.out i = true
  lo : t ≤ S.last → ∀ i, 1 ≤ i → i < t → S.out i = true
theorem nxt_spec {S : St} (h : OK S) : (nxt S = 0 ∧ ∀ i, 1 ≤ i → i ≤ S.mo → S.out i = true) ∨ Nx S (nxt S) := by
  unfold nxt
  rcases ff_spec S.mo S.out (S.last + 1) with ⟨e, ha⟩ | ⟨h1, h2, h3, h4⟩
  · rw [if_pos e]
    rcases ff_spec S.mo S.out 1 with ⟨e2, hb⟩ | ⟨k1, k2, k3, k4⟩
    · exact .inl ⟨e2, hb⟩
    · refine .inr ⟨k1, k2, k3, fun hl => ?_, fun _ i h1 h2 => ha i (by omega) h2, fun _ => k4⟩
      have := ha _ hl k2
      rw [k3] at this; cases this
  · rw [if_neg (by omega)]
    exact .inr ⟨by omega, h2, h3, fun _ i k1 k2 => h4 i (by omega) k2, fun hl => absurd hl (by omega), fun hl => absurd hl (by omega)⟩
theorem nx_one {S : St} {t : Nat} (h : Nx S t) : nxt S = t := by
  unfold nxt
  by_cases hl : S.last < t
  · rw [ff_some (j := t) (by omega) h.t2 h.free fun i h1 h2 => h.up hl i (by omega) h2, if_neg (by have := h.t1; omega)]
  · rw [ff_none fun i h1 h2 => h.hi (by omega) i (by omega) h2, if_pos rfl]
    exact ff_some h.t1 h.t2 h.free (h.lo (by omega))
theorem spent {S : St} (h : OK S) : nxt S = 0 ↔ S.many = S.mo := by
  rw [h.many, cnt_all]
  constructor
  · intro e
    rcases nxt_spec h with ⟨_, ha⟩ | hn
    · exact ha
    · have := hn.t1; omega
  · intro ha
    rcases nxt_spec h with ⟨e, _⟩ | hn
    · exact e
    · have := ha _ hn.t1 hn.t2
      rw [hn.free] at this; cases this
theorem OK.tk {S : St} (h : OK S) : OK (tk S) := by
  unfold Ya.tk
  by_cases e : nxt S = 0
  · rw [if_pos e]; exact h
  · rw [if_neg e]
    rcases nxt_spec h with ⟨e2, _⟩ | hn
    · exact absurd e2 e
    · exact ⟨h.mo1, h.mo2, hn.t2, by show S.many + 1 = _; rw [cnt_put hn.free hn.t1, if_pos hn.t2, h.many], (upd_ne _ _ (fun e2 => e e2.symm)).trans h.zero⟩
theorem isOut_at {S : St} {k : Int} (h : isOut S k = true) : 1 ≤ k ∧ k ≤ S.mo ∧ S.out k.toNat = true := by
  simp [isOut] at h; exact ⟨h.1.1, h.1.2, h.2⟩
theorem OK.fr {S : St} (h : OK S) (k : Int) : OK (fr S k) := by
  unfold Ya.fr
  by_cases e : isOut S k = true
  · rw [if_pos e]
    obtain ⟨h1, h2, h3⟩ := isOut_at e
    have := cnt_cut h3 (by omega) S.mo
    rw [if_pos (by omega), ← h.many] at this
    exact ⟨h.mo1, h.mo2, h.last, by show S.many - 1 = cnt (upd S.out k.toNat false) S.mo; omega, (upd_ne _ _ (by omega)).trans h.zero⟩
  · rw [if_neg e]; exact h
theorem OK.pos {S : St} (h : OK S) {k : Int} (e : isOut S k = true) : 1 ≤ S.many := by
  obtain ⟨h1, h2, h3⟩ := isOut_at e
  have := cnt_cut h3 (by omega) S.mo
  rw [if_pos (by omega), ← h.many] at this
  omega
/-- between the rounds of a walk from the last one to the next: K is where it stands -/
structure Iv (S : St) (t K : Nat) : Prop where
  le : K ≤ S.mo
  up : K < t → ∀ i, K < i → i < t → S.out i = true
  hi : t ≤ K → ∀ i, K < i → i ≤ S.mo → S.out i = true
  lo : t ≤ K → ∀ i, 1 ≤ i → i < t → S.out i = true
theorem Nx.iv {S : St} (ho : OK S) {t : Nat} (h : Nx S t) : Iv S t S.last := ⟨ho.last, h.up, h.hi, h.lo⟩
def stp (S : St) (K : Nat) : Nat := if S.mo ≤ K then 1 else K + 1
theorem stp_pos (S : St) (K : Nat) : 1 ≤ stp S K := by unfold stp; split <;> omega
theorem Iv.stp_le {S : St} (ho : OK S) {t K : Nat} (h : Iv S t K) : stp S K ≤ S.mo := by have := ho.mo1; have := h.le; unfold stp; split <;> omega
theorem Iv.out {S : St} {t K : Nat} (hn : Nx S t) (h : Iv S t K) (hne : stp S K ≠ t) : S.out (stp S K) = true := by
  have := hn.t1; have := hn.t2; have := h.le
  unfold stp at hne ⊢
  by_cases e : S.mo ≤ K
  · rw [if_pos e] at hne ⊢
    exact h.lo (by omega) 1 (by omega) (by omega)
  · rw [if_neg e] at hne ⊢
    by_cases e2 : K < t
    · exact h.up e2 _ (by omega) (by omega)
    · exact h.hi (by omega) _ (by omega) (by omega)
theorem Iv.next {S : St} (ho : OK S) {t K : Nat} (hn : Nx S t) (h : Iv S t K) (hne : stp S K ≠ t) : Iv S t (stp S K) := by
  have h1 := hn.t1; have h2 := hn.t2; have h3 := h.le
  have hle := h.stp_le ho
  unfold stp at hne hle ⊢
  by_cases e : S.mo ≤ K
  · rw [if_pos e] at hne hle ⊢
    exact ⟨hle, fun _ i k1 k2 => h.lo (by omega) i (by omega) k2, fun k => absurd k (by omega), fun k => absurd k (by omega)⟩
  · rw [if_neg e] at hne hle ⊢
    exact ⟨hle, fun k i k1 k2 => h.up (by omega) i (by omega) k2, fun k i k1 k2 => h.hi (by omega) i (by omega) k2, fun k i k1 k2 => h.lo (by omega) i k1 k2⟩
/-- how far it is from K to t -/
def far (S : St) (t K : Nat) : Nat := if K < t then t - K else S.mo - K + t + 1
theorem Iv.near {S : St} (ho : OK S) {t K : Nat} (hn : Nx S t) (h : Iv S t K) (hne : stp S K ≠ t) : far S t (stp S K) < far S t K := by
  have h1 := hn.t1; have h2 := hn.t2; have h3 := h.le
  unfold far stp at *
  by_cases e : S.mo ≤ K
  · rw [if_pos e] at hne ⊢
    rw [if_pos (by omega), if_neg (by omega)]; omega
  · rw [if_neg e] at hne ⊢
    by_cases e2 : K < t
    · rw [if_pos (by omega), if_pos e2]; omega
    · rw [if_neg (by omega), if_neg e2]; omega
end Go.Proofs.YtmnoplaepjaokaaGreatDoor.Ya
