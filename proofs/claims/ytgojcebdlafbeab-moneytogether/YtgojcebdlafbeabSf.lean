/- Share: what it deals out is fair (plain). -/
import Derived.Test.YtgojcebdlafbeabSa
namespace Go.Proofs.Ytgojcebdlafbeab.Sf
set_option linter.unusedVariables false
open Go.RowKit Sl Mp So Tg Sa
/-- the sum of the first -/
def smF (f : Nat → Int) : Nat → Int
  | 0 => 0
  | k + 1 => smF f k + f k
theorem smF_ext {f g : Nat → Int} (k : Nat) (h : ∀ i, i < k → f i = g i) : smF f k = smF g k := by
  induction k with
  | zero => rfl
  | succ k ih => rw [smF, smF, ih (fun i hi => h i (by omega)), h k (by omega)]
theorem smF_le {f g : Nat → Int} (k : Nat) (h : ∀ i, i < k → f i ≤ g i) : smF f k ≤ smF g k := by
  induction k with
  | zero => exact Int.le_refl _
  | succ k ih =>
    have h1 := ih (fun i hi => h i (by omega))
    have h2 := h k (by omega)
    rw [smF, smF]; omega
theorem smF_upd (f : Nat → Int) (p : Nat) (k : Nat) : smF (updI f p (f p + 1)) k = smF f k + (if p < k then 1 else 0) := by
  induction k with
  | zero => rfl
  | succ k ih =>
    rw [smF, smF, ih]
    by_cases e : p = k
    · subst e
      rw [if_neg (Nat.lt_irrefl _), if_pos (Nat.lt_succ_self _), updI, if_pos rfl]; omega
    · have e2 : updI f p (f p + 1) k = f k := by rw [updI, if_neg (fun h => e (Eq.symm h))]
      rw [e2]
      by_cases c : p < k
      · rw [if_pos c, if_pos (by omega)]; omega
      · rw [if_neg c, if_neg (by omega)]; omega
theorem smF_more (X : Nat → Int) (c : Nat → Nat) (n t : Nat) (ht : t ≤ n) (hc : ∀ k, k < n → c k < n) : smF (more X c t) n = smF X n + t := by
  induction t with
  | zero => show smF X n = _; omega
  | succ t ih =>
    rw [more, smF_upd, ih (by omega), if_pos (hc t (by omega))]; omega
theorem smF_mul (a : Int) (f : Nat → Int) (k : Nat) : smF (fun i => a * f i) k = a * smF f k := by
  induction k with
  | zero => simp [smF]
  | succ k ih => rw [smF, smF, ih, Int.mul_add]
theorem smF_part (f : Nat → Int) (k n : Nat) (h0 : ∀ i, i < n → 0 ≤ f i) (hk : k < n) : f k ≤ smF f n := by
  induction n with
  | zero => omega
  | succ n ih =>
    have q : 0 ≤ smF f n := by
      have := smF_le (f := fun _ => 0) (g := f) n (fun i hi => h0 i (by omega))
      have e : smF (fun _ => (0 : Int)) n = 0 := by
        clear ih h0 hk this
        induction n with
        | zero => rfl
        | succ n ih => rw [smF, ih]; rfl
      omega
    rw [smF]
    by_cases e : k = n
    · subst e; omega
    · have := ih (fun i hi => h0 i (by omega)) (by omega)
      have := h0 n (by omega)
      omega
theorem xS_sm (u : Int) (z : List Int) (k : Nat) : xS u z k = smF (xF u z) k := by
  induction k with
  | zero => rfl
  | succ k ih => rw [xS, smF, ih]
theorem rS_sm (u : Int) (z : List Int) (k : Nat) : rS u z k = smF (rF u z) k := by
  induction k with
  | zero => rfl
  | succ k ih => rw [rS, smF, ih]
theorem more_miss (X : Nat → Int) (c : Nat → Nat) (t i : Nat) (h : ∀ k, k < t → c k ≠ i) : more X c t i = X i := by
  induction t with
  | zero => rfl
  | succ t ih => rw [more, updI, if_neg (fun e => h t (by omega) e.symm), ih (fun k hk => h k (by omega))]
theorem more_hit (X : Nat → Int) (c : Nat → Nat) (n t k : Nat) (hk : k < t) (ht : t ≤ n) (inj : ∀ i j, i < n → j < n → c i = c j → i = j) : more X c t (c k) = X (c k) + 1 := by
  induction t with
  | zero => omega
  | succ t ih =>
    rw [more, updI]
    by_cases e : k = t
    · subst e
      rw [if_pos rfl, more_miss X c k (c k) (fun j hj e => by have := inj j k (by omega) (by omega) e; omega)]
    · rw [if_neg (fun h => e (inj k t (by omega) (by omega) h)), ih (by omega) (by omega)]
theorem inj_of (key : Nat → Int) (c : Nat → Nat) (n : Nat) (h : Srt key c 0 n) (i j : Nat) (hi : i < n) (hj : j < n) (e : c i = c j) : i = j := by
  rcases Nat.lt_trichotomy i j with q | q | q
  · have := h i j (Nat.zero_le _) q hj; rw [e] at this; exact absurd this lt_irrefl
  · exact q
  · have := h j i (Nat.zero_le _) q hi; rw [e] at this; exact absurd this lt_irrefl
theorem onto_of (c : Nat → Nat) (n : Nat) (h : Mix id c 0 n) (i : Nat) (hi : i < n) : ∃ k, k < n ∧ c k = i := by
  obtain ⟨j, _, hj, e⟩ := h.bwd i (Nat.zero_le _) hi
  exact ⟨j, hj, e.symm⟩
/-- what Share deals out -/
structure Deal (u : Int) (z : List Int) (f : Nat → Int) : Prop where
  low : ∀ i, i < z.length → xF u z i ≤ f i
  top : ∀ i, i < z.length → f i ≤ xF u z i + 1
  rest : ∀ i, i < z.length → rF u z i = 0 → f i = xF u z i
  all : smF f z.length = u
  more : ∀ p q, p < z.length → q < z.length → (zf z q < zf z p ∨ (zf z p = zf z q ∧ p < q)) → f q ≤ f p
theorem rF_nonneg (u : Int) (z : List Int) (hW : 0 < sm z) (i : Nat) : 0 ≤ rF u z i ∧ rF u z i ≤ sm z - 1 := by
  have h1 := Int.emod_nonneg (u * zf z i) (b := sm z) (by omega)
  have h2 := Int.emod_lt_of_pos (u * zf z i) hW
  unfold rF; omega
theorem deal (u : Int) (z : List Int) (c : Nat → Nat) (hu : 0 ≤ u) (hW : 0 < sm z) (hz : z.all isW = true) (hm : Mix id c 0 z.length) (hs : Srt (rF u z) c 0 z.length) (hc : ∀ k, k < z.length → c k < z.length) :
    Deal u z (more (xF u z) c (u - xS u z z.length).toNat) := by
  have hne : z ≠ [] := by rintro rfl; simp [sm] at hW
  have L := left_bounds u z hW
  have L2 := L.2 hne
  have L1 := L.1
  have PP := parts u z hW z.length (Nat.le_refl _)
  rw [List.take_length] at PP
  obtain ⟨K, hK⟩ : ∃ K, K = (u - xS u z z.length).toNat := ⟨_, rfl⟩
  rw [← hK]
  have hKi : (K : Int) = u - xS u z z.length := by omega
  have hKn : K ≤ z.length := by omega
  have inj := inj_of _ c _ hs
  have hit : ∀ k, k < K → more (xF u z) c K (c k) = xF u z (c k) + 1 := fun k hk => more_hit _ c z.length K k hk hKn inj
  have R : ∀ k, k < K → rF u z (c k) ≠ 0 := by
    intro k hk e
    have b : ∀ i, i < z.length → rF u z i ≤ (sm z - 1) * more (fun _ => 0) c k i := by
      intro i hi
      obtain ⟨j, hj, rfl⟩ := onto_of c _ hm i hi
      by_cases q : j < k
      · rw [more_hit _ c z.length k j q (by omega) inj]
        have := (rF_nonneg u z hW (c j)).2
        simpa using this
      · rw [more_miss _ c k (c j) (fun i hi e => by have := inj i j (by omega) hj e; omega)]
        by_cases q2 : j = k
        · subst q2; rw [e]; simp
        · have := hs k j (Nat.zero_le _) (by omega) hj
          have h0 := (rF_nonneg u z hW (c j)).1
          rw [Int.mul_zero]
          unfold lt at this; omega
    have s := smF_le z.length b
    rw [smF_mul, smF_more _ c z.length k (by omega) hc, ← rS_sm] at s
    have e0 : smF (fun _ => (0 : Int)) z.length = 0 := by
      generalize z.length = n
      induction n with
      | zero => rfl
      | succ n ih => rw [smF, ih]; rfl
    rw [e0, Int.zero_add] at s
    have e1 : rS u z z.length = sm z * K := by rw [hKi, Int.mul_sub]; rw [Int.mul_comm (sm z) u]; omega
    have e2 : sm z * k < sm z * K := Int.mul_lt_mul_of_pos_left (by omega) hW
    have e3 : (sm z - 1) * (k : Int) = sm z * k - k := by rw [Int.sub_mul, Int.one_mul]
    omega
  have low : ∀ i, i < z.length → xF u z i ≤ more (xF u z) c K i ∧ more (xF u z) c K i ≤ xF u z i + 1 := by
    intro i hi
    obtain ⟨j, hj, rfl⟩ := onto_of c _ hm i hi
    by_cases q : j < K
    · rw [hit j q]; omega
    · rw [more_miss _ c K (c j) (fun i hi e => by have := inj i j (by omega) hj e; omega)]; omega
  have rest : ∀ i, i < z.length → rF u z i = 0 → more (xF u z) c K i = xF u z i := by
    intro i hi e
    exact more_miss _ c K i (fun k hk e2 => R k hk (by rw [e2]; exact e))
  refine ⟨fun i hi => (low i hi).1, fun i hi => (low i hi).2, rest, ?_, ?_⟩
  · rw [smF_more _ c z.length K hKn hc, ← xS_sm]; omega
  · intro p q hp hq h
    have dp : sm z * xF u z p + rF u z p = u * zf z p := Int.mul_ediv_add_emod _ _
    have dq : sm z * xF u z q + rF u z q = u * zf z q := Int.mul_ediv_add_emod _ _
    have hle : zf z q ≤ zf z p := by omega
    have m1 : u * zf z q ≤ u * zf z p := Int.mul_le_mul_of_nonneg_left hle hu
    have m2 : xF u z q ≤ xF u z p := Int.ediv_le_ediv hW m1
    have lp := low p hp
    have lq := low q hq
    by_cases e : xF u z q = xF u z p
    · rw [e] at dq
      have r1 : rF u z q ≤ rF u z p := by omega
      by_cases z0 : more (xF u z) c K q = xF u z q
      · omega
      · have rq : rF u z q ≠ 0 := fun h => z0 (rest q hq h)
        obtain ⟨kq, hkq, rfl⟩ := onto_of c _ hm q hq
        obtain ⟨kp, hkp, rfl⟩ := onto_of c _ hm p hp
        have kqK : kq < K := by
          apply Classical.byContradiction
          intro hn
          exact z0 (more_miss _ c K (c kq) (fun i hi e => by have := inj i kq (by omega) hkq e; omega))
        have l : lt (rF u z) (c kp) (c kq) := by
          by_cases re : rF u z (c kq) = rF u z (c kp)
          · rcases h with h | h
            · exfalso
              have e4 : u * zf z (c kq) = u * zf z (c kp) := by omega
              have u0 : u = 0 := by
                apply Classical.byContradiction
                intro hn
                have := Int.mul_lt_mul_of_pos_left h (show 0 < u by omega)
                omega
              apply rq
              unfold rF; rw [u0]; simp
            · exact Or.inr ⟨re.symm, h.2⟩
          · exact Or.inl (by omega)
        have kk : kp < kq := by
          rcases Nat.lt_trichotomy kp kq with t | t | t
          · exact t
          · subst t; exact absurd l lt_irrefl
          · exact absurd (hs kq kp (Nat.zero_le _) t hkp) (lt_asymm l)
        rw [hit kp (by omega), hit kq kqK]; omega
    · omega
end Go.Proofs.Ytgojcebdlafbeab.Sf
