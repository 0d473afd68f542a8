/- StandinHolds: plain. -/
import Derived.Test.YtmaikkhemhonhaaEi
import Derived.Test.YtmaikkhemhonhaaEh
import Derived.Test.YtmaikkhemhonhaaSo
namespace Go.Proofs.Ytmaikkhemhonhaa.Ej
set_option linter.unusedVariables false
set_option linter.unusedSimpArgs false
open Go.RowKit Go.Maps Lib0 Kb Xp Da Db Dc Dd De Df Dh Di Dj Dk Dl Dm Dn Dp Dq Dr Ds Dt Du Dv Dw Dy Dz Ea Eb Ec Ed Ee Ef Eg Eh Ei
def one1 (g : Ga) (c : ByteArray) (t : Int) : Bool := decide (g.1 = c) && decide (t ≤ g.2.2.2)
theorem cnt_cons (g : Ga) (G : List Ga) (c : ByteArray) (t : Int) : cnt (g :: G) c t = (if one1 g c t then 1 else 0) + cnt G c t := by
  unfold cnt lc la one1
  by_cases e : g.1 = c
  · by_cases e2 : t ≤ g.2.2.2
    · simp [e, e2]; omega
    · simp [e, e2]
  · simp [e]
theorem smm_cons (g : Ga) (G : List Ga) (c : ByteArray) (t : Int) : smm (g :: G) c t = (if one1 g c t then g.2.2.1 else 0) + smm G c t := by
  unfold smm lc la one1
  by_cases e : g.1 = c
  · by_cases e2 : t ≤ g.2.2.2
    · simp [e, e2, uS]
    · simp [e, e2]
  · simp [e]
theorem cnt_snoc : ∀ (G : List Ga) (g : Ga) (c : ByteArray) (t : Int), cnt (G ++ [g]) c t = cnt G c t + (if one1 g c t then 1 else 0)
  | [], g, c, t => by rw [List.nil_append, cnt_cons]; show _ + (0 : Int) = (0 : Int) + _; omega
  | x :: G, g, c, t => by rw [List.cons_append, cnt_cons, cnt_cons, cnt_snoc G g c t]; omega
theorem smm_snoc : ∀ (G : List Ga) (g : Ga) (c : ByteArray) (t : Int), smm (G ++ [g]) c t = smm G c t + (if one1 g c t then g.2.2.1 else 0)
  | [], g, c, t => by rw [List.nil_append, smm_cons]; show _ + (0 : Int) = (0 : Int) + _; omega
  | x :: G, g, c, t => by rw [List.cons_append, smm_cons, smm_cons, smm_snoc G g c t]; omega
theorem cnt_anti : ∀ (G : List Ga) (c : ByteArray) (t t' : Int), t ≤ t' → cnt G c t' ≤ cnt G c t
  | [], _, _, _, _ => Int.le_refl _
  | g :: G, c, t, t', h => by
    rw [cnt_cons, cnt_cons]
    have := cnt_anti G c t t' h
    have : (if one1 g c t' then (1 : Int) else 0) ≤ if one1 g c t then 1 else 0 := by
      by_cases e : g.1 = c
      · by_cases e2 : t' ≤ g.2.2.2
        · simp [one1, e, e2, show t ≤ g.2.2.2 by omega]
        · simp [one1, e, e2]; split <;> omega
      · simp [one1, e]
    omega
theorem smm_anti : ∀ (G : List Ga) (c : ByteArray) (t t' : Int), (∀ g ∈ G, 0 ≤ g.2.2.1) → t ≤ t' → smm G c t' ≤ smm G c t
  | [], _, _, _, _, _ => Int.le_refl _
  | g :: G, c, t, t', hp, h => by
    rw [smm_cons, smm_cons]
    have := smm_anti G c t t' (fun x hx => hp x (by simp [hx])) h
    have hg := hp g (by simp)
    have : (if one1 g c t' then g.2.2.1 else 0) ≤ if one1 g c t then g.2.2.1 else 0 := by
      by_cases e : g.1 = c
      · by_cases e2 : t' ≤ g.2.2.2
        · simp [one1, e, e2, show t ≤ g.2.2.2 by omega]
        · simp [one1, e, e2]; split <;> omega
      · simp [one1, e]
    omega
theorem cnt_le (G : List Ga) (c : ByteArray) (t : Int) : 0 ≤ cnt G c t ∧ cnt G c t ≤ (G.length : Int) := by
  refine ⟨by unfold cnt; omega, ?_⟩
  unfold cnt la
  have h1 : ((lc G c).filter fun a => decide (t ≤ a.2.2)).length ≤ (lc G c).length := List.length_filter_le _ _
  have h2 := lc_len G c
  omega
theorem smm_le : ∀ (G : List Ga) (c : ByteArray) (t B : Int), 0 ≤ B → (∀ g ∈ G, 0 ≤ g.2.2.1 ∧ g.2.2.1 ≤ B) → 0 ≤ smm G c t ∧ smm G c t ≤ B * (G.length : Int)
  | [], _, _, _, _, _ => by simp [smm, lc, la, uS]
  | g :: G, c, t, B, hB, h => by
    rw [smm_cons]
    have h1 := smm_le G c t B hB (fun x hx => h x (by simp [hx]))
    have h2 := h g (by simp)
    simp only [List.length_cons]
    have : B * ((G.length + 1 : Nat) : Int) = B * (G.length : Int) + B := by rw [Int.natCast_add, Int.mul_add]; simp
    split <;> omega
/-- never more than the limits allow -/
def Lim (S : St) (l : Lm) : Prop := ∀ c t, S.now - l.window + 1 ≤ t → cnt S.G c t ≤ l.count ∧ smm S.G c t ≤ l.sum
theorem lim_give {S : St} {l : Lm} (h : Lim S l) (c : ByteArray) (u now : Int) (hn : S.now ≤ now) (hp : ∀ g ∈ S.G, 0 ≤ g.2.2.1) (hu : 0 ≤ u) (hb : bey S.G l c u now = false) : Lim (giveS (nowS S now) c u) l := by
  simp only [bey, Bool.or_eq_false_iff, decide_eq_false_iff_not] at hb
  intro d t ht
  have ht2 : now - l.window + 1 ≤ t := ht
  have hold := h d t (by omega)
  show cnt (S.G ++ [(c, (S.gv + 1, u, now))]) d t ≤ _ ∧ smm (S.G ++ [(c, (S.gv + 1, u, now))]) d t ≤ _
  rw [cnt_snoc, smm_snoc]
  by_cases e : c = d
  · subst e
    have h1 := cnt_anti S.G c (now - l.window + 1) t ht2
    have h2 := smm_anti S.G c (now - l.window + 1) t hp ht2
    refine ⟨?_, ?_⟩
    · split <;> omega
    · split
      · show _ + u ≤ _; omega
      · omega
  · have e1 : one1 (c, (S.gv + 1, u, now)) d t = false := by simp [one1, e]
    rw [e1]
    simpa using hold
theorem len_part (p : ByteArray → Bool) : ∀ L : List ByteArray, L.length = (L.filter p).length + (L.filter fun x => !p x).length
  | [] => rfl
  | a :: L => by
    have := len_part p L
    cases h : p a <;> simp [h] <;> omega
theorem few : ∀ (n : Nat) (L : List ByteArray), L.Pairwise (fun a b => a ≠ b) → (∀ x ∈ L, ∃ k, k < n ∧ x = crd ((k : Nat) : Int)) → L.length ≤ n
  | 0, L, _, h => by
    cases L with
    | nil => simp
    | cons a L => obtain ⟨k, hk, -⟩ := h a (by simp); omega
  | n + 1, L, hp, h => by
    have hq : (L.filter fun x => decide (x ≠ crd ((n : Nat) : Int))).length ≤ n := few n _ (hp.filter _) (fun x hx => by
      have h1 := List.mem_filter.1 hx
      obtain ⟨k, hk, e⟩ := h x h1.1
      refine ⟨k, ?_, e⟩
      by_cases e2 : k = n
      · subst e2; simp [e] at h1
      · omega)
    have hr : (L.filter fun x => !decide (x ≠ crd ((n : Nat) : Int))).length ≤ 1 := by
      have hpw := hp.filter (fun x => !decide (x ≠ crd ((n : Nat) : Int)))
      match hm : L.filter fun x => !decide (x ≠ crd ((n : Nat) : Int)) with
      | [] => simp
      | [a] => simp
      | a :: b :: M =>
        rw [hm] at hpw
        have ha : a ∈ L.filter fun x => !decide (x ≠ crd ((n : Nat) : Int)) := by rw [hm]; simp
        have hb : b ∈ L.filter fun x => !decide (x ≠ crd ((n : Nat) : Int)) := by rw [hm]; simp
        have h1 := (List.mem_filter.1 ha).2
        have h2 := (List.mem_filter.1 hb).2
        simp at h1 h2
        exact absurd (h1.trans h2.symm) ((List.pairwise_cons.1 hpw).1 b (by simp))
    have := len_part (fun x => decide (x ≠ crd ((n : Nat) : Int))) L
    omega
theorem bk_few {w : World} {base b : Nat} {S : St} {m n : Nat} (h : Bk w base b S m) (hg : ∀ g ∈ S.G, ∃ k, k < n ∧ g.1 = crd ((k : Nat) : Int)) : m ≤ n := by
  obtain ⟨cm, cn, D, av, A, h1, h2, h3, h4, h5⟩ := h
  have := few n (A.map fun a => a.card) (List.pairwise_map.2 h1.mp.nd) (fun x hx => by
    obtain ⟨a, ha, rfl⟩ := List.mem_map.1 hx
    have hne := h2.ne a ha
    rw [h2.eq a ha] at hne
    obtain ⟨y, hy⟩ := List.exists_mem_of_ne_nil _ hne
    exact hg _ (lc_mem hy))
  rw [List.length_map] at this
  omega
end Go.Proofs.Ytmaikkhemhonhaa.Ej
