/- StanBack: plain facts on what is restored. -/
import Derived.Test.YtmnoplaepjaokaaGreatDoorBe
namespace Go.Proofs.YtmnoplaepjaokaaGreatDoor.Bf
set_option linter.unusedVariables false
set_option linter.unusedSimpArgs false
open Go.RowKit Go.Maps Lib0 Kb Xp Ic Ix If Ig Za Zb Zc Zd Ze Zg Zh Ba Bb Bc Bd Be
abbrev Up (L : List Fl) : Prop := L.Pairwise fun x y => x.1 < y.1
theorem ml_mem (raw : List Int) (val : ByteArray) : ∀ (k : Nat) (x : Fl), x ∈ ml raw val k → 2 ≤ x.1 ∧ x.1 < ((k + 2 : Nat) : Int) ∧ isF x.1 = true ∧ x.2.size = val.size + 1
  | 0, x, h => by simp [ml] at h
  | k + 1, x, h => by
    unfold ml at h
    split at h
    · rename_i hi
      rcases List.mem_append.1 h with h | h
      · obtain ⟨h1, h2, h3, h4⟩ := ml_mem raw val k x h
        exact ⟨h1, by omega, h3, h4⟩
      · have e : x = (((k + 2 : Nat) : Int), vl val (k + 2)) := by simpa using h
        subst e
        exact ⟨by dsimp only; omega, by dsimp only; omega, isIn_ne _ _ hi, vl_size _ _⟩
    · obtain ⟨h1, h2, h3, h4⟩ := ml_mem raw val k x h
      exact ⟨h1, by omega, h3, h4⟩
theorem ml_up (raw : List Int) (val : ByteArray) : ∀ k, Up (ml raw val k)
  | 0 => List.Pairwise.nil
  | k + 1 => by
    unfold ml
    split
    · rw [Up, List.pairwise_append]
      refine ⟨ml_up raw val k, by simp, fun a ha b hb => ?_⟩
      have e : b = (((k + 2 : Nat) : Int), vl val (k + 2)) := by simpa using hb
      subst e
      exact (ml_mem raw val k a ha).2.1
    · exact ml_up raw val k
theorem up_eq : ∀ (A B : List Fl), Up A → Up B → (∀ x, x ∈ A ↔ x ∈ B) → A = B
  | [], [], _, _, _ => rfl
  | [], b :: B, _, _, h => absurd ((h b).2 (by simp)) (by simp)
  | a :: A, [], _, _, h => absurd ((h a).1 (by simp)) (by simp)
  | a :: A, b :: B, ha, hb, h => by
    rw [Up, List.pairwise_cons] at ha hb
    have e : a = b := by
      rcases List.mem_cons.1 ((h a).1 (by simp)) with e | e
      · exact e
      · rcases List.mem_cons.1 ((h b).2 (by simp)) with e2 | e2
        · exact e2.symm
        · have := hb.1 a e
          have := ha.1 b e2
          omega
    subst e
    rw [up_eq A B ha.2 hb.2 fun x => ?_]
    constructor
    · intro hx
      rcases List.mem_cons.1 ((h x).1 (List.mem_cons_of_mem _ hx)) with e | e
      · subst e; have := ha.1 x hx; omega
      · exact e
    · intro hx
      rcases List.mem_cons.1 ((h x).2 (List.mem_cons_of_mem _ hx)) with e | e
      · subst e; have := hb.1 x hx; omega
      · exact e
theorem up_ne {L : List Fl} (h : Up L) : (L.map (·.1)).Nodup := by
  rw [List.Nodup, List.pairwise_map]
  exact h.imp fun hh e => by omega
theorem up_of {T A : List Fl} (hp : T.Perm A) (hs : T.Pairwise fun x y => x.1 ≤ y.1) (hn : (A.map (·.1)).Nodup) : Up T := by
  have h1 : (T.map (·.1)).Nodup := (hp.map (·.1)).nodup_iff.2 hn
  rw [List.Nodup, List.pairwise_map] at h1
  exact (hs.and h1).imp fun hh => by omega
theorem mix_nodup (z : List Int) {A B : List Fl} (ha : Up A) (hb : Up B) : ((kp z false A ++ kp z true B).map (·.1)).Nodup := by
  rw [List.map_append, List.nodup_append]
  refine ⟨up_ne (List.Pairwise.filter _ ha), up_ne (List.Pairwise.filter _ hb), fun a h1 b h2 e => ?_⟩
  obtain ⟨x, hx, rfl⟩ := List.mem_map.1 h1
  obtain ⟨y, hy, rfl⟩ := List.mem_map.1 h2
  have k1 := (List.mem_filter.1 hx).2
  have k2 := (List.mem_filter.1 hy).2
  rw [e] at k1
  simp at k1 k2
  exact absurd k2 (by simpa using k1)
/-- what is restored of the message that was saved -/
theorem back_same (z : List Int) {T m : List Fl} (hm : Up m) (hp : T.Perm (kp z false m ++ kp z true m)) (hs : T.Pairwise fun x y => x.1 ≤ y.1) : T = m := by
  refine up_eq T m (up_of hp hs (mix_nodup z hm hm)) hm fun x => ?_
  rw [hp.mem_iff, List.mem_append, Zc.kp, Zc.kp, List.mem_filter, List.mem_filter]
  cases z.contains x.1 <;> simp
theorem mem_mix (z : List Int) {T A B : List Fl} (hp : T.Perm (kp z false A ++ kp z true B)) (x : Fl) : x ∈ T ↔ x ∈ (if z.contains x.1 then B else A) := by
  rw [hp.mem_iff, List.mem_append, Zc.kp, Zc.kp, List.mem_filter, List.mem_filter]
  cases z.contains x.1 <;> simp
theorem gt_mem {L : List Fl} (h : Up L) {x : Fl} (hx : x ∈ L) : gt L x.1 = .tuple #[.string x.2, .bool true] := by
  obtain ⟨i, hi, e⟩ := List.getElem_of_mem hx
  rw [gt_hit L x.1 i hi (fun j hj hji => ?_) (by rw [e]), e]
  have := List.pairwise_iff_getElem.1 h j i hj hi hji
  rw [e] at this
  omega
theorem gt_none {L : List Fl} {n : Int} (h : ∀ x ∈ L, x.1 ≠ n) : gt L n = .tuple #[.string ⟨#[]⟩, .bool false] :=
  gt_miss L n fun j hj => h _ (List.getElem_mem hj)
/-- how many lie below a number -/
def cn (T : List Fl) (n : Int) : Nat := (T.filter fun x => decide (x.1 < n)).length
theorem cn_hit : ∀ {T : List Fl} (h : Up T) {x : Fl} (hx : x ∈ T), cn T (x.1 + 1) = cn T x.1 + 1
  | [], _, x, hx => by simp at hx
  | t :: T, h, x, hx => by
    rw [Up, List.pairwise_cons] at h
    rcases List.mem_cons.1 hx with e | e
    · subst e
      have e1 : T.filter (fun y => decide (y.1 < x.1 + 1)) = [] := by
        rw [List.filter_eq_nil_iff]; intro y hy; have := h.1 y hy; simp; omega
      have e2 : T.filter (fun y => decide (y.1 < x.1)) = [] := by
        rw [List.filter_eq_nil_iff]; intro y hy; have := h.1 y hy; simp; omega
      rw [cn, cn, List.filter_cons_of_pos (by simp; omega), List.filter_cons_of_neg (by simp), e1, e2]; rfl
    · have := h.1 x e
      have ih := cn_hit h.2 e
      rw [cn, cn] at ih ⊢
      rw [List.filter_cons_of_pos (by simp; omega), List.filter_cons_of_pos (by simp; omega), List.length_cons, List.length_cons, ih]
theorem cn_miss {T : List Fl} {n : Int} (h : ∀ x ∈ T, x.1 ≠ n) : cn T (n + 1) = cn T n := by
  rw [cn, cn]
  congr 1
  apply List.filter_congr
  intro x hx
  have := h x hx
  rw [Bool.eq_iff_iff]
  simp
  omega
theorem cn_end {T : List Fl} {n : Int} (h : ∀ x ∈ T, x.1 < n) : cn T n = T.length := by
  rw [cn, List.filter_eq_self.2 (fun x hx => by simpa using h x hx)]
theorem cn_start {T : List Fl} {n : Int} (h : ∀ x ∈ T, n ≤ x.1) : cn T n = 0 := by
  rw [cn, List.filter_eq_nil_iff.2 (fun x hx => by have := h x hx; simp; omega)]; rfl
theorem snF_of : ∀ {L : List Fl} {last : Int} (h : Up L) (hl : ∀ x ∈ L, last < x.1) (hf : ∀ x ∈ L, fldT x.1 = true), snF last L = true
  | [], _, _, _, _ => rfl
  | x :: L, last, h, hl, hf => by
    rw [Up, List.pairwise_cons] at h
    rw [snF, snF_of h.2 h.1 (fun y hy => hf y (List.mem_cons_of_mem _ hy)), hf x (by simp), decide_eq_true (hl x (by simp))]; rfl
end Go.Proofs.YtmnoplaepjaokaaGreatDoor.Bf
