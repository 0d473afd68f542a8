/- What is laid down, in order: inOrder. -/
import Derived.Test.YtgchdjjafgkcbaaVc
namespace Go.Proofs.Ytgchdjjafgkcbaa.Vd
set_option linter.unusedVariables false
set_option linter.unusedSimpArgs false
open Go.RowKit Go.Maps Lib0 Kb Xp Ih Dh Eh Fh Gh Hh Kh Jh Mh Th Ch Va Vb Vc
attribute [local go_sem] Oper.semAt_some
/-- timers rise -/
def Inc3 (T : List T3) : Prop := T.Pairwise fun x y => x.1 < y.1
theorem inc_emb {T : List T3} (h : Inc (T.map emb)) : Inc3 T := by
  rw [Inc, List.pairwise_map] at h
  exact h
theorem Inc3.ne {T : List T3} (h : Inc3 T) : T.Pairwise fun x y => x.1 ≠ y.1 := List.Pairwise.imp (fun h => by omega) h
/-- by their ticks, then by their numbers -/
noncomputable def ordT (T : List T3) : List T3 := by
  classical exact T.mergeSort fun x y => decide (¬ Lt3 y x)
theorem ord_perm (T : List T3) : (ordT T).Perm T := List.mergeSort_perm _ _
theorem ord_len (T : List T3) : (ordT T).length = T.length := (ord_perm T).length_eq
theorem ne_strict {A : List T3} (hn : A.Pairwise fun x y => x.1 ≠ y.1) (hs : A.Pairwise fun x y => ¬ Lt3 y x) : A.Pairwise Lt3 := by
  refine (hn.and hs).imp ?_
  rintro x y ⟨h1, h2⟩
  unfold Lt3 at *
  omega
theorem ne_perm {A T : List T3} (h : A.Perm T) (hi : Inc3 T) : A.Pairwise fun x y => x.1 ≠ y.1 := (h.pairwise_iff (fun {_ _} h => Ne.symm h)).2 hi.ne
theorem uniq {A C : List T3} (h : A.Perm C) (ha : A.Pairwise Lt3) (hc : C.Pairwise Lt3) : A = C :=
  List.Perm.eq_of_pairwise (fun a b _ _ h1 h2 => by unfold Lt3 at *; omega) ha hc h
theorem ord_sorted {T : List T3} (hi : Inc3 T) : (ordT T).Pairwise Lt3 := by
  refine ne_strict (ne_perm (ord_perm T) hi) ?_
  classical
  have := List.pairwise_mergeSort (le := fun x y : T3 => decide (¬ Lt3 y x)) (fun a b c h1 h2 => by
    simp only [decide_eq_true_eq] at *; unfold Lt3 at *; omega) (fun a b => by
    simp only [Bool.or_eq_true, decide_eq_true_eq]; unfold Lt3; omega) T
  refine List.Pairwise.imp ?_ this
  intro x y h
  simpa using h
theorem ord_is {A T : List T3} (hi : Inc3 T) (hp : A.Perm T) (hs : A.Pairwise fun x y => ¬ Lt3 y x) : A = ordT T :=
  uniq (hp.trans (ord_perm T).symm) (ne_strict (ne_perm hp hi) hs) (ord_sorted hi)
theorem flat_in {α : Type} (g : Nat → List α) (x : α) (k : Nat) : ∀ n, ((List.range n).flatMap fun j => if j = k then x :: g j else g j).Perm (if k < n then x :: (List.range n).flatMap g else (List.range n).flatMap g)
  | 0 => by simp
  | n + 1 => by
    have ih := flat_in g x k n
    rw [List.range_succ, List.flatMap_append, List.flatMap_append, List.flatMap_singleton, List.flatMap_singleton]
    by_cases e : n = k
    · subst e
      rw [if_neg (by omega)] at ih
      rw [if_pos rfl, if_pos (by omega)]
      exact (ih.append_right _).trans List.perm_middle
    · rw [if_neg e]
      by_cases h : k < n
      · rw [if_pos h] at ih
        rw [if_pos (by omega)]
        exact ih.append_right _
      · rw [if_neg h] at ih
        rw [if_neg (by omega)]
        exact ih.append_right _
theorem cc_perm (L : LT) (n : Nat) (hn : 1 ≤ n) : (cc (fun j => slotL L n j) n).Perm L := by
  induction L with
  | nil =>
    have : cc (fun j => slotL [] n j) n = [] := by simp [cc, slotL]
    rw [this]
  | cons x L ih =>
    have e : cc (fun j => slotL (x :: L) n j) n = (List.range n).flatMap fun j => if j = x.2.1.toNat % n then x :: slotL L n j else slotL L n j := by
      rw [cc]
      congr 1
      funext j
      rw [slotL, List.filter_cons]
      by_cases h : j = x.2.1.toNat % n
      · rw [if_pos h, if_pos (by simp [h])]; rfl
      · rw [if_neg h, if_neg (by simp; exact fun e => h e.symm)]; rfl
    rw [e]
    refine (flat_in _ x (x.2.1.toNat % n) n).trans ?_
    rw [if_pos (Nat.mod_lt _ (by omega))]
    exact ih.cons x
theorem cc_emb (T : List T3) (n : Nat) : ∃ C : List T3, cc (fun j => slotL (T.map emb) n j) n = C.map emb := by
  refine ⟨(List.range n).flatMap fun j => T.filter fun x => (emb x).2.1.toNat % n == j, ?_⟩
  rw [cc, List.map_flatMap]
  congr 1
  funext j
  rw [slotL, List.filter_map]
  rfl
theorem emb_inj {a b : T3} (h : emb a = emb b) : a = b := by
  obtain ⟨a0, a1, a2⟩ := a
  obtain ⟨b0, b1, b2⟩ := b
  simp only [emb, Prod.mk.injEq, Value.pointer.injEq, Option.some.injEq, Addr.mk.injEq, and_true, true_and] at h
  simp [h]
def unb (x : XT) : T3 := (x.1, x.2.1, match x.2.2 with | .pointer (some a) => a.block | _ => 0)
theorem unb_emb (C : List T3) : (C.map emb).map unb = C := by
  rw [List.map_map]
  exact List.map_id'' (fun x => rfl) C
theorem perm_emb {C T : List T3} (h : (C.map emb).Perm (T.map emb)) : C.Perm T := by
  have := h.map unb
  rwa [unb_emb, unb_emb] at this
theorem emb_one (T : List T3) : One (T.map emb) := fun x hx => by
  obtain ⟨y, -, rfl⟩ := List.mem_map.1 hx
  rfl
set_option maxRecDepth 100000 in
theorem inorder_any (w : World) (b : Nat) (B : Nat → Prop) (n : Nat) (T : List T3) (now last : Int) (h : Wl w b B n (T.map emb) now last) (ok : Ok n (T.map emb) now last) :
    Calls Try.prog 41 #[.pointer (some ⟨b, 0, none⟩)] w fun e w' => ∃ v, e = .returned v ∧ w'.ownsRow w.heap.size tL 3 v (ordT T).length (gc ((ordT T).map emb)) ∧ Below w.heap.size w w' := by
  obtain ⟨sb, mb, S, c, D, hm, hB⟩ := h
  have c0 : w.cell? ⟨b, 0, none⟩ = some (.slice (some ⟨sb, 0, none⟩) n n) := by simp [World.cell?, hm.blk]
  have hlen : (T.map emb).length ≤ 5864062014805 := by
    have h1 := Wm.len hm
    have h2 := ok.last1
    have h3 := ok.last0
    omega
  have hcp := cc_perm (T.map emb) n ok.pos
  have hcon := concat_any w sb n S (fun j => slotL (T.map emb) n j) hm.slots hm.row (fun j _ => slotL_one ok.one n j) ok.top (by rw [hcp.length_eq]; exact hlen)
  obtain ⟨C, hC⟩ := cc_emb T n
  rw [hC] at hcon hcp
  have HP : Hid (C.Perm T) := perm_emb hcp
  have HI : Hid (Inc3 T) := inc_emb ok.inc
  rw [List.length_map] at hcon hlen
  have HL : Hid (C.length ≤ 5864062014805) := by show C.length ≤ _; rw [HP.out.length_eq]; exact hlen
  clear hm hB ok hcp hC hlen
  go_enter Try.func41, Try.ntmps41
  go_wp2_with fail
  refine hcon.mono ?_
  rintro e y ⟨v, rfl, ho, hb⟩
  have hso := sort_any y w.heap.size v C ho HL.out
  have HB : Hid (Below w.heap.size w y) := hb
  have HV : Hid (∀ g, v.ownBlock = some g → w.heap.size ≤ g) := fun g hg => (ho.lt g hg).1
  clear hcon ho hb
  go_wp2_with fail
  refine hso.mono ?_
  rintro e z ⟨rfl, T', h1, h2, h3, h4⟩
  have HE : Hid (T' = ordT T) := ord_is HI.out (h1.trans HP.out) h2
  have HO : Hid (z.ownsRow w.heap.size tL 3 v T'.length (gc (T'.map emb)) ∧ Below w.heap.size w z) := ⟨h3, ((FrP.of (B := fun _ => False) HB.out).trans h4 (fun g hg => .inr (HV.out g hg))).below (fun _ h => h.elim)⟩
  clear h1 h2 h3 h4 hso
  go_wp2_with fail
  go_ret
  rw [← HE.out]
  exact ⟨_, rfl, HO.out⟩
end Go.Proofs.Ytgchdjjafgkcbaa.Vd
