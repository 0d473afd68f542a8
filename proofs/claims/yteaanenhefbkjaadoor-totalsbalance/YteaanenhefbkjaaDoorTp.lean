/- TotalsCount, plain: what deals bring, in whatever order they come. -/
import Derived.Test.YteaanenhefbkjaaDoorTl
import Derived.Test.YteaanenhefbkjaaDoorSo
namespace Go.Proofs.YteaanenhefbkjaaDoor.Tp
set_option linter.unusedVariables false
set_option linter.unusedSimpArgs false
open Go.RowKit Lib0 Kb Xp Ic Ta Tb Tc Td Te Tf Tg Tn Num Chars Tj Tk
abbrev D := So.Opv
def kd (d : D) : Nat := (Pick.pickOf d.wh 6).toNat
def md (d : D) : Nat := (Pick.pickOf d.am 1000000000).toNat
def brD (d : D) : Nat → Int := br (decide (3 < kd d)) (decide (2 < kd d)) d.cr d.ys (md d : Int)
def capK (j : Nat) : Int := if 8 ≤ j then 999999999 else 1
theorem kd_lt (d : D) : kd d < 6 := by
  have h1 := Pick.pick_hi d.wh 6 (by omega)
  have h0 := Pick.pick_lo d.wh 6 (by omega)
  unfold kd; omega
theorem md_lt (d : D) : md d < 1000000000 := by
  have h1 := Pick.pick_hi d.am 1000000000 (by omega)
  have h0 := Pick.pick_lo d.am 1000000000 (by omega)
  unfold md; omega
theorem br_b (bk tel cr ys : Bool) (m : Nat) (hm : m < 1000000000) (j : Nat) : 0 ≤ br bk tel cr ys (m : Int) j ∧ br bk tel cr ys (m : Int) j ≤ capK j := by
  unfold br mov nmI upd capK
  cases bk <;> cases tel <;> cases cr <;> cases ys <;> simp <;> (repeat' split) <;> omega
theorem brD_b (d : D) (j : Nat) : 0 ≤ brD d j ∧ brD d j ≤ capK j := br_b _ _ _ _ _ (md_lt d) j
def pkl (n : Int) (d : D) : Nat := (Pick.pickOf d.lk n).toNat
theorem pkl_lt (n : Nat) (hn : 0 < n) (d : D) : pkl n d < n := by
  have h1 := Pick.pick_hi d.lk n (by omega)
  have h0 := Pick.pick_lo d.lk n (by omega)
  unfold pkl; omega
def tot (n : Int) : List D → Nat → Nat → Int
  | [], _, _ => 0
  | d :: L, k, j => (if pkl n d = k then brD d j else 0) + tot n L k j
theorem capK_pos (j : Nat) : 0 ≤ capK j := by unfold capK; split <;> omega
theorem tot_b (n : Int) (k j : Nat) : ∀ L : List D, 0 ≤ tot n L k j ∧ tot n L k j ≤ L.length * capK j
  | [] => by simp [tot]
  | d :: L => by
    have h1 := tot_b n k j L
    have h2 := brD_b d j
    have h3 := capK_pos j
    rw [tot, List.length_cons]
    push_cast
    rw [Int.add_mul]
    split <;> omega
theorem tot_app (n : Int) (k j : Nat) : ∀ L M : List D, tot n (L ++ M) k j = tot n L k j + tot n M k j
  | [], M => by simp [tot]
  | d :: L, M => by
    rw [List.cons_append, tot, tot, tot_app n k j L M]
    omega
theorem tot_rev (n : Int) : ∀ L : List D, tot n L.reverse = tot n L
  | [] => rfl
  | d :: L => by
    funext k j
    rw [List.reverse_cons, tot_app, tot_rev n L, tot, tot, tot]
    omega
theorem tot_cons (n : Int) (d : D) (L : List D) : tot n (d :: L) = updF (tot n L) (pkl n d) (sumT (tot n L (pkl n d)) (brD d)) := by
  funext k j
  rw [tot]
  unfold updF sumT
  by_cases h : k = pkl n d
  · subst h; rw [if_pos rfl, if_pos rfl]; omega
  · rw [if_neg h, if_neg (fun e => h e.symm)]; omega
theorem tot_snoc (n : Int) (d : D) (L : List D) : tot n (L ++ [d]) = updF (tot n L) (pkl n d) (sumT (tot n L (pkl n d)) (brD d)) := by
  rw [← tot_rev, List.reverse_append, List.reverse_cons, List.reverse_nil, List.nil_append, List.singleton_append, tot_cons, tot_rev]
theorem most_b (n : Int) (L : List D) (hl : L.length ≤ 300) (d : D) (k j : Nat) (hj : j < 12) : 0 ≤ tot n L k j ∧ 0 ≤ brD d j ∧ tot n L k j + brD d j ≤ mostK j := by
  have h1 := tot_b n k j L
  have h2 := brD_b d j
  refine ⟨h1.1, h2.1, ?_⟩
  have h3 : (L.length : Int) * capK j ≤ 300 * capK j := Int.mul_le_mul_of_nonneg_right (by omega) (capK_pos j)
  unfold capK at h2 h3 h1
  unfold mostK
  split <;> simp_all <;> omega
/-- what is told of each: as many as are approved and declined -/
theorem tot_req (n : Int) (k : Nat) : ∀ L : List D, tot n L k 0 = tot n L k 1 + tot n L k 2
  | [] => by simp [tot]
  | d :: L => by
    have h := tot_req n k L
    have h2 : brD d 0 = brD d 1 + brD d 2 := by
      unfold brD br mov nmI upd
      cases decide (3 < kd d) <;> cases decide (2 < kd d) <;> cases d.cr <;> cases d.ys <;> simp
    rw [tot, tot, tot]
    split <;> omega
end Go.Proofs.YteaanenhefbkjaaDoor.Tp
