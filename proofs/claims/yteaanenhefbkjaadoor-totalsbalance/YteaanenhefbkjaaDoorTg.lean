/- totals.New. -/
import Derived.Test.YteaanenhefbkjaaDoorTf
import Derived.OwnWalk
namespace Go.Proofs.YteaanenhefbkjaaDoor.Tg
set_option linter.unusedVariables false
set_option linter.unusedSimpArgs false
open Go.RowKit Lib0 Kb Xp Ic Ta Tb Tc Td Te Tf
attribute [local go_sem] Oper.semAt_some
theorem infoT : ∃ i, Tryd.prog.info? tTa = some i ∧ i.zero = some (.agg (ta fun _ => 0)) ∧ i.size = 12 ∧ i.bytes = 96 := by
  have h : (Tryd.prog.info? tTa).map (fun i => (i.zero, i.size, i.bytes)) = some (some (.agg (ta fun _ => 0)), 12, 96) := by kernel_rfl
  cases e : Tryd.prog.info? tTa with
  | none => rw [e] at h; cases h
  | some i => rw [e] at h; simp at h; exact ⟨i, rfl, h.1, h.2.1, h.2.2⟩
theorem zero_at (j : Nat) (h : j < 12) : (ta fun _ => 0)[j]! = .int .i64 0 := by
  rcases twelve h with rfl | rfl | rfl | rfl | rfl | rfl | rfl | rfl | rfl | rfl | rfl | rfl <;> rfl
theorem made_at (m j : Nat) (h : j < m) : (madeCells (Value.agg (ta fun _ => 0)).cells m).toList[j]? = some (.int .i64 0) := by
  have e : (Value.agg (ta fun _ => 0)).cells = ta fun _ => 0 := rfl
  rw [e]
  simp [madeCells, h]
  exact zero_at _ (Nat.mod_lt _ (by decide))
theorem bk_made {w x : World} {n : Nat} (hn : 0 < n ∧ n ≤ 33) (ho : x.ownsRow w.heap.size tTa 12 (.slice (some ⟨w.heap.size, 0, none⟩) n n) n (madeCells (Value.agg (ta fun _ => 0)).cells (n * 12)).toList) (hg : w.grownBy x none) : BkT (x.alloc (.cells #[.slice (some ⟨w.heap.size, 0, none⟩) n n] tBo)) w.heap.size x.heap.size w.heap.size n (fun _ _ => 0) ∧ Below w.heap.size w (x.alloc (.cells #[.slice (some ⟨w.heap.size, 0, none⟩) n n] tBo)) := by
  have hlt := (ho.lt w.heap.size rfl).2
  have hb : Below w.heap.size w x := (Below.refl _ _).grown hg (Nat.le_refl _) (fun k hk => by cases hk)
  have h1 := ho.alloc (.cells #[.slice (some ⟨w.heap.size, 0, none⟩) n n] tBo)
  have hc : ∀ j, j < n * 12 → (x.alloc (.cells #[.slice (some ⟨w.heap.size, 0, none⟩) n n] tBo)).cell? ⟨w.heap.size, j, none⟩ = some (.int .i64 0) := fun j hj => by
    have := h1.cells (g := w.heap.size) rfl j _ (made_at (n * 12) j hj)
    rw [add_zero] at this
    exact this
  obtain ⟨cc, hcc⟩ := own_ty h1 rfl
  refine ⟨⟨h1_0 _ _, fun k hk j v hv => ?_, fun k hk j hj => ⟨by rw [hc _ (by omega)]; rfl, by simp [World.frozen?, hcc]⟩, by have := hb.size; omega, Nat.le_refl _, by simp; omega, by omega, hn.1, hn.2⟩, keepB hb (below_one _ _)⟩
  have hj : j < 12 := (List.getElem?_eq_some_iff.1 hv).1
  have : v = .int .i64 0 := by
    have h9 : (ta fun _ => 0).toList[j]? = some (.int .i64 0) := by
      have := ta_at (fun _ => 0) j hj
      rw [← Array.getElem?_toList] at this
      exact this
    rw [h9] at hv
    exact (Option.some.inj hv).symm
  rw [this]
  exact hc _ (by omega)
set_option maxRecDepth 100000 in
set_option maxHeartbeats 1600000 in
theorem new_any (n : Nat) (hn : 0 < n ∧ n ≤ 32) (w : World) : Calls Tryd.prog 9 #[.int .i64 (n : Int)] w fun e w' => ∃ b g, e = .returned (.tuple #[.pointer (some ⟨b, 0, none⟩), .int .i64 0]) ∧ BkT w' w.heap.size b g n (fun _ _ => 0) ∧ Below w.heap.size w w' := by
  obtain ⟨i0, hi0, hz0, hz1, hz2⟩ := infoT
  have q0 : decide ((n : Int) < 1) = false := decide_eq_false (by omega)
  have q1 : decide ((32 : Int) < (n : Int)) = false := decide_eq_false (by omega)
  have HN : Hid (0 < n ∧ n ≤ 32) := hn
  clear hn
  go_enter Tryd.func9, Tryd.ntmps9
  go_wp2_with (first
    | (at_make; refine wpList_make_full _ rfl _ _ 54 rfl w.heap.size tTa i0 _ 12 Tryd.underlying54 hi0 hz0 hz1 _ _ _ _ n rfl rfl rfl rfl (by rw [hz2]; have := HN.out; omega) (by have := HN.out; unfold maxLen; omega) (Nat.le_refl _) ?_; intro x hown hgrow; have HBK : Hid _ := bk_made ⟨HN.out.1, by have := HN.out; omega⟩ hown hgrow; clear hown hgrow)
    | fail)
  go_ret2
  exact ⟨_, _, rfl, HBK.out.1, HBK.out.2⟩
end Go.Proofs.YteaanenhefbkjaaDoor.Tg
