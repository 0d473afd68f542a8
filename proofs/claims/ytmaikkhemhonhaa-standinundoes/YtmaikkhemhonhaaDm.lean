/- Push; Fix, heap.Push, Remove. -/
import Derived.Test.YtmaikkhemhonhaaDl
namespace Go.Proofs.Ytmaikkhemhonhaa.Dm
set_option linter.unusedVariables false
set_option linter.unusedSimpArgs false
open Go.RowKit Go.Maps Lib0 Kb Xp Da Db Dc Dd De Dh Di Dx Dj Dk Dl
attribute [local go_sem] Oper.semAt_some
attribute [-go_sem] Builtin.append_
theorem infoP : ∃ i, Try.prog.info? tP = some i ∧ i.zero = some (.pointer none) ∧ i.size = 1 ∧ i.bytes = 8 := by
  have h : (Try.prog.info? tP).map (fun i => (i.zero, i.size, i.bytes)) = some (some (.pointer none), 1, 8) := by kernel_rfl
  cases e : Try.prog.info? tP with
  | none => rw [e] at h; cases h
  | some i => rw [e] at h; simp at h; exact ⟨i, rfl, h.1, h.2.1, h.2.2⟩
theorem ta (w : World) (v : Value) : (Instr.typeAssert (.iface tP v) 20 tP false).run Try.prog w = .ok v w := by kernel_rfl
set_option maxRecDepth 100000 in
set_option maxHeartbeats 1600000 in
theorem push_any {w : World} {base b : Nat} {bc : Array Value} {av : Value} {A : List Rc} {a : Rc} {p0 : Int} (h : HpM w base b bc av A) (ha : w.heap[a.gr]? = some (.cells (rcs a p0) tR (0, 0))) (hlo : base ≤ a.gr) (hnew : ∀ c ∈ A, c.gr ≠ a.gr) (hlen : A.length < 1000000) : Calls Try.prog 84 #[.pointer (some ⟨b, 4, none⟩), .iface tP (ptr a.gr)] w fun e w' => e = .returned (.tuple #[]) ∧ PR w base b bc (A ++ [a]) w' := by
  obtain ⟨o, cap, rfl, hcap, -⟩ := own_form h.row
  obtain ⟨c4, f4⟩ := h.cell4
  have nba : b ≠ a.gr := fun e => ty_ne h.blk ha (by decide) e
  obtain ⟨w1, hw1⟩ : ∃ w1, w.setCell ⟨a.gr, 4, none⟩ (.int .i64 (A.length : Int)) = w1 := ⟨_, rfl⟩
  have ha1 : w1.heap[a.gr]? = some (.cells (rcs a A.length) tR (0, 0)) := by rw [← hw1, setCell_heap ha, rcs_set]
  have hot1 : ∀ k, k ≠ a.gr → w1.heap[k]? = w.heap[k]? := fun k hk => by rw [← hw1, setCell_ne (p := ⟨a.gr, 4, none⟩) (fun e => hk e.symm)]
  have hs1 : w1.heap.size = w.heap.size := by rw [← hw1, setCell_size]
  have K1 : KT sH w w1 := hw1 ▸ KT.set ha (by decide) _
  have B1 : Below base w w1 := hw1 ▸ (Below.refl base w).setCell hlo _
  have row1 : w1.ownsRow base tP 1 (.slice o A.length cap) A.length (A.map fun a => ptr a.gr) := own_keep h.row fun k hk => hot1 k (fun e => by
    obtain ⟨c, hc⟩ := own_ty h.row hk
    exact ty_ne hc ha (by decide) e)
  have hb1 : w1.heap[b]? = some (.cells bc tB (0, 0)) := (hot1 b nba).trans h.blk
  obtain ⟨x, hx⟩ : ∃ x, w1.alloc (.cells #[ptr a.gr] tP) = x := ⟨_, rfl⟩
  have Bx : Below w1.heap.size w1 x := hx ▸ below_one _ _
  have hbx := kept Bx hb1
  have rowx : x.ownsRow base tP 1 (.slice o A.length cap) A.length (A.map fun a => ptr a.gr) := own_keep row1 fun k hk => Bx.block k (row1.lt k hk).2
  obtain ⟨i, hi, hz, hsz, hby⟩ := infoP
  have hbase : base ≤ x.heap.size := by have := h.bas; have := Bx.size; omega
  obtain ⟨g4, cap4, y, hrun, hown4, hgr4, hor, -⟩ := run_append_lies (P := Try.prog) x tG tG base tP i _ 1 8 Try.underlying66 hi hz hsz hby rfl (by omega) _ A.length _ rowx ⟨w1.heap.size, 0, none⟩ 1 1 [ptr a.gr] rfl (fun j u hj => by
    have hj0 : j = 0 := by have := (List.getElem?_eq_some_iff.1 hj).1; simpa using this
    subst hj0
    injection hj with hj
    rw [← hj, add_zero, ← hx]
    exact (cell_of_row _ _ _ _ _ _ (h1_0 w1 _)).trans rfl) (by simp [ptr, Value.oneCell']) (by omega) (by unfold maxLen; omega) (by omega) hbase _ rfl
  have hby2 : ∀ (k : Nat) (c : Array Value) (t : TypeId) (fr : Nat × Nat), x.heap[k]? = some (.cells c t fr) → t ≠ tP → y.heap[k]? = some (.cells c t fr) := fun k c t fr hk ht => (hgr4.block k (Array.getElem?_eq_some_iff.1 hk).1 (fun e => by
    obtain ⟨c2, hc2⟩ := own_ty rowx e.symm
    exact ty_ne hk hc2 ht rfl)).trans hk
  have hbY := hby2 b _ _ _ hbx (by decide)
  have g4b : b ≠ g4 := fun e => by
    obtain ⟨c, hc⟩ := own_ty hown4 (g := g4) rfl
    exact ty_ne hbY hc (by decide) e
  have HEND : Hid (PR w base b bc (A ++ [a]) (y.setCell ⟨b, 4, none⟩ (.slice (some ⟨g4, 0, none⟩) (A.length + 1) cap4))) := by
    have Kx : KT sH w1 x := KT.of Bx
    have Ky : KT sH x y := ⟨hgr4.os, hgr4.tape, hgr4.output, hgr4.size, fun k ob hk hn => (hgr4.block k (Array.getElem?_eq_some_iff.1 hk).1 (fun e => by
      obtain ⟨c2, hc2⟩ := own_ty rowx e.symm
      rw [hk] at hc2
      injection hc2 with hc2
      have := hn _ _ _ hc2
      revert this; decide)).trans hk⟩
    have By : Below base x y := (Below.refl base x).grown hgr4 hbase (fun j hj => (rowx.lt j hj).1)
    refine ⟨.slice (some ⟨g4, 0, none⟩) (A.length + 1) cap4, ⟨?_, ?_, ?_, fun j hj => ?_, ?_, h.low, fun c hc => ?_, ?_, ?_⟩, ((K1.trans Kx).trans Ky).trans (KT.set hbY (by decide) _), ((B1.trans (Bx.mono (by rw [hs1]; exact h.bas))).trans By).setCell h.low _⟩
    · exact setCell_heap hbY _ _
    · have := (Array.getElem?_eq_some_iff.1 h.at4).1
      simp [Array.getElem?_setIfInBounds, this]
    · rw [List.length_append, List.length_singleton, List.map_append]
      exact own_keep hown4 fun k hk => by
        have : g4 = k := by simpa [Value.ownBlock] using hk
        subst this
        exact setCell_ne (p := ⟨b, 4, none⟩) g4b _
    · have hjj : j < A.length + 1 := by simpa using hj
      by_cases e : j = A.length
      · subst e
        rw [List.getElem_append_right (Nat.le_refl _)]
        simp only [Nat.sub_self, List.getElem_singleton]
        rw [setCell_ne (p := ⟨b, 4, none⟩) nba]
        exact hby2 _ _ _ _ (kept Bx ha1) (by decide)
      · have hj3 : j < A.length := by omega
        rw [List.getElem_append_left hj3]
        have hr := h.recs j hj3
        have hr1 := (hot1 _ (hnew _ (List.getElem_mem hj3))).trans hr
        rw [setCell_ne (p := ⟨b, 4, none⟩) (fun e => ty_ne h.blk hr (by decide) e)]
        exact hby2 _ _ _ _ (kept Bx hr1) (by decide)
    · rw [List.pairwise_append]
      exact ⟨h.apart, List.pairwise_singleton _ _, fun x hx z hz => by rw [List.mem_singleton.1 hz]; exact hnew x hx⟩
    · rcases List.mem_append.1 hc with hc | hc
      · exact h.lowr c hc
      · rw [List.mem_singleton.1 hc]; exact hlo
    · rw [setCell_size]; have := hgr4.size; omega
    · rw [List.length_append, List.length_singleton]; omega
  have a4 : w.cell? ⟨a.gr, 4, none⟩ = some (.int .i64 p0) := by unfold rcs at ha; simp [World.cell?, ha]
  have fa4 : w.frozen? ⟨a.gr, 4, none⟩ = false := by simp [World.frozen?, ha]
  have b4 : w1.cell? ⟨b, 4, none⟩ = some (.slice o A.length cap) := by simp [World.cell?, hb1, h.at4]
  have y4 : y.cell? ⟨b, 4, none⟩ = some (.slice o A.length cap) := by simp [World.cell?, hbY, h.at4]
  have fy4 : y.frozen? ⟨b, 4, none⟩ = false := by simp [World.frozen?, hbY]
  unfold ptr at *
  generalize A.length = N at *
  generalize a.gr = gr at *
  have hta := ta w (.pointer (some ⟨gr, 0, none⟩))
  rw [hs1] at hrun
  clear h ha hnew hcap ha1 hot1 K1 B1 row1 hb1 Bx hbx rowx hi hz hsz hby hbase hown4 hgr4 hor hby2 hbY g4b nba f4
  go_enter Try.func84, Try.ntmps84
  go_wp2_with fail
  go_end0
  exact ⟨rfl, HEND.out⟩
end Go.Proofs.Ytmaikkhemhonhaa.Dm
