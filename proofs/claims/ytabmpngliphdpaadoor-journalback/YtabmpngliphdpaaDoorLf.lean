/- a row of entries of the call's own; a text, one byte of it turned; the law's facts. -/
import Derived.Test.YtabmpngliphdpaaDoorLd
namespace Go.Proofs.YtabmpngliphdpaaDoor.Lf
set_option linter.unusedVariables false
set_option linter.unusedSimpArgs false
open Go.RowKit Go.Shelf Go.Conc Lib0 Kb Ja Bj Jn Jx Kd Ke Kf Km Ko La Lb Lc Ld
theorem ecs_at : ∀ (L : List EV) (i j : Nat) (h : i < L.length) {u : Value}, (ecs L[i])[j]? = some u → (ecsL L)[i * 5 + j]? = some u
  | [], i, j, h, u, hu => by simp at h
  | x :: L, 0, j, h, u, hu => by
    have hj : j < (ecs x).length := (List.getElem?_eq_some_iff.1 hu).1
    unfold ecsL
    rw [List.flatMap_cons, Nat.zero_mul, Nat.zero_add, List.getElem?_append_left hj]
    exact hu
  | x :: L, i + 1, j, h, u, hu => by
    have h5 : (ecs x).length = 5 := rfl
    unfold ecsL
    rw [List.flatMap_cons, List.getElem?_append_right (by rw [h5]; omega), h5, show (i + 1) * 5 + j - 5 = i * 5 + j by omega]
    exact ecs_at L i j (by simpa using h) hu
theorem rowe_own {w : World} {base : Nat} {v : Value} {Es : List EV} (h : w.ownsRow base tEn 5 v Es.length (ecsL Es)) (hr : ∀ e ∈ Es, RowO w e.2 e.1.L) : RowE w v Es := by
  rcases h.2 with ⟨rfl, h0⟩ | ⟨g, cap, cur, rfl, _, hg, hn, _, hs, ht⟩
  · exact ⟨none, 0, by rw [h0], fun i hi => by omega⟩
  · refine ⟨_, cap, rfl, fun i hi => ⟨⟨_, rfl, fun j u hu => ?_⟩, hr _ (List.getElem_mem hi)⟩⟩
    have h1 := ecs_at Es i j hi hu
    rw [addr_add, addr0]
    unfold World.cell?
    show (match w.heap[g]? with | some (.cells c _ _) => c[i * 5 + j]? | _ => none) = some u
    rw [hg]
    show cur[i * 5 + j]? = some u
    rw [← ht, List.getElem?_take] at h1
    split at h1
    · rw [← h1]; simp
    · cases h1
theorem kept_mem {Es : List EV} {e : EV} (h : e ∈ kept40 Es) : e ∈ Es ∧ sm e.1 = true := by
  unfold kept40 at h
  rw [List.mem_filter] at h
  exact ⟨List.mem_of_mem_take h.1, h.2⟩
theorem kept_len (Es : List EV) : (kept40 Es).length ≤ 40 := by
  unfold kept40
  have h1 := List.length_filter_le (fun e : EV => sm e.1) (Es.take 40)
  rw [List.length_take] at h1
  omega
theorem isAgg_u8 (y : World) : (isAgg 5).run Tryd.prog y = .ok false y := by simp [isAgg, Tryd.underlying5, go_sem]
theorem ext_take (s : ByteArray) (c : Nat) : (s.extract 0 c).data.toList = s.data.toList.take c := by simp
theorem empty_iff (s : ByteArray) : s.size = 0 → s = ⟨#[]⟩ := fun h => by
  have h1 : s.data.size = 0 := h
  obtain ⟨d⟩ := s
  have : d = #[] := Array.eq_empty_of_size_eq_zero h1
  rw [this]
theorem back (y : World) (g a C : Nat) (l : List UInt8) (d : UInt8) (r : Array Value) (fr : Nat × Nat) (hg : y.heap[g]? = some (.cells r 5 fr)) (hr : ∀ j (h : j < l.length), r[j]? = some (.int .u8 (l[j].toNat : Int))) (ha : a < l.length) :
    (convert 75 9 (.slice (some ⟨g, 0, none⟩) l.length C)).run Tryd.prog (y.setCell ⟨g, a, none⟩ (.int .u8 (d.toNat : Int))) = .ok (.string ⟨(l.set a d).toArray⟩) (y.setCell ⟨g, a, none⟩ (.int .u8 (d.toNat : Int))) := by
  have h1 := Jg.setCell_heap hg a (.int .u8 (d.toNat : Int))
  have h2 := run_convert_bytes_back (P := Tryd.prog) (y.setCell ⟨g, a, none⟩ (.int .u8 (d.toNat : Int))) 75 9 5 ⟨g, 0, none⟩ C (l.set a d) Tryd.underlying75 Tryd.underlying5 Tryd.underlying9 (fun j hj => by
    rw [List.length_set] at hj
    rw [addr0]
    unfold World.cell?
    show (match (y.setCell ⟨g, a, none⟩ (.int .u8 (d.toNat : Int))).heap[g]? with | some (.cells c _ _) => c[j]? | _ => none) = _
    rw [h1]
    have h3 := hr j hj
    have h4 := (Array.getElem?_eq_some_iff.1 h3).1
    show (r.setIfInBounds a (.int .u8 (d.toNat : Int)))[j]? = _
    rw [Array.getElem?_setIfInBounds, List.getElem_set]
    by_cases e : a = j
    · subst e; simp [h4]
    · rw [if_neg e, if_neg e]; exact h3)
  rwa [List.length_set] at h2
/-- a text's bytes in new memory -/
theorem fresh (w : World) (s : ByteArray) : ∃ C y r fr, (convert 9 75 (.string s)).run Tryd.prog w = .ok (.slice (some ⟨w.heap.size, 0, none⟩) s.size C) y ∧ s.size ≤ C ∧ Below w.heap.size w y ∧ y.heap.size = w.heap.size + 1 ∧ y.heap[w.heap.size]? = some (.cells r 5 fr) ∧ (∀ j (h : j < s.data.toList.length), r[j]? = some (.int .u8 (s.data.toList[j].toNat : Int))) ∧ ∀ j, j < s.size → y.frozen? ⟨w.heap.size, j, none⟩ = false := by
  refine ⟨_, _, _, _, run_bytes_of_string w 9 75 5 s Tryd.underlying9 Tryd.underlying75 Tryd.underlying5, grownCap_ge _ _ _ _, (Below.refl _ _).drew.alloc (by simp) _, by simp, h1_0 w.drew _, ?_, ?_⟩
  · generalize grownCap w s.size 0 5 = C
    intro j hj
    have hjs : j < s.data.size := by simpa using hj
    have hj2 : j < s.size := hjs
    simp [bytesRow, Array.getElem?_append]
    rw [if_pos hj2, Array.getElem?_eq_getElem hjs]
    rfl
  · have hC := grownCap_ge w s.size 0 5
    generalize grownCap w s.size 0 5 = C at hC ⊢
    intro j hj
    have h := h1_0 w.drew (.cells (bytesRow s C) 5 ((bytesRow s C).size, (bytesRow s C).size + 1))
    rw [show w.drew.heap.size = w.heap.size from rfl] at h
    have hs : (bytesRow s C).size = s.size + (C - s.size) := by unfold bytesRow; rw [Array.size_append, Array.size_map, Array.size_replicate]; rfl
    unfold World.frozen?
    show (match (w.drew.alloc (.cells (bytesRow s C) 5 ((bytesRow s C).size, (bytesRow s C).size + 1))).heap[w.heap.size]? with | some (.cells _ _ (a, b)) => _ | _ => false) = false
    rw [h]
    simp
    omega
/-- a byte turned: what comes of it is another -/
theorem turned (x r : Nat) (hx : x < 256) (hr : r < 255) : ∃ d : UInt8, ((x : Int) + 1 + (r : Int)) % 256 = (d.toNat : Int) ∧ d.toNat ≠ x := by
  refine ⟨UInt8.ofNat ((x + 1 + r) % 256), ?_, ?_⟩
  · have h1 : (UInt8.ofNat ((x + 1 + r) % 256)).toNat = (x + 1 + r) % 256 := by simp
    rw [h1]
    omega
  · have h1 : (UInt8.ofNat ((x + 1 + r) % 256)).toNat = (x + 1 + r) % 256 := by simp
    rw [h1]; omega
end Go.Proofs.YtabmpngliphdpaaDoor.Lf
