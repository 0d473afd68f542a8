/- What is laid down, in order: the sort. -/
import Derived.Test.YtgchdjjafgkcbaaVb
namespace Go.Proofs.Ytgchdjjafgkcbaa.Vc
set_option linter.unusedVariables false
set_option linter.unusedSimpArgs false
open Go.RowKit Go.Maps Lib0 Kb Xp Ih Dh Eh Fh Gh Hh Kh Jh Mh Th Ch Va Vb
attribute [local go_sem] Oper.semAt_some
def Lt3 (x y : T3) : Prop := x.2.1 < y.2.1 ∨ (x.2.1 = y.2.1 ∧ x.1 < y.1)
theorem cf3_lt (x y : T3) : cf3 x y < 0 ↔ Lt3 x y := by
  unfold cf3 Lib.compareInt Lt3
  by_cases h1 : x.2.1 < y.2.1
  · simp [h1]
  · by_cases h2 : y.2.1 < x.2.1
    · simp [h1, h2]; omega
    · by_cases h3 : x.1 < y.1
      · simp [h1, h2, h3]; omega
      · by_cases h4 : y.1 < x.1 <;> simp [h1, h2, h3, h4]
theorem lt_of (x y : T3) : Go.Proofs.ltOf cf3 x y = true ↔ Lt3 x y := by
  rw [Go.Proofs.ltOf, decide_eq_true_iff, cf3_lt]
theorem lt_not (x y : T3) : Go.Proofs.ltOf cf3 x y = false ↔ ¬ Lt3 x y := by
  rw [← lt_of, Bool.not_eq_true]
theorem swo3 : Go.Sort.SWO (Go.Proofs.ltOf cf3) where
  irrefl x := by rw [lt_not]; unfold Lt3; omega
  trans x y z h1 h2 := by rw [lt_of] at *; unfold Lt3 at *; omega
  ntrans x y z h1 h2 := by rw [lt_not] at *; unfold Lt3 at *; omega
theorem gc_emb (T : List T3) (j : Nat) (h : j < T.length * 3) : (gc (T.map emb))[j]? = some ((enc3 (T.toArray[j / 3]!))[j % 3]!) := by
  have hi : j / 3 < T.length := by omega
  have hi2 : j / 3 < (T.map emb).length := by rw [List.length_map]; exact hi
  obtain ⟨d0, d1, d2⟩ := gc_at (T.map emb) _ hi2
  rw [List.getElem_map] at d0 d1 d2
  have e : T.toArray[j / 3]! = T[j / 3] := by rw [getElem!_pos _ _ (by simpa using hi)]; simp
  rw [e]
  have hm : j % 3 = 0 ∨ j % 3 = 1 ∨ j % 3 = 2 := by omega
  rcases hm with hm | hm | hm
  · rw [show j / 3 * 3 = j by omega] at d0; rw [hm, d0]; rfl
  · rw [show j / 3 * 3 + 1 = j by omega] at d1; rw [hm, d1]; rfl
  · rw [show j / 3 * 3 + 2 = j by omega] at d2; rw [hm, d2]; rfl
theorem flat_emb (T : List T3) : (Go.Sort.flatK enc3 3 T.toArray).toList = gc (T.map emb) := by
  apply List.ext_getElem?
  intro j
  by_cases h : j < T.length * 3
  · rw [gc_emb T j h]
    simp [Go.Sort.flatK, h]
  · rw [List.getElem?_eq_none (by rw [Array.length_toList, Go.Sort.size_flatK]; simp; omega), List.getElem?_eq_none (by rw [gc_len, List.length_map]; omega)]
theorem holds_row {w : World} {g : Nat} {cur : Array Value} {T : List T3} (hg : w.heap[g]? = some (.cells cur tL (0, 0))) (ht : cur.toList.take (T.length * 3) = gc (T.map emb)) : Go.Sort.HoldsK enc3 3 w g 0 T.toArray := by
  intro j hj
  rw [Go.Sort.size_flatK] at hj
  have hj2 : j < T.length * 3 := by simpa using hj
  refine ⟨?_, ?_⟩
  · rw [Nat.zero_add, cell_of_row w g j _ _ _ hg, Go.Sort.get_flatK _ _ _ _ hj]
    have h1 := gc_emb T j hj2
    rw [← ht, List.getElem?_take, if_pos hj2, Array.getElem?_toList] at h1
    exact h1
  · rw [Nat.zero_add]; exact frozen_of_row w g j _ _ hg
theorem sortW_heap {w : World} {g n : Nat} {cur : Array Value} {T T' : List T3} {os : Array Obj} (hg : w.heap[g]? = some (.cells cur tL (0, 0))) (hl : T'.length = T.length) (hc : T.length * 3 ≤ cur.size) : ∃ cur', (Go.Proofs.sortWorldK enc3 3 w g 0 n T'.toArray os).heap[g]? = some (.cells cur' tL (0, 0)) ∧ cur'.size = cur.size ∧ cur'.toList.take (T.length * 3) = gc (T'.map emb) := by
  have hlt := (Array.getElem?_eq_some_iff.1 hg).1
  refine ⟨Go.Sort.putCells id 0 (Go.Sort.flatK enc3 3 T'.toArray) cur, ?_, by simp [Go.Sort.putCells], ?_⟩
  · show ((w.heap.modify g _) ++ os)[g]? = _
    rw [Array.getElem?_append_left (by simpa using hlt), Array.getElem?_modify, if_pos rfl, hg]
    rfl
  · rw [← flat_emb]
    apply List.ext_getElem?
    intro j
    by_cases h : j < T.length * 3
    · rw [List.getElem?_take, if_pos h, Array.getElem?_toList, Array.getElem?_toList]
      simp only [Go.Sort.putCells, Array.getElem?_mapIdx]
      have h2 : j < (Go.Sort.flatK enc3 3 T'.toArray).size := by rw [Go.Sort.size_flatK]; simp; omega
      have h3 : j < cur.size := by omega
      rw [Array.getElem?_eq_getElem h3, Option.map_some, if_pos ⟨Nat.zero_le _, by omega⟩, Nat.sub_zero, getElem!_pos _ j h2, Array.getElem?_eq_getElem h2]
      rfl
    · rw [List.getElem?_eq_none (by rw [List.length_take]; omega), List.getElem?_eq_none (by rw [Array.length_toList, Go.Sort.size_flatK]; simp; omega)]
theorem sortW_fr {w : World} {g n : Nat} {d : Array T3} {os : Array Obj} : FrP (fun k => k = g) w (Go.Proofs.sortWorldK enc3 3 w g 0 n d os) := by
  refine ⟨rfl, rfl, rfl, ?_, fun b hb hn => ?_⟩
  · show w.heap.size ≤ ((w.heap.modify g _) ++ os).size
    simp
  · show ((w.heap.modify g _) ++ os)[b]? = _
    rw [Array.getElem?_append_left (by simpa using hb), Array.getElem?_modify, if_neg (fun e => hn e.symm)]
theorem isAggL (w : World) : (isAgg tL).run Try.prog w = .ok true w := by kernel_rfl
theorem sizeL (w : World) : (Go.sizeOf tL).run Try.prog w = .ok 3 w := by kernel_rfl
/-- slices.SortFunc as inOrder calls it -/
theorem sort_any (w : World) (base : Nat) (v : Value) (T : List T3) (h : w.ownsRow base tL 3 v T.length (gc (T.map emb))) (hl : T.length ≤ 5864062014805) :
    Calls Try.prog 50 #[v, .func (.func 51) #[] #[]] w fun e w' => e = .returned (.tuple #[]) ∧ ∃ T' : List T3, T'.Perm T ∧ (T'.Pairwise fun x y => ¬ Lt3 y x) ∧ w'.ownsRow base tL 3 v T'.length (gc (T'.map emb)) ∧ FrP (fun k => v.ownBlock = some k) w w' := by
  rcases h.2 with ⟨rfl, h0⟩ | ⟨g, cap, cur, rfl, hbase, hg, hcap, hml, hcs, htk⟩
  · have e : T = [] := List.eq_nil_of_length_eq_zero h0
    subst e
    have hcon := Go.Proofs.AnyF.slices_SortFunc_none (P := Try.prog) (ρ := Try.sortL_ren) Try.sortL none 0 (.func (.func 51) #[] #[]) w
    change Calls Try.prog 50 _ _ _ at hcon
    refine hcon.mono ?_
    rintro e w' ⟨rfl, rfl⟩
    exact ⟨rfl, [], List.Perm.refl _, List.Pairwise.nil, World.ownsRow_nil _ _ _ _, FrP.refl _ _⟩
  · have hcon := Go.Proofs.AnyQ.slices_SortFunc (P := Try.prog) (ρ := Try.sortL_ren) Try.sortL 3 isAggL sizeL enc3 (fun _ => rfl) (fun x v hv => by simp [enc3] at hv; rcases hv with rfl | rfl | rfl <;> rfl) cf3 swo3 51 #[] g 0 cap T.toArray w (enters_of Try.func51 (by kernel_rfl) rfl) (fun m os dk _ x y => cmp_any x y _) (holds_row hg htk) (Array.getElem?_eq_some_iff.1 hg).1 (by simp; omega)
    change Calls Try.prog 50 _ _ _ at hcon
    rw [List.size_toArray] at hcon
    refine hcon.mono ?_
    rintro e w' ⟨rfl, d', n, os, hp, hs, rfl⟩
    obtain ⟨hp1, -, hp3⟩ := hp
    have hl2 : d'.toList.length = T.length := by rw [Array.length_toList, hp1]; simp
    have hd : d' = d'.toList.toArray := by simp
    obtain ⟨cur', a1, a2, a3⟩ := sortW_heap (n := n) (os := os) (T' := d'.toList) hg hl2 (by rw [hcs]; omega)
    rw [← hd] at a1
    refine ⟨rfl, d'.toList, ?_, ?_, ⟨by rw [gc_len, List.length_map], .inr ⟨g, cap, cur', by rw [hl2], hbase, a1, by omega, hml, by rw [a2, hcs], by rw [hl2]; exact a3⟩⟩, sortW_fr.mono (fun k e => by rw [e]; rfl)⟩
    · rw [show T.length = d'.size by rw [hp1]; simp] at hp3
      rw [Array.extract_size] at hp3
      rw [hp1, Array.extract_size] at hp3
      simpa using hp3
    · rw [List.pairwise_iff_getElem]
      intro i j hi hj hij
      have hi' : i < d'.size := by simpa using hi
      have hj' : j < d'.size := by simpa using hj
      have := hs i j (Nat.zero_le _) hij (by rw [hp1] at hj'; simpa using hj')
      rw [getElem!_pos d' j hj', getElem!_pos d' i hi', lt_not] at this
      simpa using this
end Go.Proofs.Ytgchdjjafgkcbaa.Vc
