/- Fields by their numbers: the sort. -/
import Derived.Test.YtmnoplaepjaokaaGreatDoorZe
import Derived.Test.YtmnoplaepjaokaaGreatDoorSrt
import Derived.Test.YtmnoplaepjaokaaGreatDoorShelf
namespace Go.Proofs.YtmnoplaepjaokaaGreatDoor.Zf
set_option linter.unusedVariables false
set_option linter.unusedSimpArgs false
open Go.RowKit Go.Maps Go.Sort Lib0 Kb Xp Ic Ix If Ig Za Zb Zc Zd Ze
attribute [local go_sem] Oper.semAt_some
def encF (x : Fl) : List Value := [.int .i64 x.1, .string x.2, .slice none 0 0]
def cfF (x y : Fl) : Int := Lib.compareInt x.1 y.1
theorem grow_one (w : World) (o : Obj) : w.alloc o = grow w #[o] := alloc_eq_grow w o
set_option maxRecDepth 100000 in
theorem cmp_any (x y : Fl) (W : World) : Calls Tryz.prog 72 #[.agg (encF x).toArray, .agg (encF y).toArray] W fun e w' => e = .returned (.int .i64 (cfF x y)) ∧ ∃ q os', w' = grow (W.drewN q) os' := by
  obtain ⟨a0, a1⟩ := x
  obtain ⟨b0, b1⟩ := y
  have hc := fun W' => Tryz.cmp_Compare_int a0 b0 W'
  unfold cfF encF
  dsimp only
  generalize Lib.compareInt a0 b0 = k at *
  have x0 := h2_0 W (.cells #[.int .i64 a0, .string a1, .slice none 0 0] tF) (.cells #[.int .i64 b0, .string b1, .slice none 0 0] tF)
  have x1 := h2_1 W (.cells #[.int .i64 a0, .string a1, .slice none 0 0] tF) (.cells #[.int .i64 b0, .string b1, .slice none 0 0] tF)
  have r0 : ((W.alloc (.cells #[.int .i64 a0, .string a1, .slice none 0 0] tF)).alloc (.cells #[.int .i64 b0, .string b1, .slice none 0 0] tF)).cell? ⟨W.heap.size, 0, none⟩ = some (.int .i64 a0) := by simp [World.cell?, x0]
  have s0 : ((W.alloc (.cells #[.int .i64 a0, .string a1, .slice none 0 0] tF)).alloc (.cells #[.int .i64 b0, .string b1, .slice none 0 0] tF)).cell? ⟨W.heap.size + 1, 0, none⟩ = some (.int .i64 b0) := by
    rw [cell_of_row _ _ _ _ _ _ x1]; rfl
  clear x0 x1
  go_enter Tryz.func72, Tryz.ntmps72
  go_wp2_with fail
  refine (hc _).mono ?_
  rintro e z ⟨rfl, hz⟩
  rw [hz]
  clear hz z hc
  go_wp2_with fail
  go_ret
  refine ⟨rfl, 0, #[.cells #[.int .i64 a0, .string a1, .slice none 0 0] tF, .cells #[.int .i64 b0, .string b1, .slice none 0 0] tF], ?_⟩
  rw [grow_one, grow_one, grow_grow]
  rfl
theorem cf_lt (x y : Fl) : cfF x y < 0 ↔ x.1 < y.1 := by
  unfold cfF Lib.compareInt
  by_cases h1 : x.1 < y.1
  · simp [h1]
  · by_cases h2 : y.1 < x.1 <;> simp [h1, h2]
theorem lt_of (x y : Fl) : Go.Proofs.ltOf cfF x y = true ↔ x.1 < y.1 := by
  rw [Go.Proofs.ltOf, decide_eq_true_iff, cf_lt]
theorem lt_not (x y : Fl) : Go.Proofs.ltOf cfF x y = false ↔ ¬ x.1 < y.1 := by
  rw [← lt_of, Bool.not_eq_true]
theorem swoF : Go.Sort.SWO (Go.Proofs.ltOf cfF) where
  irrefl x := by rw [lt_not]; omega
  trans x y z h1 h2 := by rw [lt_of] at *; omega
  ntrans x y z h1 h2 := by rw [lt_not] at *; omega
instance : Inhabited Fl := ⟨(0, ⟨#[]⟩)⟩
theorem fc_pl (T : List Fl) (j : Nat) (h : j < T.length * 3) : (fc T)[j]? = some ((encF (T.toArray[j / 3]!))[j % 3]!) := by
  have hi : j / 3 < T.length := by omega
  obtain ⟨d0, d1, d2⟩ := fc_at T _ hi
  have e : T.toArray[j / 3]! = T[j / 3] := by rw [getElem!_pos _ _ (by simpa using hi)]; simp
  rw [e]
  have hm : j % 3 = 0 ∨ j % 3 = 1 ∨ j % 3 = 2 := by omega
  rcases hm with hm | hm | hm
  · rw [show j / 3 * 3 = j by omega] at d0; rw [hm, d0]; rfl
  · rw [show j / 3 * 3 + 1 = j by omega] at d1; rw [hm, d1]; rfl
  · rw [show j / 3 * 3 + 2 = j by omega] at d2; rw [hm, d2]; rfl
theorem flat_fc (T : List Fl) : (Go.Sort.flatK encF 3 T.toArray).toList = fc T := by
  apply List.ext_getElem?
  intro j
  by_cases h : j < T.length * 3
  · rw [fc_pl T j h]
    simp [Go.Sort.flatK, h]
  · rw [List.getElem?_eq_none (by rw [Array.length_toList, Go.Sort.size_flatK]; simp; omega), List.getElem?_eq_none (by rw [fc_len]; omega)]
theorem holds_row {w : World} {g : Nat} {cur : Array Value} {T : List Fl} (hg : w.heap[g]? = some (.cells cur tF (0, 0))) (ht : cur.toList.take (T.length * 3) = fc T) : Go.Sort.HoldsK encF 3 w g 0 T.toArray := by
  intro j hj
  rw [Go.Sort.size_flatK] at hj
  have hj2 : j < T.length * 3 := by simpa using hj
  refine ⟨?_, ?_⟩
  · rw [Nat.zero_add, cell_of_row w g j _ _ _ hg, Go.Sort.get_flatK _ _ _ _ hj]
    have h1 := fc_pl T j hj2
    rw [← ht, List.getElem?_take, if_pos hj2, Array.getElem?_toList] at h1
    exact h1
  · rw [Nat.zero_add]; exact frozen_of_row w g j _ _ hg
theorem sortW_heap {w : World} {g n : Nat} {cur : Array Value} {T T' : List Fl} {os : Array Obj} (hg : w.heap[g]? = some (.cells cur tF (0, 0))) (hl : T'.length = T.length) (hc : T.length * 3 ≤ cur.size) : ∃ cur', (Go.Proofs.sortWorldK encF 3 w g 0 n T'.toArray os).heap[g]? = some (.cells cur' tF (0, 0)) ∧ cur'.size = cur.size ∧ cur'.toList.take (T.length * 3) = fc T' := by
  have hlt := (Array.getElem?_eq_some_iff.1 hg).1
  refine ⟨Go.Sort.putCells id 0 (Go.Sort.flatK encF 3 T'.toArray) cur, ?_, by simp [Go.Sort.putCells], ?_⟩
  · show ((w.heap.modify g _) ++ os)[g]? = _
    rw [Array.getElem?_append_left (by simpa using hlt), Array.getElem?_modify, if_pos rfl, hg]
    rfl
  · rw [← flat_fc]
    apply List.ext_getElem?
    intro j
    by_cases h : j < T.length * 3
    · rw [List.getElem?_take, if_pos h, Array.getElem?_toList, Array.getElem?_toList]
      simp only [Go.Sort.putCells, Array.getElem?_mapIdx]
      have h2 : j < (Go.Sort.flatK encF 3 T'.toArray).size := by rw [Go.Sort.size_flatK]; simp; omega
      have h3 : j < cur.size := by omega
      rw [Array.getElem?_eq_getElem h3, Option.map_some, if_pos ⟨Nat.zero_le _, by omega⟩, Nat.sub_zero, getElem!_pos _ j h2, Array.getElem?_eq_getElem h2]
      rfl
    · rw [List.getElem?_eq_none (by rw [List.length_take]; omega), List.getElem?_eq_none (by rw [Array.length_toList, Go.Sort.size_flatK]; simp; omega)]
theorem sortW_fr {w : World} {g n : Nat} {d : Array Fl} {os : Array Obj} : FrP (fun k => k = g) w (Go.Proofs.sortWorldK encF 3 w g 0 n d os) := by
  refine ⟨rfl, rfl, rfl, ?_, fun b hb hn => ?_⟩
  · show w.heap.size ≤ ((w.heap.modify g _) ++ os).size
    simp
  · show ((w.heap.modify g _) ++ os)[b]? = _
    rw [Array.getElem?_append_left (by simpa using hb), Array.getElem?_modify, if_neg (fun e => hn e.symm)]
theorem isAggL (w : World) : (isAgg tF).run Tryz.prog w = .ok true w := by kernel_rfl
theorem sizeL (w : World) : (Go.sizeOf tF).run Tryz.prog w = .ok 3 w := by kernel_rfl
/-- slices.SortFunc as Restore calls it -/
theorem sort_any (w : World) (base : Nat) (v : Value) (T : List Fl) (h : w.ownsRow base tF 3 v T.length (fc T)) (hl : T.length ≤ 5864062014805) :
    Calls Tryz.prog 71 #[v, .func (.func 72) #[] #[]] w fun e w' => e = .returned (.tuple #[]) ∧ ∃ T' : List Fl, T'.Perm T ∧ (T'.Pairwise fun x y => x.1 ≤ y.1) ∧ w'.ownsRow base tF 3 v T'.length (fc T') ∧ FrP (fun k => v.ownBlock = some k) w w' := by
  rcases h.2 with ⟨rfl, h0⟩ | ⟨g, cap, cur, rfl, hbase, hg, hcap, hml, hcs, htk⟩
  · have e : T = [] := List.eq_nil_of_length_eq_zero h0
    subst e
    have hcon := Go.Proofs.AnyF.slices_SortFunc_none (P := Tryz.prog) (ρ := Tryz.sortL_ren) Tryz.sortL none 0 (.func (.func 72) #[] #[]) w
    change Calls Tryz.prog 71 _ _ _ at hcon
    refine hcon.mono ?_
    rintro e w' ⟨rfl, rfl⟩
    exact ⟨rfl, [], List.Perm.refl _, List.Pairwise.nil, World.ownsRow_nil _ _ _ _, FrP.refl _ _⟩
  · have hcon := Go.Proofs.AnyQ.slices_SortFunc (P := Tryz.prog) (ρ := Tryz.sortL_ren) Tryz.sortL 3 isAggL sizeL encF (fun _ => rfl) (fun x v hv => by simp [encF] at hv; rcases hv with rfl | rfl | rfl <;> rfl) cfF swoF 72 #[] g 0 cap T.toArray w (enters_of Tryz.func72 (by kernel_rfl) rfl) (fun m os dk _ x y => cmp_any x y _) (holds_row hg htk) (Array.getElem?_eq_some_iff.1 hg).1 (by simp; omega)
    change Calls Tryz.prog 71 _ _ _ at hcon
    rw [List.size_toArray] at hcon
    refine hcon.mono ?_
    rintro e w' ⟨rfl, d', n, os, hp, hs, rfl⟩
    obtain ⟨hp1, -, hp3⟩ := hp
    have hl2 : d'.toList.length = T.length := by rw [Array.length_toList, hp1]; simp
    have hd : d' = d'.toList.toArray := by simp
    obtain ⟨cur', a1, a2, a3⟩ := sortW_heap (n := n) (os := os) (T' := d'.toList) hg hl2 (by rw [hcs]; omega)
    rw [← hd] at a1
    refine ⟨rfl, d'.toList, ?_, ?_, ⟨by rw [fc_len], .inr ⟨g, cap, cur', by rw [hl2], hbase, a1, by omega, hml, by rw [a2, hcs], by rw [hl2]; exact a3⟩⟩, sortW_fr.mono (fun k e => by rw [e]; rfl)⟩
    · rw [show T.length = d'.size by rw [hp1]; simp] at hp3
      rw [Array.extract_size] at hp3
      rw [hp1, Array.extract_size] at hp3
      simpa using hp3
    · rw [List.pairwise_iff_getElem]
      intro i j hi hj hij
      have hi' : i < d'.size := by simpa using hi
      have hj' : j < d'.size := by simpa using hj
      have := hs i j (Nat.zero_le _) hij (by rw [hp1] at hj'; simpa using hj')
      rw [getElem!_pos d' j hj', getElem!_pos d' i hi', lt_not] at this
      have h2 : ¬ d'.toList[j].1 < d'.toList[i].1 := by simpa using this
      omega
end Go.Proofs.YtmnoplaepjaokaaGreatDoor.Zf
