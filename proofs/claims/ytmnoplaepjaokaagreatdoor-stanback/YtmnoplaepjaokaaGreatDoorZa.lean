/- Fields without kids: rows of them; soundFields. -/
import Derived.Test.YtmnoplaepjaokaaGreatDoorIg
import Derived.Test.YtmnoplaepjaokaaGreatDoorXp
import Derived.Test.YtmnoplaepjaokaaGreatDoorQc
import Derived.BigQuiet
namespace Go.Proofs.YtmnoplaepjaokaaGreatDoor.Za
set_option linter.unusedVariables false
set_option linter.unusedSimpArgs false
open Go.RowKit Lib0 Kb Xp Ic Ix If Ig
abbrev tF : TypeId := 81
abbrev Fl := Int × ByteArray
def fv (x : Fl) : Value := .agg #[.int .i64 x.1, .string x.2, .slice none 0 0]
def fc (L : List Fl) : List Value := L.flatMap fun x => [.int .i64 x.1, .string x.2, .slice none 0 0]
theorem fc_cons (x : Fl) (L : List Fl) : fc (x :: L) = .int .i64 x.1 :: .string x.2 :: .slice none 0 0 :: fc L := by simp [fc]
theorem fc_len : ∀ L : List Fl, (fc L).length = L.length * 3
  | [] => rfl
  | x :: L => by
    have := fc_len L
    rw [fc_cons]
    simp only [List.length_cons, this]
    omega
theorem fc_append (L M : List Fl) : fc (L ++ M) = fc L ++ fc M := by simp [fc]
theorem fc_at : ∀ (L : List Fl) (i : Nat) (h : i < L.length), (fc L)[i * 3]? = some (.int .i64 L[i].1) ∧ (fc L)[i * 3 + 1]? = some (.string L[i].2) ∧ (fc L)[i * 3 + 2]? = some (.slice none 0 0)
  | [], i, h => by simp at h
  | x :: L, 0, h => by simp [fc]
  | x :: L, i + 1, h => by
    have := fc_at L i (by simpa using h)
    rw [fc_cons, show (i + 1) * 3 = i * 3 + 1 + 1 + 1 by omega, show i * 3 + 1 + 1 + 1 + 1 = (i * 3 + 1) + 1 + 1 + 1 by omega, show i * 3 + 1 + 1 + 1 + 2 = (i * 3 + 2) + 1 + 1 + 1 by omega]
    simpa using this
theorem fc_one (L : List Fl) : ∀ u ∈ fc L, u.oneCell' = true := by
  intro u hu
  simp only [fc, List.mem_flatMap] at hu
  obtain ⟨x, hx, hu⟩ := hu
  simp at hu
  rcases hu with rfl | rfl | rfl <;> simp [Value.oneCell']
/-- a row of fields that can be read -/
def RowF (w : World) (v : Value) (L : List Fl) : Prop :=
  ∃ (o : Option Addr) (cap : Nat), v = .slice o L.length cap ∧ ∀ i (h : i < L.length), ∃ a : Addr, o = some a ∧ w.cell? (a.add (i * 3)) = some (.int .i64 L[i].1) ∧ w.cell? ⟨(a.add (i * 3)).block, (a.add (i * 3)).off + 1, none⟩ = some (.string L[i].2) ∧ w.cell? ⟨(a.add (i * 3)).block, (a.add (i * 3)).off + 2, none⟩ = some (.slice none 0 0)
theorem rowf_own {w : World} {base : Nat} {t : TypeId} {v : Value} {L : List Fl} (h : w.ownsRow base t 3 v L.length (fc L)) : RowF w v L := by
  rcases h.2 with ⟨rfl, h0⟩ | ⟨g, cap, cur, rfl, r⟩
  · have e : L = [] := List.eq_nil_of_length_eq_zero h0
    subst e
    exact ⟨none, 0, rfl, fun i hi => by simp at hi⟩
  · refine ⟨some ⟨g, 0, none⟩, cap, rfl, fun i hi => ⟨⟨g, 0, none⟩, rfl, h.cells (g := g) rfl _ _ (fc_at L i hi).1, ?_, ?_⟩⟩
    · have := h.cells (g := g) rfl _ _ (fc_at L i hi).2.1
      rwa [add_field _ _ _ (by decide)] at this
    · have := h.cells (g := g) rfl _ _ (fc_at L i hi).2.2
      rwa [add_field _ _ _ (by decide)] at this
theorem rowf_below {w x : World} {v : Value} {L : List Fl} (h : RowF w v L) (k : Below w.heap.size w x) : RowF x v L := by
  obtain ⟨o, cap, e, hc⟩ := h
  refine ⟨o, cap, e, fun i hi => ?_⟩
  obtain ⟨a, ea, c0, c1, c2⟩ := hc i hi
  have kk : ∀ p u, w.cell? p = some u → x.cell? p = some u := fun p u hp => (k.cell (World.block_lt_of_cell? w _ hp)).trans hp
  exact ⟨a, ea, kk _ _ c0, kk _ _ c1, kk _ _ c2⟩
theorem rowf_nil (w : World) : RowF w (.slice none 0 0) [] := ⟨none, 0, rfl, fun i hi => by simp at hi⟩
/-- fields that may be: numbers and texts of a machine -/
structure Fo (L : List Fl) : Prop where
  len : L.length ≤ 100000
  num : ∀ x ∈ L, -9223372036854775808 ≤ x.1 ∧ x.1 ≤ 9223372036854775807
  str : ∀ x ∈ L, x.2.size ≤ 1000000
def snF : Int → List Fl → Bool
  | _, [] => true
  | last, x :: L => decide (last < x.1) && fldT x.1 && snF x.1 L
/-- the last number ahead of place i -/
def lst (L : List Fl) (i : Nat) : Int := if h : 0 < i ∧ i ≤ L.length then (L[i - 1]'(by omega)).1 else 0
theorem lst_next (L : List Fl) (i : Nat) (h : i < L.length) : lst L (i + 1) = L[i].1 := by
  rw [lst, dif_pos ⟨by omega, by omega⟩]; simp
theorem snF_drop (L : List Fl) (last : Int) (i : Nat) (h : i < L.length) : snF last (L.drop i) = (decide (last < L[i].1) && fldT L[i].1 && snF L[i].1 (L.drop (i + 1))) := by
  rw [List.drop_eq_getElem_cons h]; rfl
set_option maxRecDepth 100000 in
set_option maxHeartbeats 1600000 in
theorem soundFields_flat (v : Value) (L : List Fl) (w : World) (h : RowF w v L) (hL : Fo L) : Calls Tryz.prog 96 #[v] w fun e w' => e = .returned (.bool (snF 0 L)) ∧ Below w.heap.size w w' := by
  obtain ⟨o, cap, rfl, hc⟩ := h
  obtain ⟨N, HN⟩ : ∃ N, Hid (L.length = N) := ⟨_, rfl⟩
  have HC : Hid (∀ y, Below w.heap.size w y → ∀ i (h : i < L.length), ∃ a : Addr, o = some a ∧ y.cell? (a.add (i * 3)) = some (.int .i64 L[i].1) ∧ y.cell? ⟨(a.add (i * 3)).block, (a.add (i * 3)).off + 1, none⟩ = some (.string L[i].2) ∧ y.cell? ⟨(a.add (i * 3)).block, (a.add (i * 3)).off + 2, none⟩ = some (.slice none 0 0)) := fun y hy i hi => by
    obtain ⟨a, ea, c0, c1, c2⟩ := hc i hi
    have kk : ∀ p u, w.cell? p = some u → y.cell? p = some u := fun p u hp => (hy.cell (World.block_lt_of_cell? w _ hp)).trans hp
    exact ⟨a, ea, kk _ _ c0, kk _ _ c1, kk _ _ c2⟩
  have HL : Hid (Fo L) := hL
  have HNB : Hid (N ≤ 100000) := HN.out ▸ hL.len
  rw [HN.out]
  obtain ⟨R, HR⟩ : ∃ R, Hid (snF 0 L = R) := ⟨_, rfl⟩
  rw [HR.out]
  clear hc hL
  go_enter Tryz.func96, Tryz.ntmps96
  go_wp2_with fail
  go_loopw [3, 8] (fun lv iv wr => ∃ i : Nat, iv = .int .i64 (i : Int) ∧ i ≤ N ∧ lv = .int .i64 (lst L i) ∧ Hid (snF (lst L i) (L.drop i) = R) ∧ Hid (Below w.heap.size w wr)) (fun _ iv _ => N + 1 - (intOf iv).toNat)
  case atStart => exact ⟨0, rfl, Nat.zero_le _, by rw [lst, dif_neg (by omega)], by show _ = _; rw [lst, dif_neg (by omega)]; exact HR.out, Below.refl _ _⟩
  case round =>
    obtain ⟨i, rfl, hi, rfl, HS, HB⟩ := hrel
    have q1 : (0 : Int) ≤ (i : Int) := by omega
    by_cases hlt : i < N
    · have hi2 : i < L.length := by rw [HN.out]; exact hlt
      obtain ⟨a, rfl, c0, c1, c2⟩ := HC.out wr HB.out i hi2
      have q0 : (i : Int) < (N : Int) := by omega
      have q3 : (i : Int) + 1 ≤ 9223372036854775807 := by have := HNB.out; omega
      have hnum := HL.out.num _ (List.getElem_mem hi2)
      have hstr := HL.out.str _ (List.getElem_mem hi2)
      have hsn := snF_drop L (lst L i) i hi2
      have hnx := lst_next L i hi2
      have HS2 := HS.out
      rw [hsn] at HS2
      generalize L[i]'hi2 = x at *
      obtain ⟨n, s⟩ := x
      dsimp only at c0 c1 c2 hnum hstr HS2 hnx
      have HSF : Hid (∀ y, Calls Tryz.prog 120 #[.agg #[.int .i64 n, .string s, .slice none 0 0]] y fun e w' => e = .returned (.bool (fldT n)) ∧ Below y.heap.size y w') := fun y => soundField_leaf n hnum s (Nat.le_trans hstr (by decide)) y
      obtain ⟨d0, d1, d2⟩ := box_kept (Below.refl (wr.alloc (Obj.cells #[.int .i64 n, .string s, .slice none 0 0] tF)).heap.size (wr.alloc (Obj.cells #[.int .i64 n, .string s, .slice none 0 0] tF)))
      have HB2 : Hid (Below w.heap.size w (wr.alloc (Obj.cells #[.int .i64 n, .string s, .slice none 0 0] tF))) := HB.out.alloc HB.out.size _
      have HX : Hid (∀ x, Below (wr.alloc (Obj.cells #[.int .i64 n, .string s, .slice none 0 0] tF)).heap.size (wr.alloc (Obj.cells #[.int .i64 n, .string s, .slice none 0 0] tF)) x → x.cell? ⟨wr.heap.size, 0, none⟩ = some (.int .i64 n)) := fun x hx => (box_kept hx).1
      have HIN : Hid (i < N) := hlt
      have HNX : Hid (lst L (i + 1) = n) := hnx
      clear hi hlt hi2 hsn hnx hnum hstr HS
      generalize lst L i = la at *
      by_cases hle : n ≤ la
      · have HR0 : Hid (R = false) := by
          show R = false
          rw [← HS2, show decide (la < n) = false by simp; omega]; rfl
        clear HS2
        go_wp2_with fail
        go_ret
        exact ⟨by rw [HR0.out]; rfl, HB2.out⟩
      · have hlt2 : la < n := by omega
        rw [show decide (la < n) = true by simpa using hlt2, Bool.true_and] at HS2
        go_wp2_with fail
        refine (HSF.out _).mono ?_
        rintro e y ⟨rfl, hy⟩
        have d0' := HX.out y hy
        have HBY : Hid (Below w.heap.size w y) := HB2.out.trans (hy.mono HB2.out.size)
        clear hy
        cases hf : fldT n with
        | false =>
          rw [hf, Bool.false_and] at HS2
          have HR0 : Hid (R = false) := HS2.symm
          clear HS2
          go_wp2_with fail
          go_ret
          exact ⟨by rw [HR0.out]; rfl, HBY.out⟩
        | true =>
          rw [hf, Bool.true_and] at HS2
          have HS3 : Hid (snF n (L.drop (i + 1)) = R) := HS2
          clear HS2
          go_wp2_with fail
          have := HIN.out
          refine ⟨⟨i + 1, by simp, by omega, by rw [HNX.out], by rw [HNX.out]; exact HS3, HBY⟩, ?_⟩
          simp only [intOf]
          omega
    · obtain rfl : i = N := by omega
      have HR0 : Hid (R = true) := by
        show R = true
        rw [← HS.out, List.drop_eq_nil_of_le (by rw [HN.out]; exact Nat.le_refl _)]; rfl
      have q0 : ¬ (i : Int) < (i : Int) := by omega
      clear HS hi hlt
      go_wp2_with fail
      go_ret
      exact ⟨by rw [HR0.out]; rfl, HB.out⟩
end Go.Proofs.YtmnoplaepjaokaaGreatDoor.Za
