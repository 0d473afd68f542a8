import Derived.Test.YtmnoplaepjaokaaGreatDoorQs25
import Derived.Test.YtmnoplaepjaokaaGreatDoorQs12
/- An Echo in memory; has, Len, Drop, NewEcho. -/
namespace Go.Proofs.YtmnoplaepjaokaaGreatDoor.Zg
set_option linter.unusedVariables false
set_option linter.unusedSimpArgs false
open Go.RowKit Go.Maps Lib0 Kb Xp Ic Ix If Ig Za Zb Zc Zd Ze Zf
abbrev tEc : TypeId := 95
abbrev tK : TypeId := 93
abbrev tSF : TypeId := 35
def heldE (v : Value) : Option (DataW Value × List MemPlace) := some (.held v, [])
theorem zeroS (w : World) : (zeroValue tSF).run Tryz.prog w = .ok (.slice none 0 0) w := by kernel_rfl
abbrev KF := Int → Option (List Fl)
def nof : KF := fun _ => none
def kput (k : KF) (n : Int) (l : Option (List Fl)) : KF := fun t => if t = n then l else k t
structure Em (w : World) (b mb : Nat) (z : List Int) (kf : KF) (sz c : Nat) (fv : Value) (D : DataW Value) : Prop where
  blk : w.heap[b]? = some (.cells #[fv, .map (some mb)] tEc)
  row : RowI w fv z
  io : Io z
  own : w.ownsMap Tryz.prog tI heldE mb c D
  tidy : Maps.Tidy D
  has : ∀ t : Int, Maps.has D (.int .i64 t) = (kf t).isSome
  at_ : ∀ (t : Int) (l : List Fl), kf t = some l → Fo l ∧ ∃ v, (∀ zd, D.atKey (.int .i64 t) zd = .held v) ∧ RowF w v l
  size : Maps.size D = sz
  cnt : c ≤ 1000
def Ec (w : World) (b mb : Nat) (z : List Int) (kf : KF) (sz c : Nat) : Prop := ∃ fv D, Em w b mb z kf sz c fv D
section
variable {w x : World} {b mb : Nat} {z : List Int} {kf : KF} {sz c : Nat} {fv : Value} {D : DataW Value}
theorem Em.lt (h : Em w b mb z kf sz c fv D) : b < w.heap.size ∧ mb < w.heap.size := by
  obtain ⟨es, cl, e, -⟩ := h.own
  exact ⟨(Array.getElem?_eq_some_iff.1 h.blk).1, (Array.getElem?_eq_some_iff.1 e).1⟩
theorem Em.ne (h : Em w b mb z kf sz c fv D) : b ≠ mb := fun e => by
  obtain ⟨es, cl, e2, -⟩ := h.own
  have := h.blk
  rw [e, e2] at this; cases this
theorem Em.below (h : Em w b mb z kf sz c fv D) (k : Below w.heap.size w x) : Em x b mb z kf sz c fv D := by
  obtain ⟨l1, l2⟩ := h.lt
  obtain ⟨es, cl, e, r⟩ := h.own
  exact ⟨(k.block _ l1).trans h.blk, rowi_below h.row k, h.io, ⟨es, cl, (k.block _ l2).trans e, r⟩, h.tidy, h.has, fun t l hl => by
    obtain ⟨f, v, hv, hr⟩ := h.at_ t l hl
    exact ⟨f, v, hv, rowf_below hr k⟩, h.size, h.cnt⟩
theorem Em.cells (h : Em w b mb z kf sz c fv D) : w.cell? ⟨b, 0, none⟩ = some fv ∧ w.cell? ⟨b, 1, none⟩ = some (.map (some mb)) := by
  have := h.blk
  exact ⟨by simp [World.cell?, this], by simp [World.cell?, this]⟩
/-- the map turned: all else is as it was -/
theorem turned_cell (ht : w.mapTurned x mb) {p : Addr} {u : Value} (hp : w.cell? p = some u) : x.cell? p = some u := by
  obtain ⟨es, cl, es', cl', e1, rfl⟩ := ht
  have hne : p.block ≠ mb := fun e => by
    rw [World.cell?, e, e1] at hp; cases hp
  have hg := World.mapTurned.grown (w := w) (b := mb) ⟨es, cl, es', cl', e1, rfl⟩
  have hb := hg.block p.block (World.block_lt_of_cell? w _ hp) (fun e => hne (by simpa using e))
  rw [World.cell?] at hp ⊢
  rw [hb]; exact hp
theorem turned_rowf (ht : w.mapTurned x mb) {v : Value} {L : List Fl} (h : RowF w v L) : RowF x v L := by
  obtain ⟨o, cap, e, hc⟩ := h
  refine ⟨o, cap, e, fun i hi => ?_⟩
  obtain ⟨a, ea, c0, c1, c2⟩ := hc i hi
  exact ⟨a, ea, turned_cell ht c0, turned_cell ht c1, turned_cell ht c2⟩
theorem turned_rowi (ht : w.mapTurned x mb) {v : Value} {L : List Int} (h : RowI w v L) : RowI x v L := by
  obtain ⟨o, cap, e, hc⟩ := h
  refine ⟨o, cap, e, fun i hi => ?_⟩
  obtain ⟨a, ea, c0⟩ := hc i hi
  exact ⟨a, ea, turned_cell ht c0⟩
theorem turned_fr (ht : w.mapTurned x mb) : FrP (fun g => g = mb) w x :=
  FrP.grown (FrP.refl _ w) (World.mapTurned.grown ht) (fun g hg => .inl (by simpa using hg.symm))
theorem Em.put (h : Em w b mb z kf sz c fv D) {n : Int} (hn : kf n = none) {v : Value} {l : List Fl} (hl : Fo l) (hv : RowF w v l) (hc : c < 1000) (ho : x.ownsMap Tryz.prog tI heldE mb (c + 1) (D.put (.int .i64 n) (.held v))) (ht : w.mapTurned x mb) : Em x b mb z (kput kf n (some l)) (sz + 1) (c + 1) fv (D.put (.int .i64 n) (.held v)) := by
  have hh : Maps.has D (.int .i64 n) = false := by rw [h.has, hn]; rfl
  refine ⟨((turned_fr ht).block _ h.lt.1 h.ne).trans h.blk, turned_rowi ht h.row, h.io, ho, h.tidy.put (isKey n) _, fun t => ?_, fun t l2 hl2 => ?_, ?_, hc⟩
  · unfold kput
    by_cases e : t = n
    · subst e; rw [if_pos rfl, Maps.has_put_same h.tidy.isMap (isKey _)]; rfl
    · rw [if_neg e, Maps.has_put_other (lit_ne e), h.has]
  · unfold kput at hl2
    by_cases e : t = n
    · subst e
      rw [if_pos rfl] at hl2
      cases hl2
      exact ⟨hl, v, fun zd => Maps.atKey_put_same h.tidy.isMap (isKey _) _ _, turned_rowf ht hv⟩
    · rw [if_neg e] at hl2
      obtain ⟨f, v2, hv2, hr⟩ := h.at_ t l2 hl2
      exact ⟨f, v2, fun zd => by rw [Maps.atKey_put_other (lit_ne e)]; exact hv2 zd, turned_rowf ht hr⟩
  · rw [Maps.size_put h.tidy, hh, h.size]; rfl
theorem Em.del (h : Em w b mb z kf sz c fv D) (n : Int) (ho : x.ownsMap Tryz.prog tI heldE mb c (D.del (.int .i64 n))) (ht : w.mapTurned x mb) : Em x b mb z (kput kf n none) (if (kf n).isSome then sz - 1 else sz) c fv (D.del (.int .i64 n)) := by
  refine ⟨((turned_fr ht).block _ h.lt.1 h.ne).trans h.blk, turned_rowi ht h.row, h.io, ho, h.tidy.del _, fun t => ?_, fun t l2 hl2 => ?_, ?_, h.cnt⟩
  · unfold kput
    by_cases e : t = n
    · subst e; rw [if_pos rfl, Maps.has_del_same]; rfl
    · rw [if_neg e, Maps.has_del_other (lit_ne e), h.has]
  · unfold kput at hl2
    by_cases e : t = n
    · subst e
      rw [if_pos rfl] at hl2
      cases hl2
    · rw [if_neg e] at hl2
      obtain ⟨f, v2, hv2, hr⟩ := h.at_ t l2 hl2
      exact ⟨f, v2, fun zd => by rw [Maps.atKey_del_other (lit_ne e)]; exact hv2 zd, turned_rowf ht hr⟩
  · have := Maps.size_del (k := .int .i64 n) h.tidy
    rw [h.has, h.size] at this
    cases hk : (kf n).isSome <;> rw [hk] at this <;> simp at this ⊢ <;> omega
end
set_option maxRecDepth 100000 in
theorem has_e {w : World} {b mb : Nat} {z : List Int} {kf : KF} {sz c : Nat} (h : Ec w b mb z kf sz c) (n : Int) (hn : -9223372036854775808 ≤ n ∧ n ≤ 9223372036854775807) : Calls Tryz.prog 65 #[.pointer (some ⟨b, 0, none⟩), .int .i64 n] w fun e w' => e = .returned (.bool (kf n).isSome) ∧ w' = w := by
  obtain ⟨fv, D, h⟩ := h
  have c1 := h.cells.2
  have hown := h.own
  have hkey := key_of n hn
  have hh := h.has n
  clear h hn
  generalize (kf n).isSome = r at *
  go_enter Tryz.func65, Tryz.ntmps65
  go_wp2_with (first | (at_lookup; refine wpList_lookup_own_ok _ rfl _ _ tK rfl tI tSF law Tryz.underlying93 heldE (zeroS _) (.held (.slice none 0 0)) [] rfl mb c D rfl hown _ _ rfl hkey ?_; rw [hh]; intro v ps hv; clear hv) | fail)
  go_ret
  exact ⟨rfl, rfl⟩
theorem len_e {w : World} {b mb : Nat} {z : List Int} {kf : KF} {sz c : Nat} (h : Ec w b mb z kf sz c) : Calls Tryz.prog 34 #[.pointer (some ⟨b, 0, none⟩)] w fun e w' => e = .returned (.int .i64 (sz : Int)) ∧ w' = w := by
  obtain ⟨fv, D, h⟩ := h
  have c1 := h.cells.2
  have hown := h.own
  have hs := h.size
  clear h
  go_enter Tryz.func34, Tryz.ntmps34
  go_wp2_with (first | (at_len; refine wpList_len_own _ rfl _ tK rfl tI tSF Tryz.underlying93 heldE mb c D rfl hown ?_; rw [hs]) | fail)
  go_ret
  exact ⟨rfl, rfl⟩
set_option maxRecDepth 100000 in
theorem drop_e {w : World} {b mb : Nat} {z : List Int} {kf : KF} {sz c : Nat} (h : Ec w b mb z kf sz c) (n : Int) (hn : -9223372036854775808 ≤ n ∧ n ≤ 9223372036854775807) : Calls Tryz.prog 37 #[.pointer (some ⟨b, 0, none⟩), .int .i64 n] w fun e w' => e = .returned (.bool (kf n).isSome) ∧ Ec w' b mb z (kput kf n none) (if (kf n).isSome then sz - 1 else sz) c ∧ FrP (fun g => g = mb) w w' := by
  have HH := has_e h n hn
  obtain ⟨fv, D, h⟩ := h
  have c1 := h.cells.2
  have hown := h.own
  have hkey := key_of n hn
  have HM : Hid (Em w b mb z kf sz c fv D) := h
  clear h hn
  obtain ⟨r, HR⟩ : ∃ r, Hid ((kf n).isSome = r) := ⟨_, rfl⟩
  obtain ⟨sz2, HS2⟩ : ∃ s, Hid ((if (kf n).isSome then sz - 1 else sz) = s) := ⟨_, rfl⟩
  rw [HS2.out]
  rw [HR.out] at HH
  rw [HR.out]
  go_enter Tryz.func37, Tryz.ntmps37
  go_wp2_with fail
  refine HH.mono ?_
  rintro e y ⟨rfl, hy⟩
  rw [hy]
  clear hy HH
  go_wp2_with (first | (at_delete; refine wpList_delete_own _ rfl _ _ tK tI rfl tSF law Tryz.underlying93 heldE mb c D rfl hown _ _ rfl hkey ?_; intro w1 hown1 hturn1; have HO : Hid (w1.ownsMap Tryz.prog tI heldE mb c (D.del (.int .i64 n))) := hown1; have HT : Hid (w.mapTurned w1 mb) := hturn1; clear hown1 hturn1) | fail)
  go_ret
  refine ⟨rfl, ⟨fv, D.del (.int .i64 n), ?_⟩, turned_fr HT.out⟩
  have := HM.out.del n HO.out HT.out
  rw [HS2.out] at this
  exact this
end Go.Proofs.YtmnoplaepjaokaaGreatDoor.Zg
/- NewEcho, Save: the good ways. -/
namespace Go.Proofs.YtmnoplaepjaokaaGreatDoor.Zh
set_option linter.unusedVariables false
set_option linter.unusedSimpArgs false
open Go.RowKit Go.Maps Lib0 Kb Xp Ic Ix If Ig Za Zb Zc Zd Ze Zf Zg
def isF (n : Int) : Bool := decide (2 ≤ n) && decide (n ≤ 128) && !(n == 65)
theorem isField_ok (n : Int) (h : isF n = true) (w : World) : Calls Tryz.prog 84 #[.int .i64 n] w fun e w' => e = .returned (.bool true) ∧ w' = w := by
  simp [isF] at h
  obtain ⟨⟨h1, h2⟩, h3⟩ := h
  have h4 : (n != 65) = true := by simpa using h3
  clear h3
  go_enter Tryz.func84, Tryz.ntmps84
  go_wp2
  go_ret
  exact ⟨rfl, rfl⟩
/-- fields, none twice -/
structure Gd (z : List Int) : Prop where
  pos : 0 < z.length
  len : z.length ≤ 100000
  fld : ∀ x ∈ z, isF x = true
  one : ∀ i (h : i < z.length), (z.take i).contains z[i] = false
theorem Gd.io {z : List Int} (h : Gd z) : Io z := ⟨h.len, fun x hx => by have := h.fld x hx; simp [isF] at this; omega⟩
set_option maxRecDepth 100000 in
set_option maxHeartbeats 1600000 in
theorem areFields_ok (g cap : Nat) (z : List Int) (w : World) (hz : Gd z) (hcap : z.length ≤ cap) (hc : ∀ j, j < z.length → w.cell? ⟨g, 0 + j, none⟩ = some (.int .i64 (z.getD j 0))) : Calls Tryz.prog 49 #[.slice (some ⟨g, 0, none⟩) z.length cap] w fun e w' => e = .returned (.bool true) ∧ w' = w := by
  obtain ⟨N, HN⟩ : ∃ N, Hid (z.length = N) := ⟨_, rfl⟩
  have HZ : Hid (Gd z) := hz
  have HNB : Hid (N ≤ 100000) := HN.out ▸ hz.len
  have HCP : Hid (N ≤ cap) := HN.out ▸ hcap
  have HC : Hid (∀ j, j < z.length → w.cell? ⟨g, 0 + j, none⟩ = some (.int .i64 (z.getD j 0))) := hc
  rw [HN.out]
  clear hz hc hcap
  go_enter Tryz.func49, Tryz.ntmps49
  go_wp2_with fail
  go_loopw [7] (fun iv wr => ∃ i : Nat, iv = .int .i64 (i : Int) ∧ i ≤ N ∧ wr = w) (fun iv _ => N + 1 - (intOf iv).toNat)
  case atStart => exact ⟨0, rfl, Nat.zero_le _, rfl⟩
  case round =>
    obtain ⟨i, rfl, hi, rfl⟩ := hrel
    have q1 : (0 : Int) ≤ (i : Int) := by omega
    by_cases hlt : i < N
    · have hi2 : i < z.length := by rw [HN.out]; exact hlt
      have q0 : (i : Int) < (N : Int) := by omega
      have q3 : (i : Int) + 1 ≤ 9223372036854775807 := by have := HNB.out; omega
      have c0 : wr.cell? ⟨g, i, none⟩ = some (.int .i64 z[i]) := by
        have := HC.out i hi2
        rw [Nat.zero_add] at this
        rw [this]; simp [List.getD, hi2]
      have hf := HZ.out.fld _ (List.getElem_mem hi2)
      have ho := HZ.out.one i hi2
      have HCO : Hid (Calls Tryz.prog 85 #[.slice (some ⟨g, 0, none⟩) i cap, .int .i64 z[i]] wr fun e w' => e = .returned (.bool false) ∧ w' = wr) := by
        have := Tryz.slices_Contains_int g 0 i cap z z[i] wr (by omega) (by have := HNB.out; omega) HC.out
        rw [ho] at this
        exact this
      generalize z[i]'hi2 = n at *
      have HIF : Hid (∀ y, Calls Tryz.prog 84 #[.int .i64 n] y fun e w' => e = .returned (.bool true) ∧ w' = y) := fun y => isField_ok n hf y
      have q4 : (i : Int) ≤ (cap : Int) := by have := HCP.out; omega
      have q5 : i ≤ cap := by have := HCP.out; omega
      have HIN : Hid (i < N) := hlt
      clear hi hlt hi2 hf ho
      go_wp2_with fail
      refine (HIF.out _).mono ?_
      rintro e y ⟨rfl, hy⟩
      rw [hy]
      clear hy y
      go_wp2_with fail
      refine HCO.out.mono ?_
      rintro e y ⟨rfl, hy⟩
      rw [hy]
      clear hy y
      go_wp2_with fail
      have := HIN.out
      refine ⟨⟨i + 1, by simp, by omega, trivial⟩, ?_⟩
      simp only [intOf]
      omega
    · obtain rfl : i = N := by omega
      have q0 : ¬ (i : Int) < (i : Int) := by omega
      clear hi hlt
      go_wp2_with fail
      go_ret
      exact ⟨rfl, rfl⟩
theorem rowi_own {w : World} {base : Nat} {v : Value} {z : List Int} (h : w.ownsRow base tI 1 v z.length (z.map (Value.int .i64))) : RowI w v z := by
  rcases h.2 with ⟨rfl, h0⟩ | ⟨g, cap, cur, rfl, r⟩
  · have e : z = [] := List.eq_nil_of_length_eq_zero h0
    subst e
    exact ⟨none, 0, rfl, fun i hi => by simp at hi⟩
  · refine ⟨some ⟨g, 0, none⟩, cap, rfl, fun i hi => ⟨⟨g, 0, none⟩, rfl, h.cells (g := g) rfl _ _ (by simp [hi])⟩⟩
set_option maxRecDepth 100000 in
theorem newEcho_ok (g cap : Nat) (z : List Int) (w : World) (hz : Gd z) (hcap : z.length ≤ cap) (hc : ∀ j, j < z.length → w.cell? ⟨g, 0 + j, none⟩ = some (.int .i64 (z.getD j 0))) : Calls Tryz.prog 19 #[.slice (some ⟨g, 0, none⟩) z.length cap] w fun e w' => ∃ b mb, e = .returned (.tuple #[.pointer (some ⟨b, 0, none⟩), .int .i64 0]) ∧ Ec w' b mb z nof 0 0 ∧ Below w.heap.size w w' ∧ w.heap.size ≤ b ∧ w.heap.size ≤ mb := by
  have HA := areFields_ok g cap z w hz hcap hc
  have HCL := Tryz.slices_Clone_int g 0 z.length cap z w (Nat.le_refl _) (by have := hz.len; omega) hc
  rw [List.take_of_length_le (Nat.le_refl _)] at HCL
  obtain ⟨N, HN⟩ : ∃ N, Hid (z.length = N) := ⟨_, rfl⟩
  have HZ : Hid (Gd z) := hz
  rw [HN.out] at HA HCL ⊢
  have hmm := @run_makeMap Tryz.prog
  have q : ¬ (N : Int) = 0 := by have := HZ.out.pos; have := HN.out; omega
  have q2 : ((N : Int) == 0) = false := by simpa using q
  clear hz hc hcap q
  go_enter Tryz.func19, Tryz.ntmps19
  go_wp2_with fail
  refine HA.mono ?_
  rintro e y ⟨rfl, hy⟩
  rw [hy]
  clear hy HA
  go_wp2_with fail
  refine HCL.mono ?_
  rintro e y ⟨v', rfl, hr, -, hb⟩
  have HR : Hid (y.ownsRow w.heap.size tI 1 v' N (z.map (Value.int .i64))) := hr
  have HB : Hid (Below w.heap.size w y) := hb
  clear hr hb HCL
  obtain ⟨o2, c2, hv, -⟩ := own_form HR.out
  subst hv
  go_wp2_with fail
  go_ret2
  have hb2 : Below w.heap.size w ((y.alloc (.map #[] 0)).alloc (.cells #[.slice o2 N c2, .map (some y.heap.size)] tEc)) := keepB HB.out (below_two y _ _)
  refine ⟨y.heap.size + 1, y.heap.size, rfl, ⟨.slice o2 N c2, .map [], ⟨h2_1 _ _ _, ?_, HZ.out.io, ?_, Maps.tidy_empty, fun t => rfl, fun t l hl => (by cases hl), rfl, Nat.zero_le _⟩⟩, hb2, ?_, ?_⟩
  · refine rowi_below (rowi_own (base := w.heap.size) ?_) (below_two y _ _)
    rw [HN.out]; exact HR.out
  · have := World.ownsMap_made (H := Value) y Tryz.prog tI heldE
    exact this.alloc _
  · have := HB.out.size; omega
  · exact HB.out.size
end Go.Proofs.YtmnoplaepjaokaaGreatDoor.Zh
