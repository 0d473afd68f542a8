/- An Echo in memory; has, Len, Drop, NewEcho. -/
import Derived.Test.YtmnoplaepjaokaaGreatDoorZf
import Derived.Test.YtmnoplaepjaokaaGreatDoorYc
namespace Go.Proofs.YtmnoplaepjaokaaGreatDoor.Zg
set_option linter.unusedVariables false
set_option linter.unusedSimpArgs false
open Go.RowKit Go.Maps Lib0 Kb Xp Ic Ix If Ig Za Zb Zc Zd Ze Zf
abbrev tEc : TypeId := 95
abbrev tK : TypeId := 93
abbrev tSF : TypeId := 35
def heldE (v : Value) : Option (DataW Value × List MemPlace) := some (.held v, [])
theorem zeroS (w : World) : (zeroValue tSF).run Tryz.prog w = .ok (.slice none 0 0) w := by kernel_rfl
abbrev KF := Int → Option (List Fl)
def nof : KF := fun _ => none
def kput (k : KF) (n : Int) (l : Option (List Fl)) : KF := fun t => if t = n then l else k t
structure Em (w : World) (b mb : Nat) (z : List Int) (kf : KF) (sz c : Nat) (fv : Value) (D : DataW Value) : Prop where
  blk : w.heap[b]? = some (.cells #[fv, .map (some mb)] tEc)
  row : RowI w fv z
  io : Io z
  own : w.ownsMap Tryz.prog tI heldE mb c D
  tidy : Maps.Tidy D
  has : ∀ t : Int, Maps.has D (.int .i64 t) = (kf t).isSome
  at_ : ∀ (t : Int) (l : List Fl), kf t = some l → Fo l ∧ ∃ v, (∀ zd, D.atKey (.int .i64 t) zd = .held v) ∧ RowF w v l
  size : Maps.size D = sz
  cnt : c ≤ 1000
def Ec (w : World) (b mb : Nat) (z : List Int) (kf : KF) (sz c : Nat) : Prop := ∃ fv D, Em w b mb z kf sz c fv D
section
variable {w x : World} {b mb : Nat} {z : List Int} {kf : KF} {sz c : Nat} {fv : Value} {D : DataW Value}
theorem Em.lt (h : Em w b mb z kf sz c fv D) : b < w.heap.size ∧ mb < w.heap.size := by
  obtain ⟨es, cl, e, -⟩ := h.own
  exact ⟨(Array.getElem?_eq_some_iff.1 h.blk).1, (Array.getElem?_eq_some_iff.1 e).1⟩
theorem Em.ne (h : Em w b mb z kf sz c fv D) : b ≠ mb := fun e => by
  obtain ⟨es, cl, e2, -⟩ := h.own
  have := h.blk
  rw [e, e2] at this; cases this
theorem Em.below (h : Em w b mb z kf sz c fv D) (k : Below w.heap.size w x) : Em x b mb z kf sz c fv D := by
  obtain ⟨l1, l2⟩ := h.lt
  obtain ⟨es, cl, e, r⟩ := h.own
  exact ⟨(k.block _ l1).trans h.blk, rowi_below h.row k, h.io, ⟨es, cl, (k.block _ l2).trans e, r⟩, h.tidy, h.has, fun t l hl => by
    obtain ⟨f, v, hv, hr⟩ := h.at_ t l hl
    exact ⟨f, v, hv, rowf_below hr k⟩, h.size, h.cnt⟩
theorem Em.cells (h : Em w b mb z kf sz c fv D) : w.cell? ⟨b, 0, none⟩ = some fv ∧ w.cell? ⟨b, 1, none⟩ = some (.map (some mb)) := by
  have := h.blk
  exact ⟨by simp [World.cell?, this], by simp [World.cell?, this]⟩
/-- the map turned: all else is as it was -/
theorem turned_cell (ht : w.mapTurned x mb) {p : Addr} {u : Value} (hp : w.cell? p = some u) : x.cell? p = some u := by
  obtain ⟨es, cl, es', cl', e1, rfl⟩ := ht
  have hne : p.block ≠ mb := fun e => by
    rw [World.cell?, e, e1] at hp; cases hp
  have hg := World.mapTurned.grown (w := w) (b := mb) ⟨es, cl, es', cl', e1, rfl⟩
  have hb := hg.block p.block (World.block_lt_of_cell? w _ hp) (fun e => hne (by simpa using e))
  rw [World.cell?] at hp ⊢
  rw [hb]; exact hp
theorem turned_rowf (ht : w.mapTurned x mb) {v : Value} {L : List Fl} (h : RowF w v L) : RowF x v L := by
  obtain ⟨o, cap, e, hc⟩ := h
  refine ⟨o, cap, e, fun i hi => ?_⟩
  obtain ⟨a, ea, c0, c1, c2⟩ := hc i hi
  exact ⟨a, ea, turned_cell ht c0, turned_cell ht c1, turned_cell ht c2⟩
theorem turned_rowi (ht : w.mapTurned x mb) {v : Value} {L : List Int} (h : RowI w v L) : RowI x v L := by
  obtain ⟨o, cap, e, hc⟩ := h
  refine ⟨o, cap, e, fun i hi => ?_⟩
  obtain ⟨a, ea, c0⟩ := hc i hi
  exact ⟨a, ea, turned_cell ht c0⟩
theorem turned_fr (ht : w.mapTurned x mb) : FrP (fun g => g = mb) w x :=
  FrP.grown (FrP.refl _ w) (World.mapTurned.grown ht) (fun g hg => .inl (by simpa using hg.symm))
theorem Em.put (h : Em w b mb z kf sz c fv D) {n : Int} (hn : kf n = none) {v : Value} {l : List Fl} (hl : Fo l) (hv : RowF w v l) (hc : c < 1000) (ho : x.ownsMap Tryz.prog tI heldE mb (c + 1) (D.put (.int .i64 n) (.held v))) (ht : w.mapTurned x mb) : Em x b mb z (kput kf n (some l)) (sz + 1) (c + 1) fv (D.put (.int .i64 n) (.held v)) := by
  have hh : Maps.has D (.int .i64 n) = false := by rw [h.has, hn]; rfl
  refine ⟨((turned_fr ht).block _ h.lt.1 h.ne).trans h.blk, turned_rowi ht h.row, h.io, ho, h.tidy.put (isKey n) _, fun t => ?_, fun t l2 hl2 => ?_, ?_, hc⟩
  · unfold kput
    by_cases e : t = n
    · subst e; rw [if_pos rfl, Maps.has_put_same h.tidy.isMap (isKey _)]; rfl
    · rw [if_neg e, Maps.has_put_other (lit_ne e), h.has]
  · unfold kput at hl2
    by_cases e : t = n
    · subst e
      rw [if_pos rfl] at hl2
      cases hl2
      exact ⟨hl, v, fun zd => Maps.atKey_put_same h.tidy.isMap (isKey _) _ _, turned_rowf ht hv⟩
    · rw [if_neg e] at hl2
      obtain ⟨f, v2, hv2, hr⟩ := h.at_ t l2 hl2
      exact ⟨f, v2, fun zd => by rw [Maps.atKey_put_other (lit_ne e)]; exact hv2 zd, turned_rowf ht hr⟩
  · rw [Maps.size_put h.tidy, hh, h.size]; rfl
theorem Em.del (h : Em w b mb z kf sz c fv D) (n : Int) (ho : x.ownsMap Tryz.prog tI heldE mb c (D.del (.int .i64 n))) (ht : w.mapTurned x mb) : Em x b mb z (kput kf n none) (if (kf n).isSome then sz - 1 else sz) c fv (D.del (.int .i64 n)) := by
  refine ⟨((turned_fr ht).block _ h.lt.1 h.ne).trans h.blk, turned_rowi ht h.row, h.io, ho, h.tidy.del _, fun t => ?_, fun t l2 hl2 => ?_, ?_, h.cnt⟩
  · unfold kput
    by_cases e : t = n
    · subst e; rw [if_pos rfl, Maps.has_del_same]; rfl
    · rw [if_neg e, Maps.has_del_other (lit_ne e), h.has]
  · unfold kput at hl2
    by_cases e : t = n
    · subst e
      rw [if_pos rfl] at hl2
      cases hl2
    · rw [if_neg e] at hl2
      obtain ⟨f, v2, hv2, hr⟩ := h.at_ t l2 hl2
      exact ⟨f, v2, fun zd => by rw [Maps.atKey_del_other (lit_ne e)]; exact hv2 zd, turned_rowf ht hr⟩
  · have := Maps.size_del (k := .int .i64 n) h.tidy
    rw [h.has, h.size] at this
    cases hk : (kf n).isSome <;> rw [hk] at this <;> simp at this ⊢ <;> omega
end
set_option maxRecDepth 100000 in
theorem has_e {w : World} {b mb : Nat} {z : List Int} {kf : KF} {sz c : Nat} (h : Ec w b mb z kf sz c) (n : Int) (hn : -9223372036854775808 ≤ n ∧ n ≤ 9223372036854775807) : Calls Tryz.prog 65 #[.pointer (some ⟨b, 0, none⟩), .int .i64 n] w fun e w' => e = .returned (.bool (kf n).isSome) ∧ w' = w := by
  obtain ⟨fv, D, h⟩ := h
  have c1 := h.cells.2
  have hown := h.own
  have hkey := key_of n hn
  have hh := h.has n
  clear h hn
  generalize (kf n).isSome = r at *
  go_enter Tryz.func65, Tryz.ntmps65
  go_wp2_with (first | (at_lookup; refine wpList_lookup_own_ok _ rfl _ _ tK rfl tI tSF law Tryz.underlying93 heldE (zeroS _) (.held (.slice none 0 0)) [] rfl mb c D rfl hown _ _ rfl hkey ?_; rw [hh]; intro v ps hv; clear hv) | fail)
  go_ret
  exact ⟨rfl, rfl⟩
theorem len_e {w : World} {b mb : Nat} {z : List Int} {kf : KF} {sz c : Nat} (h : Ec w b mb z kf sz c) : Calls Tryz.prog 34 #[.pointer (some ⟨b, 0, none⟩)] w fun e w' => e = .returned (.int .i64 (sz : Int)) ∧ w' = w := by
  obtain ⟨fv, D, h⟩ := h
  have c1 := h.cells.2
  have hown := h.own
  have hs := h.size
  clear h
  go_enter Tryz.func34, Tryz.ntmps34
  go_wp2_with (first | (at_len; refine wpList_len_own _ rfl _ tK rfl tI tSF Tryz.underlying93 heldE mb c D rfl hown ?_; rw [hs]) | fail)
  go_ret
  exact ⟨rfl, rfl⟩
set_option maxRecDepth 100000 in
theorem drop_e {w : World} {b mb : Nat} {z : List Int} {kf : KF} {sz c : Nat} (h : Ec w b mb z kf sz c) (n : Int) (hn : -9223372036854775808 ≤ n ∧ n ≤ 9223372036854775807) : Calls Tryz.prog 37 #[.pointer (some ⟨b, 0, none⟩), .int .i64 n] w fun e w' => e = .returned (.bool (kf n).isSome) ∧ Ec w' b mb z (kput kf n none) (if (kf n).isSome then sz - 1 else sz) c ∧ FrP (fun g => g = mb) w w' := by
  have HH := has_e h n hn
  obtain ⟨fv, D, h⟩ := h
  have c1 := h.cells.2
  have hown := h.own
  have hkey := key_of n hn
  have HM : Hid (Em w b mb z kf sz c fv D) := h
  clear h hn
  obtain ⟨r, HR⟩ : ∃ r, Hid ((kf n).isSome = r) := ⟨_, rfl⟩
  obtain ⟨sz2, HS2⟩ : ∃ s, Hid ((if (kf n).isSome then sz - 1 else sz) = s) := ⟨_, rfl⟩
  rw [HS2.out]
  rw [HR.out] at HH
  rw [HR.out]
  go_enter Tryz.func37, Tryz.ntmps37
  go_wp2_with fail
  refine HH.mono ?_
  rintro e y ⟨rfl, hy⟩
  rw [hy]
  clear hy HH
  go_wp2_with (first | (at_delete; refine wpList_delete_own _ rfl _ _ tK tI rfl tSF law Tryz.underlying93 heldE mb c D rfl hown _ _ rfl hkey ?_; intro w1 hown1 hturn1; have HO : Hid (w1.ownsMap Tryz.prog tI heldE mb c (D.del (.int .i64 n))) := hown1; have HT : Hid (w.mapTurned w1 mb) := hturn1; clear hown1 hturn1) | fail)
  go_ret
  refine ⟨rfl, ⟨fv, D.del (.int .i64 n), ?_⟩, turned_fr HT.out⟩
  have := HM.out.del n HO.out HT.out
  rw [HS2.out] at this
  exact this
end Go.Proofs.YtmnoplaepjaokaaGreatDoor.Zg
