/- Undo where nothing is found, and where the card's last approval goes. -/
import Derived.Test.YtmaikkhemhonhaaEf
namespace Go.Proofs.Ytmaikkhemhonhaa.Fa
set_option linter.unusedVariables false
set_option linter.unusedSimpArgs false
open Go.RowKit Go.Maps Lib0 Kb Xp Da Db Dc Dd De Df Dh Di Dj Dk Dl Dm Dn Dp Dq Dr Ds Dt Du Dv Dw Dy Dz Ea Eb Ec Ed Ee Ef
attribute [local go_sem] Oper.semAt_some
theorem look_zero {w : World} {base : Nat} {a : Rc} {pl : Int} (h : RM w base a pl) : (Instr.lookup tM (.map (some a.gm)) (.int .i64 0) false).run Try.prog w = .ok (.pointer none) w := by
  obtain ⟨v, ps, hrun, hv⟩ := h.2.own.lookup law Try.underlying88 (zeroP w) (zd := .held (.pointer none)) (zp := []) rfl (key_of 0 ⟨by omega, by omega⟩)
  have hh : Maps.has a.D (.int .i64 0) = false := by
    cases h2 : Maps.has a.D (.int .i64 0) with
    | false => rfl
    | true =>
      have h3 := congrArg (fun l : Lit => match l with | .int _ n => n | _ => 0) ((h.2.one.has _).1 h2)
      exact absurd h3.symm h.2.opn
  rw [Maps.atKey_of_not_has hh] at hv
  have : v = .pointer none := by
    cases v <;> simp [heldP] at hv ⊢
    exact hv.1
  rw [this] at hrun
  exact hrun
/-- none is meant -/
def Non (L : List Ap) (u t : Int) : Prop := ∀ x ∈ L, ¬ mt u t x
theorem fnd_none {L : List Ap} {u t r : Int} (h : Non L u t) (hf : Fnd L u t r) : r < 0 := by
  rcases hf with ⟨hr, -⟩ | ⟨q, hq, rfl, hm, -⟩
  · omega
  · exact absurd hm (h _ (List.getElem_mem hq))
theorem takeOutR_no {w : World} {base : Nat} {a : Rc} {pl : Int} (h : RM w base a pl) (u t : Int) (hn : Non a.L u t) : Calls Try.prog 29 #[.pointer (some ⟨a.gr, 0, none⟩), .int .i64 u, .int .i64 t] w fun e w' => e = .returned (.bool false) ∧ Below w.heap.size w w' := by
  have HFR : Hid (Calls Try.prog 42 #[.pointer (some ⟨a.gr, 0, none⟩), .int .i64 u, .int .i64 t] w fun e w' => e = .returned (.int .i64 0) ∧ Below w.heap.size w w') := by
    refine (findR_any h u t).mono ?_
    rintro e y ⟨⟨r, hr, rfl⟩, hy⟩
    have := fnd_none hn hr
    rw [if_neg (by omega)]
    exact ⟨rfl, hy⟩
  have HFS : Hid (∀ y, Below w.heap.size w y → (Instr.lookup tM (.map (some a.gm)) (.int .i64 0) false).run Try.prog y = .ok (.pointer none) y ∧ y.cell? ⟨a.gr, 1, none⟩ = some (.map (some a.gm))) := fun y hy => ⟨look_zero (h.below hy), (h.below hy).cells.2.1⟩
  clear h hn
  go_enter Try.func29, Try.ntmps29
  go_wp2_with fail
  refine HFR.out.mono ?_
  rintro e y ⟨rfl, hy⟩
  obtain ⟨hlk, c1⟩ := HFS.out y hy
  have HY : Hid (Below w.heap.size w y) := hy
  clear hy
  go_wp2_with fail
  go_ret
  exact ⟨rfl, HY.out⟩
theorem undo_no {w : World} {base b : Nat} {S : St} {m : Nat} (h : Bk w base b S m) (c : ByteArray) (hc : c.size ≤ 1000000) (u t : Int) (hn : Non (lc S.G c) u t) : Calls Try.prog 17 #[.pointer (some ⟨b, 0, none⟩), .string c, .int .i64 u, .int .i64 t] w fun e w' => e = .returned (.bool false) ∧ Below w.heap.size w w' := by
  obtain ⟨cm, cn, D, av, A, h1, h2g, h3, h4, h5⟩ := h
  have hcm : c.size ≤ maxLen := by unfold maxLen; omega
  obtain ⟨-, -, -, c3, -⟩ := h1.cells
  by_cases hex : ∃ a ∈ A, a.card = c
  · obtain ⟨a, ha, hac⟩ := hex
    obtain ⟨i, hi, rfl⟩ := List.getElem_of_mem ha
    have hL : A[i].L = lc S.G c := by rw [h2g.eq _ ha, hac]
    have hlk := look_rec h1.cards h1.mp ha (by rw [hac]; exact hcm)
    rw [hac] at hlk
    unfold ptr at hlk
    have HTK : Hid (Calls Try.prog 29 #[.pointer (some ⟨A[i].gr, 0, none⟩), .int .i64 u, .int .i64 t] w fun e w' => e = .returned (.bool false) ∧ Below w.heap.size w w') := takeOutR_no (h1.rm hi) u t (by rw [hL]; exact hn)
    generalize A[i].gr = GR at *
    clear h1 h2g h3 h4 h5 hn ha hac hL hcm hc
    go_enter Try.func17, Try.ntmps17
    go_wp2_with fail
    refine HTK.out.mono ?_
    rintro e y ⟨rfl, HS⟩
    have HS2 : Hid (Below w.heap.size w y) := HS
    clear HS
    go_wp2_with fail
    go_ret
    exact ⟨rfl, HS2.out⟩
  · have hlk := look_no h1.cards h1.mp (c := c) (fun a ha e => hex ⟨a, ha, e⟩) hcm
    clear h1 h2g h3 h4 h5 hn hcm hc hex
    go_enter Try.func17, Try.ntmps17
    go_wp2_with fail
    go_ret
    exact ⟨rfl, Below.refl _ _⟩
set_option maxRecDepth 100000 in
set_option maxHeartbeats 3200000 in
theorem newest_none {w : World} {GR GM NM : Nat} {D : DataW Value} (c1 : w.cell? ⟨GR, 1, none⟩ = some (.map (some GM))) (hown : w.ownsMap Try.prog tI heldP GM NM D) (h0 : ∀ l, Maps.has D l = false) : Calls Try.prog 45 #[.pointer (some ⟨GR, 0, none⟩)] w fun e w' => e = .returned (.int .i64 0) ∧ Below w.heap.size w w' := by
  have hbl := hown.lt
  have HZ : Hid (∀ l, Maps.has D l = false) := h0
  clear h0
  go_enter Try.func45, Try.ntmps45
  go_wp2_with (first
    | (at_range; refine wpList_range_own _ rfl _ tM rfl tI tPS law Try.underlying88 _ GM NM _ rfl hown ?_; intro w0 hrg0 hg0 hs0)
    | fail)
  go_frame
  go_loopw [3, 5] (fun fv _ wr => ∃ (left : Lit → Bool) (cnt : Nat), Hid (wr.ranges Try.prog tI heldP GM w.heap.size NM D left cnt) ∧ Hid (Below w.heap.size w wr) ∧ fv = .int .i64 0 ∧ Hid (∀ l, left l = false))
    (fun _ _ wr => wr.rangeLeft GM w.heap.size)
  case atStart =>
    exact ⟨_, _, hrg0, (Below.refl _ _).grown hg0 (Nat.le_refl _) (fun j hj => by cases hj), rfl, HZ.out⟩
  case round =>
    obtain ⟨left, cnt, HRG, HB, rfl, HROW⟩ := hrel
    have hrg := HRG.out
    go_wp2_with (first
        | (at_next; refine wpList_next_ranges _ rfl _ rfl tI law heldP (Value.int .i64) Value.pointer (fun key kl hk => by obtain ⟨x, hx, _⟩ := Maps.keyOf_int_inv Try.underlying3 hk; exact ⟨x, hx⟩) heldP_inv GM w.heap.size NM _ _ _ rfl hrg ?_ ?_)
        | fail)
    · intro hc0 hl0
      clear hrg hc0 hl0
      go_wp2_with fail
      go_ret
      exact ⟨rfl, HB.out⟩
    · intro x c kl yd yp w2 cnt2 hkey hlk hv hat hrg2 hlt hg2 hs2 hen
      have := HROW.out kl
      rw [hlk] at this
      cases this
/-- behind the last approval of a record: its cells, its map, what stays -/
def PostZ (w : World) (a : Rc) (pl : Int) (y : World) : Prop := y.heap[a.gr]? = some (.cells (rcs { a with L := [] } pl) tR (0, 0)) ∧ (∃ n D, y.ownsMap Try.prog tI heldP a.gm n D ∧ Maps.size D = 0) ∧ FrP (fun b => OwnR a b ∨ b = a.gm) w y
set_option maxRecDepth 100000 in
set_option maxHeartbeats 3200000 in
theorem takeOutR_last {w : World} {base : Nat} {a : Rc} {pl : Int} (h : RM w base a pl) (hbase : base ≤ w.heap.size) (u t : Int) (hp : Fst a.L u t 0) (h1 : a.L.length = 1) : Calls Try.prog 29 #[.pointer (some ⟨a.gr, 0, none⟩), .int .i64 u, .int .i64 t] w fun e w' => e = .returned (.bool true) ∧ PostZ w a pl w' := by
  have hle : a.L.eraseIdx 0 = [] := by
    apply List.eq_nil_of_length_eq_zero
    rw [List.length_eraseIdx, if_pos (by omega)]; omega
  have HFR : Hid (Calls Try.prog 42 #[.pointer (some ⟨a.gr, 0, none⟩), .int .i64 u, .int .i64 t] w fun e w' => e = .returned (.int .i64 a.op) ∧ Below w.heap.size w w') := by
    refine (findR_any h u t).mono ?_
    rintro e y ⟨⟨r, hr, rfl⟩, hy⟩
    have := fnd_uniq hp hr
    rw [if_pos (by omega)]
    exact ⟨rfl, hy⟩
  have HFS : Hid (∀ y, Below w.heap.size w y → (Instr.lookup tM (.map (some a.gm)) (.int .i64 a.op) false).run Try.prog y = .ok (.pointer (some ⟨a.gs, 0, none⟩)) y ∧ y.cell? ⟨a.gr, 1, none⟩ = some (.map (some a.gm)) ∧ Hid (Calls Try.prog 44 #[.pointer (some ⟨a.gs, 0, none⟩), .int .i64 u, .int .i64 t] y fun e w' => e = .returned (.int .i64 0) ∧ Below y.heap.size y w')) := fun y hy => by
    refine ⟨look_at (h.below hy), (h.below hy).cells.2.1, (findS_any (h.below hy).2.sh u t h.2.up (by omega)).mono ?_⟩
    rintro e z ⟨⟨r, rfl, hr⟩, hz⟩
    rw [fnd_uniq hp hr]
    exact ⟨rfl, hz⟩
  have HTK : Hid (∀ y, Below w.heap.size w y → Calls Try.prog 43 #[.pointer (some ⟨a.gs, 0, none⟩), .int .i64 0] y fun e w' => e = .returned (.tuple #[]) ∧ ∃ o cap w5, w'.cell? ⟨a.gs, 0, none⟩ = some (.slice o 0 cap) ∧ w'.cell? ⟨a.gr, 1, none⟩ = some (.map (some a.gm)) ∧ (Builtin.delete_ #[tM, tI] 0 #[.map (some a.gm), .int .i64 a.op]).run Try.prog w' = .ok (.tuple #[]) w5 ∧ Hid (Calls Try.prog 45 #[.pointer (some ⟨a.gr, 0, none⟩)] w5 fun e z => e = .returned (.int .i64 0) ∧ (z.cell? ⟨a.gr, 3, none⟩ = some (.int .i64 (lastN a.L)) ∧ z.frozen? ⟨a.gr, 3, none⟩ = false) ∧ Hid (PostZ w a pl (z.setCell ⟨a.gr, 3, none⟩ (.int .i64 0))))) := fun y hy => by
    have hm := h.below hy
    refine (takeOutS_any hm.2.sh (Nat.le_trans hbase hy.size) 0 hp.lt (by omega) h.2.am).mono ?_
    rintro e z ⟨rfl, v', k1, k2, k3⟩
    rw [hle] at k1
    obtain ⟨o, cap, ev, -⟩ := own_form k1.row
    have fr : FrP (Own a.gs a.rv) y z := k3.mono (fun b hb => .inl hb)
    have kt := kt_of fr hm.2.sh
    have hblk := kt.cells hm.1 (by decide)
    have own1 := kt.map hm.2.own
    obtain ⟨w5, hrun, own5, ht5⟩ := own1.drop law Try.underlying88 (key_of a.op h.2.op) 0
    have hgrm : a.gr ≠ a.gm := fun e => by
      obtain ⟨es, cl, e2, -⟩ := own1
      rw [← e, hblk] at e2
      cases e2
    have hblk5 : w5.heap[a.gr]? = some (.cells (rcs a pl) tR (0, 0)) := ((turned_heap ht5 hgrm).1).trans hblk
    have hsize : Maps.size (a.D.del (.int .i64 a.op)) = 0 := by
      have := Maps.size_del (k := .int .i64 a.op) h.2.one.tidy
      rw [(h.2.one.has _).2 rfl, h.2.one.size] at this
      simpa using this
    have hhas : ∀ l, Maps.has (a.D.del (.int .i64 a.op)) l = false := fun l => by
      by_cases e : l = .int .i64 a.op
      · subst e; exact Maps.has_del_same
      · rw [Maps.has_del_other e]
        cases h2 : Maps.has a.D l with
        | false => rfl
        | true => exact absurd ((h.2.one.has l).1 h2) e
    refine ⟨rfl, o, cap, w5, by rw [k1.cells.1, ev]; rfl, by unfold rcs at hblk; simp [World.cell?, hblk], hrun, (newest_none (w := w5) (GR := a.gr) (by unfold rcs at hblk5; simp [World.cell?, hblk5]) own5 hhas).mono ?_⟩
    rintro e z2 ⟨rfl, hz2⟩
    have hblk2 := kept hz2 hblk5
    refine ⟨rfl, ⟨by unfold rcs at hblk2; simp [World.cell?, hblk2], by simp [World.frozen?, hblk2]⟩, ?_, ?_, ?_⟩
    · show (z2.setCell ⟨a.gr, 3, none⟩ _).heap[a.gr]? = _
      rw [setCell_heap hblk2]; rfl
    · obtain ⟨es, cl, e, r⟩ := own5
      exact ⟨_, _, (KT.set (S := fun t => t == tR) hblk2 (by decide) _).map ⟨es, cl, (hz2.block _ (Array.getElem?_eq_some_iff.1 e).1).trans e, r⟩, hsize⟩
    · refine FrP.set ?_ (.inl (.inl (.inl rfl))) _
      refine FrP.behind ?_ hz2
      have f1 : FrP (fun b => OwnR a b ∨ b = a.gm) w z := (FrP.of hy).trans fr (fun b hb => by
        rcases hb with hb | hb
        · exact .inl (.inl (.inr (.inl hb)))
        · exact .inl (.inl (.inr (.inr hb))))
      have g5 := World.mapTurned.grown ht5
      refine f1.grown g5 (fun g hg => ?_)
      have : a.gm = g := by simpa using hg
      exact .inl (.inr this.symm)
  generalize lastN a.L = L0 at *
  clear h hp h1 hle hbase
  go_enter Try.func29, Try.ntmps29
  go_wp2_with fail
  refine HFR.out.mono ?_
  rintro e y ⟨rfl, hy⟩
  obtain ⟨hlk, c1, HF⟩ := HFS.out y hy
  have HY : Hid (Below w.heap.size w y) := hy
  clear hy
  go_wp2_with fail
  refine HF.out.mono ?_
  rintro e y2 ⟨rfl, hy2⟩
  have HY2 : Hid (Below w.heap.size w y2) := keepB HY.out hy2
  clear hy2
  go_wp2_with fail
  refine (HTK.out y2 HY2.out).mono ?_
  rintro e y3 ⟨rfl, o, cap, w5, g0, g1, hrun, HN⟩
  go_wp2_with fail
  refine HN.out.mono ?_
  rintro e y4 ⟨rfl, ⟨g3, gf⟩, HE⟩
  go_wp2_with fail
  go_ret
  exact ⟨rfl, HE.out⟩
end Go.Proofs.Ytmaikkhemhonhaa.Fa
