/- An approval is taken out of a record that has others. -/
import Derived.Test.YtmaikkhemhonhaaEd
namespace Go.Proofs.Ytmaikkhemhonhaa.Ee
set_option linter.unusedVariables false
set_option linter.unusedSimpArgs false
open Go.RowKit Go.Maps Lib0 Kb Xp Da Db Dc Dd De Df Dh Dp Dz Ea Eb Ec Ed
attribute [local go_sem] Oper.semAt_some
/-- the first that is meant -/
structure Fst (L : List Ap) (u t : Int) (p : Nat) : Prop where
  lt : p < L.length
  at_ : mt u t (L[p]'lt)
  no : ∀ j (hj : j < L.length), j < p → ¬ mt u t L[j]
theorem fnd_uniq {L : List Ap} {u t r : Int} {p : Nat} (h : Fst L u t p) (hf : Fnd L u t r) : r = (p : Int) := by
  rcases hf with ⟨-, hn⟩ | ⟨q, hq, rfl, hm, hno⟩
  · exact absurd h.at_ (hn _ (List.getElem_mem h.lt))
  · have : q = p := by
      rcases Nat.lt_trichotomy q p with h1 | h1 | h1
      · exact absurd hm (h.no q hq h1)
      · exact h1
      · exact absurd h.at_ (hno p h.lt h1)
    rw [this]
def PostE (w : World) (base : Nat) (a : Rc) (p : Nat) (pl : Int) (y : World) : Prop := ∃ a' : Rc, a'.card = a.card ∧ a'.gr = a.gr ∧ a'.gm = a.gm ∧ a'.gs = a.gs ∧ a'.L = a.L.eraseIdx p ∧ Nw a.rv a'.rv w.heap.size ∧ RM y base a' pl ∧ FrP (OwnR a) w y
set_option maxRecDepth 100000 in
set_option maxHeartbeats 1600000 in
theorem takeOutR_mid {w : World} {base : Nat} {a : Rc} {pl : Int} (h : RM w base a pl) (hbase : base ≤ w.heap.size) (u t : Int) (p : Nat) (hp : Fst a.L u t p) (h2 : 2 ≤ a.L.length) (hpos : 0 < lastN (a.L.eraseIdx p)) : Calls Try.prog 29 #[.pointer (some ⟨a.gr, 0, none⟩), .int .i64 u, .int .i64 t] w fun e w' => e = .returned (.bool true) ∧ PostE w base a p pl w' := by
  have hlen := h.2.len
  have hle : (a.L.eraseIdx p).length = a.L.length - 1 := by rw [List.length_eraseIdx, if_pos hp.lt]
  have HFR : Hid (Calls Try.prog 42 #[.pointer (some ⟨a.gr, 0, none⟩), .int .i64 u, .int .i64 t] w fun e w' => e = .returned (.int .i64 a.op) ∧ Below w.heap.size w w') := by
    refine (findR_any h u t).mono ?_
    rintro e y ⟨⟨r, hr, rfl⟩, hy⟩
    have := fnd_uniq hp hr
    rw [if_pos (by omega)]
    exact ⟨rfl, hy⟩
  have HFS : Hid (∀ y, Below w.heap.size w y → (Instr.lookup tM (.map (some a.gm)) (.int .i64 a.op) false).run Try.prog y = .ok (.pointer (some ⟨a.gs, 0, none⟩)) y ∧ y.cell? ⟨a.gr, 1, none⟩ = some (.map (some a.gm)) ∧ Hid (Calls Try.prog 44 #[.pointer (some ⟨a.gs, 0, none⟩), .int .i64 u, .int .i64 t] y fun e w' => e = .returned (.int .i64 (p : Int)) ∧ Below y.heap.size y w')) := fun y hy => by
    refine ⟨look_at (h.below hy), (h.below hy).cells.2.1, (findS_any (h.below hy).2.sh u t h.2.up (by omega)).mono ?_⟩
    rintro e z ⟨⟨r, rfl, hr⟩, hz⟩
    rw [fnd_uniq hp hr]
    exact ⟨rfl, hz⟩
  have HTK : Hid (∀ y, Below w.heap.size w y → Calls Try.prog 43 #[.pointer (some ⟨a.gs, 0, none⟩), .int .i64 (p : Int)] y fun e w' => e = .returned (.tuple #[]) ∧ ∃ o cap, w'.cell? ⟨a.gs, 0, none⟩ = some (.slice o (a.L.eraseIdx p).length cap) ∧ Hid (Calls Try.prog 45 #[.pointer (some ⟨a.gr, 0, none⟩)] w' fun e z => e = .returned (.int .i64 (lastN (a.L.eraseIdx p))) ∧ (z.cell? ⟨a.gr, 3, none⟩ = some (.int .i64 (lastN a.L)) ∧ z.frozen? ⟨a.gr, 3, none⟩ = false) ∧ Hid (PostE w base a p pl (z.setCell ⟨a.gr, 3, none⟩ (.int .i64 (lastN (a.L.eraseIdx p))))))) := fun y hy => by
    have hm := h.below hy
    refine (takeOutS_any hm.2.sh (Nat.le_trans hbase hy.size) p hp.lt (by omega) h.2.am).mono ?_
    rintro e z ⟨rfl, v', k1, k2, k3⟩
    obtain ⟨o, cap, ev, -⟩ := own_form k1.row
    have fr : FrP (Own a.gs a.rv) y z := k3.mono (fun b hb => .inl hb)
    have kt := kt_of fr hm.2.sh
    have hblk := kt.cells hm.1 (by decide)
    refine ⟨rfl, o, cap, by rw [k1.cells.1, ev], (newest_any (w := z) (by unfold rcs at hblk; simp [World.cell?, hblk]) (kt.map hm.2.own) h.2.one k1 (by omega) (by omega) hpos).mono ?_⟩
    rintro e z2 ⟨rfl, hz2⟩
    have hblk2 := kept hz2 hblk
    have k1' := k1.below hz2
    have hrcs : (rcs a pl).setIfInBounds 3 (.int .i64 (lastN (a.L.eraseIdx p))) = rcs { a with rv := v', L := a.L.eraseIdx p } pl := rfl
    have kset : KT (fun t => t == tR) z2 (z2.setCell ⟨a.gr, 3, none⟩ (.int .i64 (lastN (a.L.eraseIdx p)))) := KT.set hblk2 (by decide) _
    have own2 : z2.ownsMap Try.prog tI heldP a.gm a.nm a.D := by
      obtain ⟨es, cl, e, r⟩ := kt.map hm.2.own
      exact ⟨es, cl, kept hz2 e, r⟩
    refine ⟨rfl, ⟨by unfold rcs at hblk2; simp [World.cell?, hblk2], by simp [World.frozen?, hblk2]⟩, { a with rv := v', L := a.L.eraseIdx p }, rfl, rfl, rfl, rfl, rfl, fun b hb => .inr (Nat.le_trans hy.size (k2 b hb)), ⟨?_, ⟨kset.map own2, h.2.one, ⟨kset.cells k1'.blk (by decide), kset.row k1'.row (by decide), k1'.low⟩, h.2.lowm, h.2.lowr, h.2.op, ?_, ?_, ?_, h.2.nm, h.2.opn⟩⟩, ?_⟩
    · show (z2.setCell ⟨a.gr, 3, none⟩ _).heap[a.gr]? = _
      rw [setCell_heap hblk2, hrcs]
    · exact h.2.up.sublist (List.eraseIdx_sublist _ _)
    · exact fun x hx => h.2.am x (List.mem_of_mem_eraseIdx hx)
    · show (a.L.eraseIdx p).length ≤ 999
      omega
    · refine FrP.set ?_ (.inl (.inl rfl)) _
      exact ((FrP.of (B := OwnR a) hy).trans fr (fun b hb => by
        rcases hb with hb | hb
        · exact .inl (.inr (.inl hb))
        · exact .inl (.inr (.inr hb)))).behind hz2
  have q1 : ¬ ((a.L.eraseIdx p).length : Int) = 0 := by omega
  have q2 : (((a.L.eraseIdx p).length : Int) == 0) = false := beq_eq_false_iff_ne.2 q1
  generalize (a.L.eraseIdx p).length = N at *
  generalize lastN (a.L.eraseIdx p) = LN at *
  generalize lastN a.L = L0 at *
  clear h hp h2 hpos hlen hle hbase
  go_enter Try.func29, Try.ntmps29
  go_wp2_with fail
  refine HFR.out.mono ?_
  rintro e y ⟨rfl, hy⟩
  obtain ⟨hlk, c1, HF⟩ := HFS.out y hy
  have HY : Hid (Below w.heap.size w y) := hy
  clear hy
  go_wp2_with fail
  refine HF.out.mono ?_
  rintro e y2 ⟨rfl, hy2⟩
  have HT := HTK.out y2 (keepB HY.out hy2)
  have HT2 : Hid (Calls Try.prog 43 #[.pointer (some ⟨a.gs, 0, none⟩), .int .i64 (p : Int)] y2 fun e w' => e = .returned (.tuple #[]) ∧ ∃ o cap, w'.cell? ⟨a.gs, 0, none⟩ = some (.slice o N cap) ∧ Hid (Calls Try.prog 45 #[.pointer (some ⟨a.gr, 0, none⟩)] w' fun e z => e = .returned (.int .i64 LN) ∧ (z.cell? ⟨a.gr, 3, none⟩ = some (.int .i64 L0) ∧ z.frozen? ⟨a.gr, 3, none⟩ = false) ∧ Hid (PostE w base a p pl (z.setCell ⟨a.gr, 3, none⟩ (.int .i64 LN))))) := HT
  clear HT hy2
  go_wp2_with fail
  refine HT2.out.mono ?_
  rintro e y3 ⟨rfl, o, cap, g0, HN⟩
  go_wp2_with fail
  refine HN.out.mono ?_
  rintro e y4 ⟨rfl, ⟨g3, gf⟩, HE⟩
  go_wp2_with fail
  go_ret
  exact ⟨rfl, HE.out⟩
end Go.Proofs.Ytmaikkhemhonhaa.Ee
