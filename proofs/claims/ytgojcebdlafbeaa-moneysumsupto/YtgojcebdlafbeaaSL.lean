/- MoneySums: the law out of the contracts; the frame of the row. -/
import Derived.Test.YtgojcebdlafbeaaRows
import Derived.WalkKit
import Derived.ProofKit
import Derived.OpenShut
import Derived.ShutString
import Derived.ChangeOld
import Derived.Below
import Derived.JoinedCond
import Derived.Carry
import Derived.SizedLaws
import Derived.Test.YtgojcebdlafbeaaMs
import Derived.Test.YtgojcebdlafbeaaLn
import Derived.Test.YtgojcebdlafbeaaOw
import Derived.Test.YtgojcebdlafbeaaPick
namespace Go.Proofs.Ytgojcebdlafbeaa.moneySums
open Go.ChangeShapes Go.WideShapes Go.ChangeAt Go.RowKit
open Go.ChangeMaps (open_string shut_string)
set_option linter.unusedVariables false

theorem own : ownKnob Try.prog.godebug = none := by kernel_rfl

theorem lies3 (w : World) : Sl.Lies (w.alloc (.cells #[.int .i64 1, .int .i64 2, .int .i64 3] 3)) (.slice (some ⟨w.heap.size, 0, none⟩) 3 3) [1, 2, 3] := by
  refine Or.inr ⟨_, 3, rfl, by decide, by decide, fun i hi => ?_, by decide⟩
  rw [Ln.add0]
  refine Ln.cell_row (Kb.h1_0 w _) ?_
  match i, hi with
  | 0, _ => rfl
  | 1, _ => rfl
  | 2, _ => rfl
theorem after {x y : World} {o : Obj} (h : y = x.alloc o) : Hid (y.heap[x.heap.size]? = some o) ∧ Below x.heap.size x y := by
  subst h; exact ⟨Kb.h1_0 x o, Kb.below_one x o⟩
theorem same {x y : World} (h : y = x) : Below x.heap.size x y := by
  subst h; exact Below.refl _ _
theorem setCell_heap {w : World} {g : Nat} {c : Array Value} {t : TypeId} {fr : Nat × Nat} (h : w.heap[g]? = some (.cells c t fr)) (o : Nat) (v : Value) : (w.setCell ⟨g, o, none⟩ v).heap[g]? = some (.cells (c.setIfInBounds o v) t fr) := by
  show (w.heap.modify g _)[g]? = _
  rw [Array.getElem?_modify]; simp [h]
theorem grown_below {w x y : World} (hb : Below w.heap.size w x) (hg : x.grownBy y none) : Below w.heap.size w y := hb.grown hg hb.size (fun k hk => by cases hk)
theorem grown_kept {x y : World} {g : Nat} {o : Obj} (hg : x.grownBy y none) (h : x.heap[g]? = some o) : y.heap[g]? = some o := by
  rw [hg.block g (Array.getElem?_eq_some_iff.1 h).1 (by simp)]; exact h
set_option maxRecDepth 100000 in
set_option maxHeartbeats 1600000 in
theorem walk (v0 : Value) (z0 : List Int) (a1 : Int) (a2 : Int) (w : World) (w0 : Sl.Lies w v0 z0) (w1 : (Lit.int .i64 a1).wf = true) (w2 : (Lit.int .i64 a2).wf = true) (k0 : z0.length ≤ 1048576) :
    Calls Try.prog 6 #[v0, .int .i64 a1, .int .i64 a2] w fun e w' => e = .returned (.bool true) ∧ Below w.heap.size w w' := by
  have hwf := Ow.lies_wf w0
  have a11 := (bounds_i64 w1).1
  have a12 := (bounds_i64 w1).2
  obtain ⟨N, hN⟩ : ∃ N, N = z0.length := ⟨_, rfl⟩
  obtain ⟨M, hM⟩ : ∃ M, M = N + 8 := ⟨_, rfl⟩
  have pl := fun x h => Ln.lent_lies z0 v0 x h k0
  have ps := fun g x hg => Ms.sum_lies z0 _ x (by omega) (Ln.lent_is (g := g) k0 hwf hg)
  have pr := fun x h => Ms.sumr_lies z0 v0 x (by omega) h
  have pk := fun g x h hg => Ln.still_lies z0 v0 g x h k0 hg
  rw [← hN, ← hM] at pl ps pk
  have HL : Hid (Sl.Lies w v0 z0) := w0
  have s1 : Mp.sumV [1, 2, 3] = 6 := by decide
  have s2 : Mp.sumE [1, 2, 3] = 0 := by decide
  have HN : Hid (N = z0.length) := hN
  have HM : Hid (M = N + 8) := hM
  have j1 : (N : Int) ≤ 1048576 := by omega
  have j2 : (M : Int) ≤ 1048584 := by omega
  have j3 : (N : Int) ≤ (M : Int) := by omega
  have j4 : N ≤ M := by omega
  clear w0 hN hM
  have p0 := fun w => Ms.sum_lies [1, 2, 3] _ _ (by decide) (lies3 w)
  rw [s1, s2] at p0
  clear s1 s2
  go_enter Try.func6, Try.ntmps6
  go_wp2_with fail
  refine (p0 w).mono ?_
  rintro e y1 ⟨rfl, hy⟩
  have B1 : Below w.heap.size w y1 := Kb.keepB (Kb.below_one _ _) (same hy)
  clear hy
  go_wp2_with fail
  refine (pl _ (Sl.lies_below HL.out B1)).mono ?_
  rintro e y2 ⟨rfl, hy⟩
  obtain ⟨G2, h2⟩ := after hy
  have B2 := Kb.keepB B1 h2
  have gl : w.heap.size ≤ y1.heap.size := B1.size
  clear hy h2 B1
  go_wp2_with fail
  refine (ps _ _ G2.out).mono ?_
  rintro e x ⟨rfl, hx⟩
  have B3 := Kb.keepB B2 (same hx)
  have G3 : Hid _ := Kb.kept (same hx) G2.out
  clear hx B2 G2
  go_wp2_with fail
  refine (pr _ (Sl.lies_below HL.out B3)).mono ?_
  rintro e y3 ⟨rfl, hx⟩
  have B4 := Kb.keepB B3 (same hx)
  have G4 : Hid _ := Kb.kept (same hx) G3.out
  clear hx B3 G3
  go_wp2_with fail
  refine (pk _ _ (Sl.lies_below HL.out B4) G4.out).mono ?_
  rintro e y4 ⟨rfl, hx⟩
  have B5 := Kb.keepB B4 hx
  have G5 : Hid _ := Kb.kept hx G4.out
  clear hx B4 G4
  go_wp2_with fail
  refine (ps _ _ G5.out).mono ?_
  rintro e y5 ⟨rfl, hx⟩
  have B6 := Kb.keepB B5 (same hx)
  have G6 : Hid _ := Kb.kept (same hx) G5.out
  clear hx B5 G5
  rcases Nat.eq_zero_or_pos N with h0 | h0
  · have e0 : z0 = [] := List.length_eq_zero_iff.1 (by rw [← HN.out]; exact h0)
    have m0 : M = 8 := by rw [HM.out, h0]
    subst e0 h0 m0
    have pz := fun g x h => Ln.still_lies [] (.slice none 0 0) g x (Or.inl ⟨rfl, rfl⟩) (by decide) h
    have pn := fun x => Ms.sumr_nil x
    have ev : Mp.sumV [] = 0 := by decide
    have ee : Mp.sumE [] = 0 := by decide
    rw [ev, ee] at ps
    rw [ev, ee]
    clear ev ee pr pk pl p0
    go_wp2_with fail
    refine (ps _ _ G6.out).mono ?_
    rintro e y6 ⟨rfl, hx⟩
    have B7 := Kb.keepB B6 (same hx)
    have G7 : Hid _ := Kb.kept (same hx) G6.out
    clear hx B6 G6
    go_wp2_with fail
    refine (pn _).mono ?_
    rintro e y7 ⟨rfl, hx⟩
    have B8 := Kb.keepB B7 (same hx)
    have G8 : Hid _ := Kb.kept (same hx) G7.out
    clear hx B7 G7
    go_wp2_with fail
    refine (pz _ _ G8.out).mono ?_
    rintro e y8 ⟨rfl, hx⟩
    have B9 := Kb.keepB B8 hx
    go_wp2_with fail
    go_ret
    exact ⟨rfl, B9⟩
  · have pp := fun x => Pick.pick_any a1 N x a11 a12 (by omega) (by omega)
    have l1 := Pick.pick_lo a1 N (by omega)
    have l2 := Pick.pick_hi a1 N (by omega)
    obtain ⟨K, hK⟩ : ∃ K : Nat, Pick.pickOf a1 N = (K : Int) := ⟨(Pick.pickOf a1 N).toNat, by omega⟩
    rw [hK] at pp l1 l2
    have r1 : K < N := by omega
    have r2 : K < M := by omega
    have rz : K < z0.length := by rw [← HN.out]; exact r1
    have c1 : y5.cell? ⟨y1.heap.size, K, none⟩ = some (.int .i64 (Ln.lentF z0 K)) := Ln.cell_row G6.out (Sl.inC_get _ _ _ r2)
    have f1 : y5.frozen? ⟨y1.heap.size, K, none⟩ = false := Ln.frozen_row G6.out
    obtain ⟨z1, hz1⟩ : ∃ z1, z1 = z0.set K a2 := ⟨_, rfl⟩
    have ln1 : z1.length = N := by rw [hz1, List.length_set, HN.out]
    have G7 : Hid ((y5.setCell ⟨y1.heap.size, K, none⟩ (.int .i64 a2)).heap[y1.heap.size]? = some (.cells (Sl.inC M (Ln.lentF z1)) 3 (0, 0))) := by
      show _ = _
      rw [setCell_heap G6.out]
      have e := Ln.lent_set z0 K a2 rz
      rw [← hz1, ← HN.out, ln1, ← HM.out] at e
      rw [e]
    have B7 : Below w.heap.size w (y5.setCell ⟨y1.heap.size, K, none⟩ (.int .i64 a2)) := B6.setCell gl _
    have hwf1 : ∀ x ∈ z1, (Lit.int .i64 x).wf = true := by rw [hz1]; exact Ow.wfs hwf K a2 w2
    have k1 : z1.length ≤ 1048576 := by omega
    have ps1 := fun g x hg => Ms.sum_lies z1 _ x (by omega) (Ln.lent_is (g := g) k1 hwf1 hg)
    have pi1 := fun g x hg => Ln.lent_is (w := x) (g := g) k1 hwf1 hg
    have pr1 := fun v x h => Ms.sumr_lies z1 v x (by omega) h
    have pk1 := fun g v x h hg => Ln.still_lies z1 v g x h k1 hg
    rw [ln1, ← HM.out] at ps1 pk1 pi1
    have HZ : Hid (z1.length = N) := ln1
    have HW : Hid (∀ x ∈ z1, (Lit.int .i64 x).wf = true) := hwf1
    clear hK hz1 ln1 G6 B6 ps pl pr pk p0 hwf hwf1 w1 w2 k1
    obtain ⟨ia, hia, hza0, hza1, hza2⟩ := info_parts Ow.info3'
    go_wp2_with (first
      | (go_at_call 11; refine (pp _).mono ?_; rintro e x ⟨rfl, rfl⟩)
      | (at_builtin; refine wpList_append_lies _ rfl _ _ _ rfl 0 3 ia _ 1 8 Try.underlying35 hia hza0 hza1 hza2 rfl (by omega) _ 0 _ rfl (Ow.own_nil _ _ _) ⟨y1.heap.size, 0, none⟩ N M (Ow.iv z1) rfl (by rw [Ow.iv_length, HZ.out, Nat.mul_one]) (Ow.lies_news (pi1 _ _ G7.out) rfl).2 (Ow.iv_one _) (by omega) (by unfold maxLen; omega) (by omega) (Nat.zero_le _) _ rfl ?_; intro g3 cap3 y6 own3 gr3 hb3 lt3))
    have B8 := grown_below B7 gr3
    have G8 : Hid _ := grown_kept gr3 G7.out
    rw [Nat.zero_add] at own3
    have L8 : Hid _ := Ow.own_lies HZ.out.symm own3 HW.out
    clear B7 G7 own3 gr3 hb3 lt3
    go_wp2_with fail
    refine (ps1 _ _ G8.out).mono ?_
    rintro e y7 ⟨rfl, hx⟩
    have B9 := Kb.keepB B8 (same hx)
    have G9 : Hid _ := Kb.kept (same hx) G8.out
    have L9 : Hid _ := Sl.lies_below L8.out (same hx)
    clear hx B8 G8 L8
    go_wp2_with fail
    refine (pr1 _ _ L9.out).mono ?_
    rintro e y8 ⟨rfl, hx⟩
    have B10 := Kb.keepB B9 (same hx)
    have G10 : Hid _ := Kb.kept (same hx) G9.out
    have L10 : Hid _ := Sl.lies_below L9.out (same hx)
    clear hx B9 G9 L9
    go_wp2_with fail
    refine (pk1 _ _ _ L10.out G10.out).mono ?_
    rintro e y9 ⟨rfl, hx⟩
    have B11 := Kb.keepB B10 hx
    go_wp2_with fail
    go_ret
    exact ⟨rfl, B11⟩

set_option maxRecDepth 100000 in
theorem contract (H : Type) (enc : TypeId × Value → H) (W : World) (base : Nat) (args : Array Value) (ds gs : List (DataW H)) (before : List MemPlace)
    (hval : ∀ (j : Nat) t v, Try.f6.params[j]? = some t → args[j]? = some v → Value.okWide Try.prog W .any base t v)
    (hW : DataW.Whole enc Try.prog Try.f6.params.toList Rows.moneySumsSpec.vars false W args.toList ds gs before) (hk : Rows.uptoSmall H (ds ++ gs) = true) :
    Calls Try.prog 6 args W fun e W' => ∃ v, e = .returned v ∧ Rows.moneySumsSpec.post enc Try.prog Try.f6 false true false false W args v W' := by
  have hW' := hW
  obtain ⟨p, q, hA0, hV, rfl, hfz, hnd⟩ := hW
  have hA : DataW.TrodAll enc Try.prog W 0 (fun _ => true) true Try.f6.params.toList args.toList ds p := hA0
  rw [Try.params6] at hA hval
  obtain ⟨v0, vs0, d0, ds0, p0, q0, hargs, rfl, rfl, h0, r0⟩ := trodAll_cons hA
  obtain ⟨v1, vs1, d1, ds1, p1, q1, rfl, rfl, rfl, h1, r1⟩ := trodAll_cons r0
  obtain ⟨v2, vs2, d2, ds2, p2, q2, rfl, rfl, rfl, h2, r2⟩ := trodAll_cons r1
  obtain ⟨rfl, rfl, rfl⟩ := trodAll_nil r2
  obtain rfl : args = #[v0, v1, v2] := by cases args; simp_all
  obtain ⟨rfl, rfl⟩ := trodVars_none hV
  obtain ⟨z0, w0, lt0, bulk0⟩ := Sl.open_sl (hval 0 35 v0 rfl rfl) h0
  obtain ⟨a1, rfl, rfl, rfl, w1⟩ := open_int Try.underlying3 (hval 1 3 v1 rfl rfl) h1
  obtain ⟨a2, rfl, rfl, rfl, w2⟩ := open_int Try.underlying3 (hval 2 3 v2 rfl rfl) h2
  clear hA0
  simp only [List.append_nil] at hk
  have hk1 := of_decide_eq_true hk
  simp only [Rows.uptoBulkAll] at hk1
  have e0 := bulk0
  refine (walk v0 z0 a1 a2 W w0 w1 w2 (by omega)).mono fun e W' ⟨he, bel⟩ => ?_
  subst he
  exact ⟨_, rfl, _, _, _, [], _, [], hW', trodAll_mk1 (shut_bool Try.underlying4 _), (trodAll_cons_mk (Below.trod (by kernel_rfl) (by kernel_rfl) (of_decide_eq_true (by kernel_rfl)) h0 bel lt0) (trodAll_cons_mk (shut_int Try.underlying3 w1) (trodAll_cons_mk (shut_int Try.underlying3 w2) trodAll_mk0))), rfl, bel.frame _, fun h => by cases h⟩

set_option maxRecDepth 100000 in
theorem lifted (os : Os) (started : os.Started) (H : Type) (enc : TypeId × Value → H) (F : Stop.Interp) :
    ReturnsInHanded {} Try.checked os 6 .any ((Rows.OpenSpec.upto Rows.moneySumsSpec).pre6 enc Try.prog Try.f6 Rows.moneySumsUptoRow.domain false) (((Rows.OpenSpec.upto Rows.moneySumsSpec).at F).post enc Try.prog Try.f6 false true false false) := by
  refine returnsInHanded_of_cond (C := Try.checked) (s := Rows.OpenSpec.upto Rows.moneySumsSpec) (k := Rows.uptoSmall) rfl own started (by kernel_rfl) Try.func6
    (OpenSpec.witness (enc := enc) (C := Try.checked) (s := Rows.OpenSpec.upto Rows.moneySumsSpec) (k := Rows.uptoSmall) rfl false ⟨#[], #[.slice none 0 0, .int .i64 0, .int .i64 0], []⟩ 8 (by kernel_rfl) (by kernel_rfl) (by kernel_rfl)
      (x := ([.nil, .lit (.int .i64 0), .lit (.int .i64 0)], [], [])) (by kernel_rfl) rfl (by kernel_rfl)) ?_
  intro W base args ds gs before hval hW _ hk _
  exact contract H enc W base args ds gs before hval hW hk

theorem proved : Rows.MoneySumsUptoSaid :=
  OpenClaim.holds_of_cond 6 Try.f6 rfl rfl rfl rfl rfl rfl rfl ⟨rfl, rfl, rfl, rfl, rfl⟩ rfl rfl rfl rfl rfl (by kernel_rfl) Try.func6 (by kernel_rfl)
    (of_decide_eq_true (by kernel_rfl)) (by unfold Func.isWrapper; first | (rw [if_pos (by decide +kernel)]; kernel_rfl) | (rw [if_neg (by decide +kernel)]; exact ⟨rfl, rfl⟩))
    (fun os started H enc _ F => lifted os started H enc F)
#print axioms proved
end Go.Proofs.Ytgojcebdlafbeaa.moneySums
