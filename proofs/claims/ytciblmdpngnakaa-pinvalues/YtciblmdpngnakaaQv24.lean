import Derived.Test.YtciblmdpngnakaaQv21
import Derived.Test.YtciblmdpngnakaaQv22
import Derived.Test.YtciblmdpngnakaaQv06
/- The document's boxes. -/
namespace Go.Proofs.Ytciblmdpngnakaa.Rx
set_option linter.unusedVariables false
open Go.RowKit Pla Cb Rb
def boxI (i : Nat) : List Nat := (boxL.drop (64 * i)).take 64
set_option maxRecDepth 100000 in
set_option maxHeartbeats 1600000 in
theorem box0 (w : World) : Calls Try.prog 114 #[.int .i64 0] w fun e w' => e = .returned (.slice (some ⟨w.heap.size, 0, none⟩) 64 64) ∧ w' = w.alloc (Obj.cells (nv (boxI 0)).toArray 3) := by
  go_enter Try.func114, Try.ntmps114
  go_wp2
  go_ret
  exact ⟨rfl, by kernel_rfl⟩
set_option maxRecDepth 100000 in
set_option maxHeartbeats 1600000 in
theorem box1 (w : World) : Calls Try.prog 114 #[.int .i64 1] w fun e w' => e = .returned (.slice (some ⟨w.heap.size, 0, none⟩) 64 64) ∧ w' = w.alloc (Obj.cells (nv (boxI 1)).toArray 3) := by
  go_enter Try.func114, Try.ntmps114
  go_wp2
  go_ret
  exact ⟨rfl, by kernel_rfl⟩
set_option maxRecDepth 100000 in
set_option maxHeartbeats 1600000 in
theorem box2 (w : World) : Calls Try.prog 114 #[.int .i64 2] w fun e w' => e = .returned (.slice (some ⟨w.heap.size, 0, none⟩) 64 64) ∧ w' = w.alloc (Obj.cells (nv (boxI 2)).toArray 3) := by
  go_enter Try.func114, Try.ntmps114
  go_wp2
  go_ret
  exact ⟨rfl, by kernel_rfl⟩
set_option maxRecDepth 100000 in
set_option maxHeartbeats 1600000 in
theorem box3 (w : World) : Calls Try.prog 114 #[.int .i64 3] w fun e w' => e = .returned (.slice (some ⟨w.heap.size, 0, none⟩) 64 64) ∧ w' = w.alloc (Obj.cells (nv (boxI 3)).toArray 3) := by
  go_enter Try.func114, Try.ntmps114
  go_wp2
  go_ret
  exact ⟨rfl, by kernel_rfl⟩
set_option maxRecDepth 100000 in
set_option maxHeartbeats 1600000 in
theorem box4 (w : World) : Calls Try.prog 114 #[.int .i64 4] w fun e w' => e = .returned (.slice (some ⟨w.heap.size, 0, none⟩) 64 64) ∧ w' = w.alloc (Obj.cells (nv (boxI 4)).toArray 3) := by
  go_enter Try.func114, Try.ntmps114
  go_wp2
  go_ret
  exact ⟨rfl, by kernel_rfl⟩
set_option maxRecDepth 100000 in
set_option maxHeartbeats 1600000 in
theorem box5 (w : World) : Calls Try.prog 114 #[.int .i64 5] w fun e w' => e = .returned (.slice (some ⟨w.heap.size, 0, none⟩) 64 64) ∧ w' = w.alloc (Obj.cells (nv (boxI 5)).toArray 3) := by
  go_enter Try.func114, Try.ntmps114
  go_wp2
  go_ret
  exact ⟨rfl, by kernel_rfl⟩
set_option maxRecDepth 100000 in
set_option maxHeartbeats 1600000 in
theorem box6 (w : World) : Calls Try.prog 114 #[.int .i64 6] w fun e w' => e = .returned (.slice (some ⟨w.heap.size, 0, none⟩) 64 64) ∧ w' = w.alloc (Obj.cells (nv (boxI 6)).toArray 3) := by
  go_enter Try.func114, Try.ntmps114
  go_wp2
  go_ret
  exact ⟨rfl, by kernel_rfl⟩
set_option maxRecDepth 100000 in
set_option maxHeartbeats 1600000 in
theorem box7 (w : World) : Calls Try.prog 114 #[.int .i64 7] w fun e w' => e = .returned (.slice (some ⟨w.heap.size, 0, none⟩) 64 64) ∧ w' = w.alloc (Obj.cells (nv (boxI 7)).toArray 3) := by
  go_enter Try.func114, Try.ntmps114
  go_wp2
  go_ret
  exact ⟨rfl, by kernel_rfl⟩
theorem box_ref (i : Nat) (h : i < 8) (w : World) : Calls Try.prog 114 #[.int .i64 (i : Int)] w fun e w' => e = .returned (.slice (some ⟨w.heap.size, 0, none⟩) 64 64) ∧ w' = w.alloc (Obj.cells (nv (boxI i)).toArray 3) := by
  have : i = 0 ∨ i = 1 ∨ i = 2 ∨ i = 3 ∨ i = 4 ∨ i = 5 ∨ i = 6 ∨ i = 7 := by omega
  rcases this with rfl | rfl | rfl | rfl | rfl | rfl | rfl | rfl
  · exact box0 w
  · exact box1 w
  · exact box2 w
  · exact box3 w
  · exact box4 w
  · exact box5 w
  · exact box6 w
  · exact box7 w
end Go.Proofs.Ytciblmdpngnakaa.Rx
/- F of the chapter, the document's. -/
namespace Go.Proofs.Ytciblmdpngnakaa.Rm
set_option linter.unusedVariables false
open Go.RowKit Pla Cb Sm Rb Rs Rt Rx Mx
open Lib0 (owns_len own_ge below_app below_app0)
theorem tab_range (w : World) (t : List Nat) : (w.alloc (Obj.cells (nv t).toArray 3)).rangeAt w.heap.size 0 (nv t) := by
  refine range_of (h1_0 w _) 0 _ fun j v hv => ?_
  rw [Nat.zero_add, List.getElem?_toArray]; exact hv
/-- the place in a box of six bits -/
def rowN (a b : Nat) : Nat := 2 * a + b
def plcN (a b c d : Nat) : Nat := 8 * a + 4 * b + 2 * c + d
theorem six_of : ∀ (a b c d e f : Bool), (2 * ((val [a, b, c, d, e, f]) / 32 % 2) + (val [a, b, c, d, e, f]) % 2 = 2 * a.toNat + f.toNat) ∧ (val [a, b, c, d, e, f] / 2 % 16 = 8 * b.toNat + 4 * c.toNat + 2 * d.toNat + e.toNat) := by decide
theorem grp_list (x : List Bool) (i : Nat) (hx : x.length = 48) (hi : i < 8) : grp x i = [x.getD (6 * i) false, x.getD (6 * i + 1) false, x.getD (6 * i + 2) false, x.getD (6 * i + 3) false, x.getD (6 * i + 4) false, x.getD (6 * i + 5) false] := by
  apply List.ext_getElem?
  intro j
  have hl := Tk.grp_len x i hx hi
  by_cases hj : j < 6
  · have e : x[6 * i + j]? = some (x.getD (6 * i + j) false) := by rw [List.getD_eq_getElem?_getD, List.getElem?_eq_getElem (by omega)]; rfl
    rw [grp, List.getElem?_take_of_lt hj, List.getElem?_drop, e]
    have : j = 0 ∨ j = 1 ∨ j = 2 ∨ j = 3 ∨ j = 4 ∨ j = 5 := by omega
    rcases this with rfl | rfl | rfl | rfl | rfl | rfl <;> rfl
  · rw [List.getElem?_eq_none (by omega), List.getElem?_eq_none (by simp; omega)]
theorem six_box (i v : Nat) (hi : i < 8) : six i v = (boxI i).getD (16 * (2 * (v / 32 % 2) + v % 2) + v / 2 % 16) 0 := by
  have h : 16 * (2 * (v / 32 % 2) + v % 2) + v / 2 % 16 < 64 := by omega
  rw [six, boxI, List.getD_eq_getElem?_getD, List.getD_eq_getElem?_getD, List.getElem?_take_of_lt h, List.getElem?_drop, Nat.add_assoc]
theorem boxI_len (i : Nat) (h : i < 8) : (boxI i).length = 64 := by
  rw [boxI, List.length_take, List.length_drop, box_len]; omega
theorem nib_nb : ∀ n : Fin 16, nb (nib n.val) = [n.val / 8, n.val / 4 % 2, n.val / 2 % 2, n.val % 2] := by decide
set_option maxRecDepth 100000 in
set_option maxHeartbeats 3200000 in
theorem mixed_ref (r k : List Bool) (gr orr gk nk cr ck : Nat) (hr : Hid (r.length = 32)) (hk : Hid (k.length = 48)) (w : World) (hgr : gr < w.heap.size) (hgk : gk < w.heap.size) (hrr : w.rangeAt gr orr (nv (nb r))) (hrk : w.rangeAt gk 0 (nv (nb k))) :
    Calls Try.prog 100 #[.slice (some ⟨gr, orr, none⟩) 32 cr, .slice (some ⟨gk, 0, none⟩) 48 ck] w (New w (nb (mix r k)) 32) := by
  obtain ⟨i0, hi, hz0, hz1, hz2⟩ := info_parts infoI
  go_enter Try.func100, Try.ntmps100
  go_wp2_with (first
    | (go_at_call 113; refine (tabWide_ref _).mono ?_; rintro e y ⟨rfl, rfl⟩)
    | (go_at_call 97; refine (take_ref tWide (nb r) w.heap.size gr orr 48 32 48 cr rfl (by rw [nb_len]; exact hr) (by decide) (by decide) (by decide) wide_ok _ (by simp) (by simp; omega) (tab_range w tWide) (range_keep (below_one w _) hgr hrr)).mono ?_; rintro e y1 ⟨g1, c1, rfl, hg1, hl1, hcp1, hr1, hb1⟩; rw [tkN_nb] at hr1)
    | (go_at_call 101; refine (sum_ref (tk tWide r) k g1 0 gk 0 48 c1 ck (tk_len _ _) hk (by decide) (by decide) y1 hl1 (Nat.lt_of_lt_of_le hgk (Nat.le_trans (by simp) hb1.size)) hr1 (range_keep (keepB (below_one w _) hb1) hgk hrk)).mono ?_; rintro e y2 ⟨g2, c2, rfl, hg2, hl2, hcp2, hr2, hb2⟩))
  have bB : Below w.heap.size w y2 := keepB (keepB (below_one w _) hb1) hb2
  have hX : Hid ((xr (tk tWide r) k).length = 48) := xr_len _ _ 48 (tk_len _ _) hk.out
  have HM : Hid (mix r k = tk tP (mixP (tk tWide r) k 8)) := rfl
  have HP : Hid (∀ j, mixP (tk tWide r) k (j + 1) = mixP (tk tWide r) k j ++ nib (six j (val (grp (xr (tk tWide r) k) j)))) := (fun j => by simp [mixP, List.range_succ] : ∀ j, mixP (tk tWide r) k (j + 1) = mixP (tk tWide r) k j ++ nib (six j (val (grp (xr (tk tWide r) k) j))))
  have HL : Hid (∀ j, (mixP (tk tWide r) k j).length = 4 * j) := mixP_len (tk tWide r) k
  have HZ : Hid (mixP (tk tWide r) k 0 = []) := rfl
  generalize mixP (tk tWide r) k = MP at *
  generalize xr (tk tWide r) k = X at *
  clear hrr hrk hr hk hr1 hb1 hb2
  have s2 := bB.size
  go_loopw [6, 7] (fun v c wr => ∃ i : Nat, i ≤ 8 ∧ c = .int .i64 (i : Int) ∧ wr.ownsRow y2.heap.size 3 1 v (4 * i) (nv (nb (MP i))) ∧ Below y2.heap.size y2 wr) (fun _ c _ => 9 - (intOf c).toNat)
  case atStart => exact ⟨0, Nat.zero_le _, rfl, by rw [HZ.out]; exact World.ownsRow_nil _ _ _ _, Below.refl _ _⟩
  case round =>
    obtain ⟨i, hk8, rfl, hown, hbw⟩ := hrel
    have hrX := range_keep hbw hl2 hr2
    have hbs := hbw.size
    by_cases hlt : i < 8
    · have q0 : (0 : Int) ≤ (i : Int) := by omega
      have q1 : (i : Int) < 8 := by omega
      have cap1 : (48 : Int) ≤ (c2 : Int) := by omega
      have CE : ∀ j, j < 6 → wr.cell? ⟨g2, 6 * i + j, none⟩ = some (.int .i64 ((X.getD (6 * i + j) false).toNat : Int)) := fun j hj => by
        have hl : 6 * i + j < X.length := by rw [hX.out]; omega
        have := range_cell hrX (6 * i + j) (by rw [nb_len]; exact hl)
        rw [nb_get X _ hl, Nat.zero_add] at this
        rw [this, List.getD_eq_getElem?_getD, List.getElem?_eq_getElem hl]; rfl
      have e0 := CE 0 (by decide)
      have e1 := CE 1 (by decide)
      have e2 := CE 2 (by decide)
      have e3 := CE 3 (by decide)
      have e4 := CE 4 (by decide)
      have e5 := CE 5 (by decide)
      rw [Nat.add_zero] at e0
      clear CE
      have GL : Hid (grp X i = [X.getD (6 * i) false, X.getD (6 * i + 1) false, X.getD (6 * i + 2) false, X.getD (6 * i + 3) false, X.getD (6 * i + 4) false, X.getD (6 * i + 5) false]) := grp_list X i hX.out hlt
      generalize X.getD (6 * i) false = b0 at *
      generalize X.getD (6 * i + 1) false = b1 at *
      generalize X.getD (6 * i + 2) false = b2 at *
      generalize X.getD (6 * i + 3) false = b3 at *
      generalize X.getD (6 * i + 4) false = b4 at *
      generalize X.getD (6 * i + 5) false = b5 at *
      have SX : Hid (six i (val (grp X i)) = (boxI i).getD (16 * (2 * b0.toNat + b5.toNat) + (8 * b1.toNat + 4 * b2.toNat + 2 * b3.toNat + b4.toNat)) 0) := (by
        rw [six_box i _ hlt, GL.out, (six_of b0 b1 b2 b3 b4 b5).1, (six_of b0 b1 b2 b3 b4 b5).2] : six i (val (grp X i)) = (boxI i).getD (16 * (2 * b0.toNat + b5.toNat) + (8 * b1.toNat + 4 * b2.toNat + 2 * b3.toNat + b4.toNat)) 0)
      have s16 := six_lt i (val (grp X i))
      have HN : Hid (nv (nb (MP (i + 1))) = nv (nb (MP i)) ++ [.int .i64 ((six i (val (grp X i)) : Int) / 8), .int .i64 ((six i (val (grp X i)) : Int) / 4 % 2), .int .i64 ((six i (val (grp X i)) : Int) / 2 % 2), .int .i64 ((six i (val (grp X i)) : Int) % 2)]) := (by
        rw [HP.out i, nb, List.map_append, ← nb, ← nb, nib_nb ⟨_, s16⟩, nv, List.map_append]
        simp [nv] : nv (nb (MP (i + 1))) = nv (nb (MP i)) ++ [.int .i64 ((six i (val (grp X i)) : Int) / 8), .int .i64 ((six i (val (grp X i)) : Int) / 4 % 2), .int .i64 ((six i (val (grp X i)) : Int) / 2 % 2), .int .i64 ((six i (val (grp X i)) : Int) % 2)])
      generalize six i (val (grp X i)) = sx at *
      have l0 := toNat_le b0
      have l1 := toNat_le b1
      have l2 := toNat_le b2
      have l3 := toNat_le b3
      have l4 := toNat_le b4
      have l5 := toNat_le b5
      generalize b0.toNat = n0 at *
      generalize b1.toNat = n1 at *
      generalize b2.toNat = n2 at *
      generalize b3.toNat = n3 at *
      generalize b4.toNat = n4 at *
      generalize b5.toNat = n5 at *
      have a0 : (n0 : Int) ≤ 1 := by omega
      have a1 : (n1 : Int) ≤ 1 := by omega
      have a2 : (n2 : Int) ≤ 1 := by omega
      have a3 : (n3 : Int) ≤ 1 := by omega
      have a4 : (n4 : Int) ≤ 1 := by omega
      have a5 : (n5 : Int) ≤ 1 := by omega
      have sx1 : (sx : Int) < 16 := by omega
      have sx0 : (0 : Int) ≤ (sx : Int) := by omega
      have BX := fun u => box_ref i hlt u
      have blen : (boxI i).length = 64 := boxI_len i hlt
      clear GL hX HM HP HL HZ s16 hr2 hrX
      have hidx : 16 * (2 * n0 + n5) + (8 * n1 + 4 * n2 + 2 * n3 + n4) < 64 := by omega
      have CB : Hid (∀ u : World, (u.alloc (Obj.cells (nv (boxI i)).toArray 3)).cell? ⟨u.heap.size, 16 * (2 * n0 + n5) + (8 * n1 + 4 * n2 + 2 * n3 + n4), none⟩ = some (.int .i64 (sx : Int))) := (fun u => by
        have := range_cell (tab_range u (boxI i)) (16 * (2 * n0 + n5) + (8 * n1 + 4 * n2 + 2 * n3 + n4)) (by rw [blen]; exact hidx)
        rw [Nat.zero_add] at this
        rw [this, SX.out, List.getD_eq_getElem?_getD, List.getElem?_eq_getElem (by rw [blen]; exact hidx)]; rfl : ∀ u : World, (u.alloc (Obj.cells (nv (boxI i)).toArray 3)).cell? ⟨u.heap.size, 16 * (2 * n0 + n5) + (8 * n1 + 4 * n2 + 2 * n3 + n4), none⟩ = some (.int .i64 (sx : Int)))
      have t1 : (16 * (2 * (n0 : Int) + (n5 : Int)) + (8 * (n1 : Int) + 4 * (n2 : Int) + 2 * (n3 : Int) + (n4 : Int))).toNat = 16 * (2 * n0 + n5) + (8 * n1 + 4 * n2 + 2 * n3 + n4) := by omega
      have t2 : 16 * (2 * (n0 : Int) + (n5 : Int)) + (8 * (n1 : Int) + 4 * (n2 : Int) + 2 * (n3 : Int) + (n4 : Int)) < 64 := by omega
      have t3 : (0 : Int) ≤ 16 * (2 * (n0 : Int) + (n5 : Int)) + (8 * (n1 : Int) + 4 * (n2 : Int) + 2 * (n3 : Int) + (n4 : Int)) := by omega
      clear SX blen l0 l1 l2 l3 l4 l5
      go_wp2_with fail
      go_region
      go_wp2_with fail
      go_region
      go_wp2_with (first
        | (go_at_call 114; refine (BX _).mono ?_; rintro e y ⟨rfl, rfl⟩; have cN := CB.out wr)
        | (at_builtin; refine wpList_append_lies _ rfl _ _ _ rfl y2.heap.size 3 i0 _ 1 8 Try.underlying58 hi hz0 hz1 hz2 rfl (by omega) _ (4 * i) _ rfl ((((hown.alloc _).alloc _).drew).drew) ⟨wr.heap.size + 1, 0, none⟩ 4 4 _ rfl (by rfl) (World.news_of_block (h2_1 wr _ _)) (by simp [Value.oneCell']) (by omega) (by unfold maxLen; omega) (by omega) (by first | omega | (simp <;> omega)) (wr.heap.size + 2) (by simp) ?_; intro gg cap w1 hown1 hgrow hat hlt1))
      exact ⟨⟨i + 1, hlt, by simp, owns_len hown1 rfl (by omega) HN.out.symm, ((((hbw.alloc hbs _).alloc (by simp; omega) _).drew).drew).grown hgrow (by simp; omega) (own_ge hown)⟩, by simp only [intOf]; omega⟩
    · obtain rfl : i = 8 := by omega
      have HL8 := HL.out 8
      obtain ⟨g3, c3, rfl, hB3, hg3, hcap3, hr3⟩ := own_range hown (by decide)
      clear hrX hr2 HP HL HZ hX hown
      go_wp2_with (first
        | (go_at_call 115; refine (tabP_ref _).mono ?_; rintro e y ⟨rfl, rfl⟩)
        | (go_at_call 97; refine (take_ref tP (nb (MP 8)) wr.heap.size g3 0 32 32 32 c3 rfl (by rw [nb_len]; exact HL8) (by decide) (by decide) (by decide) p_ok _ (by simp) (by simp; omega) (tab_range wr tP) (range_keep (below_one wr _) hg3 hr3)).mono ?_; rintro e y4 ⟨g4, c4, rfl, hg4, hl4, hcp4, hr4, hb4⟩; rw [tkN_nb] at hr4))
      go_ret
      exact ⟨g4, c4, rfl, by have := hbw.size; have h5 : wr.heap.size ≤ g4 := Nat.le_trans (by simp) hg4; omega, hl4, hcp4, by rw [HM.out]; exact hr4, keepB (keepB bB hbw) (keepB (below_one wr _) hb4)⟩
end Go.Proofs.Ytciblmdpngnakaa.Rm
