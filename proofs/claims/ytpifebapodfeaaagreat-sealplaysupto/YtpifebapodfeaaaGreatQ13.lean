import Derived.Test.YtpifebapodfeaaaGreatQ11
import Derived.Test.YtpifebapodfeaaaGreatQ01
import Derived.Test.YtpifebapodfeaaaGreatQ12
import Derived.Test.YtpifebapodfeaaaGreatQ03
import Derived.Test.YtpifebapodfeaaaGreatQ07
import Derived.Test.YtpifebapodfeaaaGreatQ06
/- The document's boxes. -/
namespace Go.Proofs.YtpifebapodfeaaaGreat.Rx
set_option linter.unusedVariables false
open Go.RowKit Pla Cb Rb
def boxI (i : Nat) : List Nat := (boxL.drop (64 * i)).take 64
set_option maxRecDepth 100000 in
set_option maxHeartbeats 1600000 in
theorem box0 (w : World) : Calls Tryz.prog 115 #[.int .i64 0] w fun e w' => e = .returned (.slice (some ⟨w.heap.size, 0, none⟩) 64 64) ∧ w' = w.alloc (Obj.cells (nv (boxI 0)).toArray 3) := by
  go_enter Tryz.func115, Tryz.ntmps115
  go_wp2
  go_ret
  exact ⟨rfl, by kernel_rfl⟩
set_option maxRecDepth 100000 in
set_option maxHeartbeats 1600000 in
theorem box1 (w : World) : Calls Tryz.prog 115 #[.int .i64 1] w fun e w' => e = .returned (.slice (some ⟨w.heap.size, 0, none⟩) 64 64) ∧ w' = w.alloc (Obj.cells (nv (boxI 1)).toArray 3) := by
  go_enter Tryz.func115, Tryz.ntmps115
  go_wp2
  go_ret
  exact ⟨rfl, by kernel_rfl⟩
set_option maxRecDepth 100000 in
set_option maxHeartbeats 1600000 in
theorem box2 (w : World) : Calls Tryz.prog 115 #[.int .i64 2] w fun e w' => e = .returned (.slice (some ⟨w.heap.size, 0, none⟩) 64 64) ∧ w' = w.alloc (Obj.cells (nv (boxI 2)).toArray 3) := by
  go_enter Tryz.func115, Tryz.ntmps115
  go_wp2
  go_ret
  exact ⟨rfl, by kernel_rfl⟩
set_option maxRecDepth 100000 in
set_option maxHeartbeats 1600000 in
theorem box3 (w : World) : Calls Tryz.prog 115 #[.int .i64 3] w fun e w' => e = .returned (.slice (some ⟨w.heap.size, 0, none⟩) 64 64) ∧ w' = w.alloc (Obj.cells (nv (boxI 3)).toArray 3) := by
  go_enter Tryz.func115, Tryz.ntmps115
  go_wp2
  go_ret
  exact ⟨rfl, by kernel_rfl⟩
set_option maxRecDepth 100000 in
set_option maxHeartbeats 1600000 in
theorem box4 (w : World) : Calls Tryz.prog 115 #[.int .i64 4] w fun e w' => e = .returned (.slice (some ⟨w.heap.size, 0, none⟩) 64 64) ∧ w' = w.alloc (Obj.cells (nv (boxI 4)).toArray 3) := by
  go_enter Tryz.func115, Tryz.ntmps115
  go_wp2
  go_ret
  exact ⟨rfl, by kernel_rfl⟩
set_option maxRecDepth 100000 in
set_option maxHeartbeats 1600000 in
theorem box5 (w : World) : Calls Tryz.prog 115 #[.int .i64 5] w fun e w' => e = .returned (.slice (some ⟨w.heap.size, 0, none⟩) 64 64) ∧ w' = w.alloc (Obj.cells (nv (boxI 5)).toArray 3) := by
  go_enter Tryz.func115, Tryz.ntmps115
  go_wp2
  go_ret
  exact ⟨rfl, by kernel_rfl⟩
set_option maxRecDepth 100000 in
set_option maxHeartbeats 1600000 in
theorem box6 (w : World) : Calls Tryz.prog 115 #[.int .i64 6] w fun e w' => e = .returned (.slice (some ⟨w.heap.size, 0, none⟩) 64 64) ∧ w' = w.alloc (Obj.cells (nv (boxI 6)).toArray 3) := by
  go_enter Tryz.func115, Tryz.ntmps115
  go_wp2
  go_ret
  exact ⟨rfl, by kernel_rfl⟩
set_option maxRecDepth 100000 in
set_option maxHeartbeats 1600000 in
theorem box7 (w : World) : Calls Tryz.prog 115 #[.int .i64 7] w fun e w' => e = .returned (.slice (some ⟨w.heap.size, 0, none⟩) 64 64) ∧ w' = w.alloc (Obj.cells (nv (boxI 7)).toArray 3) := by
  go_enter Tryz.func115, Tryz.ntmps115
  go_wp2
  go_ret
  exact ⟨rfl, by kernel_rfl⟩
theorem box_ref (i : Nat) (h : i < 8) (w : World) : Calls Tryz.prog 115 #[.int .i64 (i : Int)] w fun e w' => e = .returned (.slice (some ⟨w.heap.size, 0, none⟩) 64 64) ∧ w' = w.alloc (Obj.cells (nv (boxI i)).toArray 3) := by
  have : i = 0 ∨ i = 1 ∨ i = 2 ∨ i = 3 ∨ i = 4 ∨ i = 5 ∨ i = 6 ∨ i = 7 := by omega
  rcases this with rfl | rfl | rfl | rfl | rfl | rfl | rfl | rfl
  · exact box0 w
  · exact box1 w
  · exact box2 w
  · exact box3 w
  · exact box4 w
  · exact box5 w
  · exact box6 w
  · exact box7 w
end Go.Proofs.YtpifebapodfeaaaGreat.Rx
/- F of the chapter, the document's. -/
namespace Go.Proofs.YtpifebapodfeaaaGreat.Rm
set_option linter.unusedVariables false
open Go.RowKit Pla Cb Sm Rb Rs Rt Rx Mx
open Lib0 (owns_len own_ge below_app below_app0)
theorem tab_range (w : World) (t : List Nat) : (w.alloc (Obj.cells (nv t).toArray 3)).rangeAt w.heap.size 0 (nv t) := by
  refine range_of (h1_0 w _) 0 _ fun j v hv => ?_
  rw [Nat.zero_add, List.getElem?_toArray]; exact hv
/-- the place in a box of six bits -/
def rowN (a b : Nat) : Nat := 2 * a + b
def plcN (a b c d : Nat) : Nat := 8 * a + 4 * b + 2 * c + d
theorem six_of : ∀ (a b c d e f : Bool), (2 * ((val [a, b, c, d, e, f]) / 32 % 2) + (val [a, b, c, d, e, f]) % 2 = 2 * a.toNat + f.toNat) ∧ (val [a, b, c, d, e, f] / 2 % 16 = 8 * b.toNat + 4 * c.toNat + 2 * d.toNat + e.toNat) := by decide
theorem grp_list (x : List Bool) (i : Nat) (hx : x.length = 48) (hi : i < 8) : grp x i = [x.getD (6 * i) false, x.getD (6 * i + 1) false, x.getD (6 * i + 2) false, x.getD (6 * i + 3) false, x.getD (6 * i + 4) false, x.getD (6 * i + 5) false] := by
  apply List.ext_getElem?
  intro j
  have hl := Tk.grp_len x i hx hi
  by_cases hj : j < 6
  · have e : x[6 * i + j]? = some (x.getD (6 * i + j) false) := by rw [List.getD_eq_getElem?_getD, List.getElem?_eq_getElem (by omega)]; rfl
    rw [grp, List.getElem?_take_of_lt hj, List.getElem?_drop, e]
    have : j = 0 ∨ j = 1 ∨ j = 2 ∨ j = 3 ∨ j = 4 ∨ j = 5 := by omega
    rcases this with rfl | rfl | rfl | rfl | rfl | rfl <;> rfl
  · rw [List.getElem?_eq_none (by omega), List.getElem?_eq_none (by simp; omega)]
theorem six_box (i v : Nat) (hi : i < 8) : six i v = (boxI i).getD (16 * (2 * (v / 32 % 2) + v % 2) + v / 2 % 16) 0 := by
  have h : 16 * (2 * (v / 32 % 2) + v % 2) + v / 2 % 16 < 64 := by omega
  rw [six, boxI, List.getD_eq_getElem?_getD, List.getD_eq_getElem?_getD, List.getElem?_take_of_lt h, List.getElem?_drop, Nat.add_assoc]
theorem boxI_len (i : Nat) (h : i < 8) : (boxI i).length = 64 := by
  rw [boxI, List.length_take, List.length_drop, box_len]; omega
theorem nib_nb : ∀ n : Fin 16, nb (nib n.val) = [n.val / 8, n.val / 4 % 2, n.val / 2 % 2, n.val % 2] := by decide
set_option maxRecDepth 100000 in
set_option maxHeartbeats 3200000 in
theorem mixed_ref (r k : List Bool) (gr orr gk nk cr ck : Nat) (hr : Hid (r.length = 32)) (hk : Hid (k.length = 48)) (w : World) (hgr : gr < w.heap.size) (hgk : gk < w.heap.size) (hrr : w.rangeAt gr orr (nv (nb r))) (hrk : w.rangeAt gk 0 (nv (nb k))) :
    Calls Tryz.prog 103 #[.slice (some ⟨gr, orr, none⟩) 32 cr, .slice (some ⟨gk, 0, none⟩) 48 ck] w (New w (nb (mix r k)) 32) := by
  obtain ⟨i0, hi, hz0, hz1, hz2⟩ := info_parts infoI
  go_enter Tryz.func103, Tryz.ntmps103
  go_wp2_with (first
    | (go_at_call 114; refine (tabWide_ref _).mono ?_; rintro e y ⟨rfl, rfl⟩)
    | (go_at_call 100; refine (take_ref tWide (nb r) w.heap.size gr orr 48 32 48 cr rfl (by rw [nb_len]; exact hr) (by decide) (by decide) (by decide) wide_ok _ (by simp) (by simp; omega) (tab_range w tWide) (range_keep (below_one w _) hgr hrr)).mono ?_; rintro e y1 ⟨g1, c1, rfl, hg1, hl1, hcp1, hr1, hb1⟩; rw [tkN_nb] at hr1)
    | (go_at_call 104; refine (sum_ref (tk tWide r) k g1 0 gk 0 48 c1 ck (tk_len _ _) hk (by decide) (by decide) y1 hl1 (Nat.lt_of_lt_of_le hgk (Nat.le_trans (by simp) hb1.size)) hr1 (range_keep (keepB (below_one w _) hb1) hgk hrk)).mono ?_; rintro e y2 ⟨g2, c2, rfl, hg2, hl2, hcp2, hr2, hb2⟩))
  have bB : Below w.heap.size w y2 := keepB (keepB (below_one w _) hb1) hb2
  have hX : Hid ((xr (tk tWide r) k).length = 48) := xr_len _ _ 48 (tk_len _ _) hk.out
  have HM : Hid (mix r k = tk tP (mixP (tk tWide r) k 8)) := rfl
  have HP : Hid (∀ j, mixP (tk tWide r) k (j + 1) = mixP (tk tWide r) k j ++ nib (six j (val (grp (xr (tk tWide r) k) j)))) := (fun j => by simp [mixP, List.range_succ] : ∀ j, mixP (tk tWide r) k (j + 1) = mixP (tk tWide r) k j ++ nib (six j (val (grp (xr (tk tWide r) k) j))))
  have HL : Hid (∀ j, (mixP (tk tWide r) k j).length = 4 * j) := mixP_len (tk tWide r) k
  have HZ : Hid (mixP (tk tWide r) k 0 = []) := rfl
  generalize mixP (tk tWide r) k = MP at *
  generalize xr (tk tWide r) k = X at *
  clear hrr hrk hr hk hr1 hb1 hb2
  have s2 := bB.size
  go_loopw [6, 7] (fun v c wr => ∃ i : Nat, i ≤ 8 ∧ c = .int .i64 (i : Int) ∧ wr.ownsRow y2.heap.size 3 1 v (4 * i) (nv (nb (MP i))) ∧ Below y2.heap.size y2 wr) (fun _ c _ => 9 - (intOf c).toNat)
  case atStart => exact ⟨0, Nat.zero_le _, rfl, by rw [HZ.out]; exact World.ownsRow_nil _ _ _ _, Below.refl _ _⟩
  case round =>
    obtain ⟨i, hk8, rfl, hown, hbw⟩ := hrel
    have hrX := range_keep hbw hl2 hr2
    have hbs := hbw.size
    by_cases hlt : i < 8
    · have q0 : (0 : Int) ≤ (i : Int) := by omega
      have q1 : (i : Int) < 8 := by omega
      have cap1 : (48 : Int) ≤ (c2 : Int) := by omega
      have CE : ∀ j, j < 6 → wr.cell? ⟨g2, 6 * i + j, none⟩ = some (.int .i64 ((X.getD (6 * i + j) false).toNat : Int)) := fun j hj => by
        have hl : 6 * i + j < X.length := by rw [hX.out]; omega
        have := range_cell hrX (6 * i + j) (by rw [nb_len]; exact hl)
        rw [nb_get X _ hl, Nat.zero_add] at this
        rw [this, List.getD_eq_getElem?_getD, List.getElem?_eq_getElem hl]; rfl
      have e0 := CE 0 (by decide)
      have e1 := CE 1 (by decide)
      have e2 := CE 2 (by decide)
      have e3 := CE 3 (by decide)
      have e4 := CE 4 (by decide)
      have e5 := CE 5 (by decide)
      rw [Nat.add_zero] at e0
      clear CE
      have GL : Hid (grp X i = [X.getD (6 * i) false, X.getD (6 * i + 1) false, X.getD (6 * i + 2) false, X.getD (6 * i + 3) false, X.getD (6 * i + 4) false, X.getD (6 * i + 5) false]) := grp_list X i hX.out hlt
      generalize X.getD (6 * i) false = b0 at *
      generalize X.getD (6 * i + 1) false = b1 at *
      generalize X.getD (6 * i + 2) false = b2 at *
      generalize X.getD (6 * i + 3) false = b3 at *
      generalize X.getD (6 * i + 4) false = b4 at *
      generalize X.getD (6 * i + 5) false = b5 at *
      have SX : Hid (six i (val (grp X i)) = (boxI i).getD (16 * (2 * b0.toNat + b5.toNat) + (8 * b1.toNat + 4 * b2.toNat + 2 * b3.toNat + b4.toNat)) 0) := (by
        rw [six_box i _ hlt, GL.out, (six_of b0 b1 b2 b3 b4 b5).1, (six_of b0 b1 b2 b3 b4 b5).2] : six i (val (grp X i)) = (boxI i).getD (16 * (2 * b0.toNat + b5.toNat) + (8 * b1.toNat + 4 * b2.toNat + 2 * b3.toNat + b4.toNat)) 0)
      have s16 := six_lt i (val (grp X i))
      have HN : Hid (nv (nb (MP (i + 1))) = nv (nb (MP i)) ++ [.int .i64 ((six i (val (grp X i)) : Int) / 8), .int .i64 ((six i (val (grp X i)) : Int) / 4 % 2), .int .i64 ((six i (val (grp X i)) : Int) / 2 % 2), .int .i64 ((six i (val (grp X i)) : Int) % 2)]) := (by
        rw [HP.out i, nb, List.map_append, ← nb, ← nb, nib_nb ⟨_, s16⟩, nv, List.map_append]
        simp [nv] : nv (nb (MP (i + 1))) = nv (nb (MP i)) ++ [.int .i64 ((six i (val (grp X i)) : Int) / 8), .int .i64 ((six i (val (grp X i)) : Int) / 4 % 2), .int .i64 ((six i (val (grp X i)) : Int) / 2 % 2), .int .i64 ((six i (val (grp X i)) : Int) % 2)])
      generalize six i (val (grp X i)) = sx at *
      have l0 := toNat_le b0
      have l1 := toNat_le b1
      have l2 := toNat_le b2
      have l3 := toNat_le b3
      have l4 := toNat_le b4
      have l5 := toNat_le b5
      generalize b0.toNat = n0 at *
      generalize b1.toNat = n1 at *
      generalize b2.toNat = n2 at *
      generalize b3.toNat = n3 at *
      generalize b4.toNat = n4 at *
      generalize b5.toNat = n5 at *
      have a0 : (n0 : Int) ≤ 1 := by omega
      have a1 : (n1 : Int) ≤ 1 := by omega
      have a2 : (n2 : Int) ≤ 1 := by omega
      have a3 : (n3 : Int) ≤ 1 := by omega
      have a4 : (n4 : Int) ≤ 1 := by omega
      have a5 : (n5 : Int) ≤ 1 := by omega
      have sx1 : (sx : Int) < 16 := by omega
      have sx0 : (0 : Int) ≤ (sx : Int) := by omega
      have BX := fun u => box_ref i hlt u
      have blen : (boxI i).length = 64 := boxI_len i hlt
      clear GL hX HM HP HL HZ s16 hr2 hrX
      have hidx : 16 * (2 * n0 + n5) + (8 * n1 + 4 * n2 + 2 * n3 + n4) < 64 := by omega
      have CB : Hid (∀ u : World, (u.alloc (Obj.cells (nv (boxI i)).toArray 3)).cell? ⟨u.heap.size, 16 * (2 * n0 + n5) + (8 * n1 + 4 * n2 + 2 * n3 + n4), none⟩ = some (.int .i64 (sx : Int))) := (fun u => by
        have := range_cell (tab_range u (boxI i)) (16 * (2 * n0 + n5) + (8 * n1 + 4 * n2 + 2 * n3 + n4)) (by rw [blen]; exact hidx)
        rw [Nat.zero_add] at this
        rw [this, SX.out, List.getD_eq_getElem?_getD, List.getElem?_eq_getElem (by rw [blen]; exact hidx)]; rfl : ∀ u : World, (u.alloc (Obj.cells (nv (boxI i)).toArray 3)).cell? ⟨u.heap.size, 16 * (2 * n0 + n5) + (8 * n1 + 4 * n2 + 2 * n3 + n4), none⟩ = some (.int .i64 (sx : Int)))
      have t1 : (16 * (2 * (n0 : Int) + (n5 : Int)) + (8 * (n1 : Int) + 4 * (n2 : Int) + 2 * (n3 : Int) + (n4 : Int))).toNat = 16 * (2 * n0 + n5) + (8 * n1 + 4 * n2 + 2 * n3 + n4) := by omega
      have t2 : 16 * (2 * (n0 : Int) + (n5 : Int)) + (8 * (n1 : Int) + 4 * (n2 : Int) + 2 * (n3 : Int) + (n4 : Int)) < 64 := by omega
      have t3 : (0 : Int) ≤ 16 * (2 * (n0 : Int) + (n5 : Int)) + (8 * (n1 : Int) + 4 * (n2 : Int) + 2 * (n3 : Int) + (n4 : Int)) := by omega
      clear SX blen l0 l1 l2 l3 l4 l5
      go_wp2_with fail
      go_region
      go_wp2_with fail
      go_region
      go_wp2_with (first
        | (go_at_call 115; refine (BX _).mono ?_; rintro e y ⟨rfl, rfl⟩; have cN := CB.out wr)
        | (at_builtin; refine wpList_append_lies _ rfl _ _ _ rfl y2.heap.size 3 i0 _ 1 8 Tryz.underlying25 hi hz0 hz1 hz2 rfl (by omega) _ (4 * i) _ rfl ((((hown.alloc _).alloc _).drew).drew) ⟨wr.heap.size + 1, 0, none⟩ 4 4 _ rfl (by rfl) (World.news_of_block (h2_1 wr _ _)) (by simp [Value.oneCell']) (by omega) (by unfold maxLen; omega) (by omega) (by first | omega | (simp <;> omega)) (wr.heap.size + 2) (by simp) ?_; intro gg cap w1 hown1 hgrow hat hlt1))
      exact ⟨⟨i + 1, hlt, by simp, owns_len hown1 rfl (by omega) HN.out.symm, ((((hbw.alloc hbs _).alloc (by simp; omega) _).drew).drew).grown hgrow (by simp; omega) (own_ge hown)⟩, by simp only [intOf]; omega⟩
    · obtain rfl : i = 8 := by omega
      have HL8 := HL.out 8
      obtain ⟨g3, c3, rfl, hB3, hg3, hcap3, hr3⟩ := own_range hown (by decide)
      clear hrX hr2 HP HL HZ hX hown
      go_wp2_with (first
        | (go_at_call 116; refine (tabP_ref _).mono ?_; rintro e y ⟨rfl, rfl⟩)
        | (go_at_call 100; refine (take_ref tP (nb (MP 8)) wr.heap.size g3 0 32 32 32 c3 rfl (by rw [nb_len]; exact HL8) (by decide) (by decide) (by decide) p_ok _ (by simp) (by simp; omega) (tab_range wr tP) (range_keep (below_one wr _) hg3 hr3)).mono ?_; rintro e y4 ⟨g4, c4, rfl, hg4, hl4, hcp4, hr4, hb4⟩; rw [tkN_nb] at hr4))
      go_ret
      exact ⟨g4, c4, rfl, by have := hbw.size; have h5 : wr.heap.size ≤ g4 := Nat.le_trans (by simp) hg4; omega, hl4, hcp4, by rw [HM.out]; exact hr4, keepB (keepB bB hbw) (keepB (below_one wr _) hb4)⟩
end Go.Proofs.YtpifebapodfeaaaGreat.Rm
/- One block under 8 bytes of key, the document's. -/
namespace Go.Proofs.YtpifebapodfeaaaGreat.Ro
set_option linter.unusedVariables false
open Go.RowKit Pla Cb Sm Rb Rs Rt Rm
open Rr (sv range_piece news_nv nv_one nv_app own_lt range_own rounds_ref)
open Lib0 (owns_len own_ge below_app below_app0)
/-- the round keys, there or back -/
def ord (ks : List (List Bool)) (back : Bool) : List (List Bool) := if back then ks.reverse else ks
theorem ord_len (ks : List (List Bool)) (back : Bool) : (ord ks back).length = ks.length := by unfold ord; split <;> simp
theorem ord_get (ks : List (List Bool)) (h : ks.length = 16) (i : Nat) (hi : i < 16) (back : Bool) : (ord ks back).getD i [] = ks.getD (if back then 15 - i else i) [] := by
  cases back
  · rfl
  · rw [ord, if_pos rfl, if_pos rfl, List.getD_eq_getElem?_getD, List.getD_eq_getElem?_getD, List.getElem?_reverse (by omega), h]
set_option maxRecDepth 100000 in
set_option maxHeartbeats 3200000 in
theorem one_ref (k s : ByteArray) (back : Bool) (hk : Hid (k.size = 8)) (hs : Hid (s.size = 8)) (w : World) :
    Calls Tryz.prog 84 #[.string k, .string s, .bool back] w fun e w' => e = .returned (.string ⟨(byW (des (ord (sched (bitsS k.data.toList)) back) (bitsS s.data.toList))).toArray⟩) ∧ Below w.heap.size w w' := by
  have RO := rounds_ref k hk
  have BI := fun u => bits_ref s (by rw [hs.out]; decide) (by rw [hs.out]; decide) u
  rw [hs.out] at BI
  have hlb : Hid ((bitsS s.data.toList).length = 64) := (by rw [bitsS_len, show s.data.toList.length = s.size by simp, hs.out] : (bitsS s.data.toList).length = 64)
  have hks : (sched (bitsS k.data.toList)).length = 16 := by simp [sched]
  have hkr : Hid (∀ i, i < 16 → (ord (sched (bitsS k.data.toList)) back).getD i [] = rk (bitsS k.data.toList) (if back then 15 - i else i)) := (fun i hi => by
    rw [ord_get _ hks i hi, sched, List.getD_eq_getElem?_getD, List.getElem?_map, List.getElem?_range (by split <;> omega)]; rfl : ∀ i, i < 16 → (ord (sched (bitsS k.data.toList)) back).getD i [] = rk (bitsS k.data.toList) (if back then 15 - i else i))
  have hko : Hid ((ord (sched (bitsS k.data.toList)) back).length = 16) := (by rw [ord_len, hks] : (ord (sched (bitsS k.data.toList)) back).length = 16)
  have hrl : Hid (∀ i, (rk (bitsS k.data.toList) i).length = 48) := (fun i => rk_len _ _ : ∀ i, (rk (bitsS k.data.toList) i).length = 48)
  generalize rk (bitsS k.data.toList) = R at *
  generalize ord (sched (bitsS k.data.toList)) back = ks at *
  generalize bitsS s.data.toList = x at *
  clear hk hs hks
  go_enter Tryz.func84, Tryz.ntmps84
  go_wp2_with (first
    | (go_at_call 99; refine (RO _).mono ?_; rintro e y1 ⟨L, g1, c1, rfl, hc1, hg1, hLl, hr1, hL, hb1⟩)
    | (go_at_call 101; refine (tabIn_ref _).mono ?_; rintro e y ⟨rfl, rfl⟩)
    | (go_at_call 102; refine (BI _).mono ?_; rintro e y2 ⟨g2, c2, rfl, hg2, hl2, hcp2, hr2, hb2⟩)
    | (go_at_call 100; refine (take_ref tIn (nb x) y1.heap.size g2 0 64 64 64 c2 rfl (by rw [nb_len]; exact hlb) (by decide) (by decide) (by decide) En.in_ok _ (Nat.lt_of_lt_of_le (by simp) hb2.size) hl2 (range_keep hb2 (by simp) (tab_range y1 tIn)) hr2).mono ?_; rintro e y3 ⟨g3, c3, rfl, hg3, hl3, hcp3, hr3, hb3⟩; rw [tkN_nb] at hr3))
  have bB : Below w.heap.size w y3 := keepB hb1 (keepB (keepB (below_one y1 _) hb2) hb3)
  have b13 : Below y1.heap.size y1 y3 := keepB (keepB (below_one y1 _) hb2) hb3
  have hrl0 := range_piece hr3 0 32
  have hrr0 := range_piece hr3 32 32
  rw [List.drop_zero] at hrl0
  have ec : (tk tIn x).take 32 = (En.st ks x 0).1 := rfl
  have ed : ((tk tIn x).drop 32).take 32 = (En.st ks x 0).2 := by
    show _ = (tk tIn x).drop 32
    rw [List.take_of_length_le (by rw [List.length_drop, tk_len]; decide)]
  rw [ec] at hrl0
  rw [ed] at hrr0
  rw [Nat.zero_add] at hrr0
  have slen := En.st_len ks x
  have CK : Hid (∀ m, m < 16 → ∃ p, L[m]? = some p ∧ (∀ u, Below y3.heap.size y3 u → u.cell? ⟨g1, m, none⟩ = some (.slice (some ⟨p.1, 0, none⟩) 48 p.2) ∧ p.1 < u.heap.size ∧ u.rangeAt p.1 0 (nv (nb (R m))))) := (fun m hm => by
    have hmL : m < L.length := by omega
    refine ⟨L[m], List.getElem?_eq_getElem hmL, fun u hu => ?_⟩
    have hu1 : Below y1.heap.size y1 u := keepB b13 hu
    obtain ⟨q1, q2⟩ := hL m L[m] (List.getElem?_eq_getElem hmL)
    refine ⟨?_, Nat.lt_of_lt_of_le q1 hu1.size, range_keep hu1 q1 q2⟩
    have := hr1 m (.slice (some ⟨L[m].1, 0, none⟩) 48 L[m].2) (by simp [sv, hmL])
    rw [Nat.zero_add] at this
    rw [← this]
    exact hu1.cell hg1 : ∀ m, m < 16 → ∃ p, L[m]? = some p ∧ (∀ u, Below y3.heap.size y3 u → u.cell? ⟨g1, m, none⟩ = some (.slice (some ⟨p.1, 0, none⟩) 48 p.2) ∧ p.1 < u.heap.size ∧ u.rangeAt p.1 0 (nv (nb (R m)))))
  clear ec ed hr3 hr2 hb1 hb2 hb3 BI RO hr1 hL hLl b13
  go_loopw [9, 10, 11] (fun vl vr c wr => ∃ j : Nat, j ≤ 16 ∧ c = .int .i64 (j : Int) ∧ ∃ gl ol cl gr orr cr, vl = .slice (some ⟨gl, ol, none⟩) 32 cl ∧ vr = .slice (some ⟨gr, orr, none⟩) 32 cr ∧ gl < wr.heap.size ∧ gr < wr.heap.size ∧ wr.rangeAt gl ol (nv (nb (En.st ks x j).1)) ∧ wr.rangeAt gr orr (nv (nb (En.st ks x j).2)) ∧ Below y3.heap.size y3 wr) (fun _ _ c _ => 17 - (intOf c).toNat)
  case atStart => exact ⟨0, Nat.zero_le _, rfl, g3, 0, c3, g3, 32, c3 - 32, rfl, rfl, hl3, hl3, hrl0, hrr0, Below.refl _ _⟩
  case round =>
    obtain ⟨j, hj, rfl, gl, ol, cl, gr, orr, cr, rfl, rfl, hgl, hgr, hrl1, hrr1, hbw⟩ := hrel
    by_cases hlt : j < 16
    · have q0 : (0 : Int) ≤ (j : Int) := by omega
      have q1 : (j : Int) < 16 := by omega
      have HS : Hid ((En.st ks x (j + 1)).1 = (En.st ks x j).2 ∧ (En.st ks x (j + 1)).2 = xr (En.st ks x j).1 (mix (En.st ks x j).2 (R (if back then 15 - j else j)))) := (by
        rw [En.st_succ ks x j (by rw [hko.out]; exact hlt), hkr.out j hlt]; exact ⟨rfl, rfl⟩ : (En.st ks x (j + 1)).1 = (En.st ks x j).2 ∧ (En.st ks x (j + 1)).2 = xr (En.st ks x j).1 (mix (En.st ks x j).2 (R (if back then 15 - j else j))))
      have sl1 : Hid ((En.st ks x j).1.length = 32) := (slen j).1
      have sl2 : Hid ((En.st ks x j).2.length = 32) := (slen j).2
      obtain ⟨p, hp, hpu⟩ := CK.out (if back then 15 - j else j) (by split <;> omega)
      obtain ⟨hc0, hp0, hpr⟩ := hpu wr hbw
      have MX := mixed_ref (En.st ks x j).2 (R (if back then 15 - j else j)) gr orr p.1 0 cr p.2 sl2 (hrl.out _) wr hgr hp0 hrr1 hpr
      have SU := fun gf cf u hgl hgf hrl hrf => sum_ref (En.st ks x j).1 (mix (En.st ks x j).2 (R (if back then 15 - j else j))) gl ol gf 0 32 cl cf sl1 (mix_len _ _) (by decide) (by decide) u hgl hgf hrl hrf
      clear hpu hp CK
      cases back
      · simp only [Bool.false_eq_true, if_false] at HS hc0 hpr MX SU
        clear hpr
        go_wp2_with (first
          | (go_at_call 103; refine MX.mono ?_; rintro e x1 ⟨h1, k1, rfl, m1, n1, o1, p1, b1⟩)
          | (go_at_call 104; refine (SU h1 k1 x1 (Nat.lt_of_lt_of_le hgl b1.size) n1 (range_keep b1 hgl hrl1) p1).mono ?_; rintro e x2 ⟨h2, k2, rfl, m2, n2, o2, p2, b2⟩))
        exact ⟨⟨j + 1, hlt, by simp, gr, orr, cr, h2, 0, k2, rfl, rfl, Nat.lt_of_lt_of_le hgr (Nat.le_trans b1.size b2.size), n2, by rw [HS.out.1]; exact range_keep (keepB b1 b2) hgr hrr1, by rw [HS.out.2]; exact p2, keepB hbw (keepB b1 b2)⟩, by simp only [intOf]; omega⟩
      · simp only [if_true] at HS hc0 hpr MX SU
        have t1 : (15 - (j : Int)).toNat = 15 - j := by omega
        have t2 : (0 : Int) ≤ 15 - (j : Int) := by omega
        have t3 : 15 - (j : Int) < 16 := by omega
        clear hpr
        go_wp2_with (first
          | (go_at_call 103; refine MX.mono ?_; rintro e x1 ⟨h1, k1, rfl, m1, n1, o1, p1, b1⟩)
          | (go_at_call 104; refine (SU h1 k1 x1 (Nat.lt_of_lt_of_le hgl b1.size) n1 (range_keep b1 hgl hrl1) p1).mono ?_; rintro e x2 ⟨h2, k2, rfl, m2, n2, o2, p2, b2⟩))
        exact ⟨⟨j + 1, hlt, by simp, gr, orr, cr, h2, 0, k2, rfl, rfl, Nat.lt_of_lt_of_le hgr (Nat.le_trans b1.size b2.size), n2, by rw [HS.out.1]; exact range_keep (keepB b1 b2) hgr hrr1, by rw [HS.out.2]; exact p2, keepB hbw (keepB b1 b2)⟩, by simp only [intOf]; omega⟩
    · obtain rfl : j = 16 := by omega
      have HD : Hid (des ks x = tk tOut ((En.st ks x 16).2 ++ (En.st ks x 16).1)) := (by
        have e16 : ks.take 16 = ks := List.take_of_length_le (by rw [hko.out]; exact Nat.le_refl _)
        simp only [des, En.st, e16] : des ks x = tk tOut ((En.st ks x 16).2 ++ (En.st ks x 16).1))
      have l1 := (slen 16).1
      have l2 := (slen 16).2
      obtain ⟨i0, hi, hz0, hz1, hz2⟩ := info_parts infoI
      generalize (En.st ks x 16).1 = A1 at *
      generalize (En.st ks x 16).2 = A2 at *
      have BY := fun g o cap u hg hr => bytes_ref (des ks x) g o cap (des_len _ _) u hg hr
      clear CK hkr hko hrl slen
      go_wp2_with (first
        | (at_builtin; refine wpList_append_lies _ rfl _ _ _ rfl wr.heap.size 3 i0 _ 1 8 Tryz.underlying25 hi hz0 hz1 hz2 rfl (by omega) (.slice none 0 0) 0 _ rfl (World.ownsRow_nil _ _ _ _) ⟨gr, orr, none⟩ 32 cr (nv (nb A2)) rfl (by rw [nv_len, nb_len, l2]) (news_nv hrr1) (nv_one _) (by omega) (by unfold maxLen; omega) (by omega) (Nat.le_refl _) wr.heap.size rfl ?_; intro ga ca w1 ow1 gr1 at1 lt1; have B1 : Below wr.heap.size wr w1 := (Below.refl _ _).grown gr1 (Nat.le_refl _) (fun k h => by cases h); have p2' := range_keep B1 hgl hrl1)
        | (at_builtin; refine wpList_append_lies _ rfl _ _ _ rfl wr.heap.size 3 i0 _ 1 8 Tryz.underlying25 hi hz0 hz1 hz2 rfl (by omega) _ 32 _ rfl ow1 ⟨gl, ol, none⟩ 32 cl (nv (nb A1)) rfl (by rw [nv_len, nb_len, l1]) (news_nv p2') (nv_one _) (by omega) (by unfold maxLen; omega) (by omega) B1.size w1.heap.size rfl ?_; intro gb cb w2 ow2 gr2 at2 lt2; have B2 : Below wr.heap.size wr w2 := B1.grown gr2 B1.size (own_ge ow1); obtain ⟨gb', cb', hvb, hB5, hg5, hc5, hr5⟩ := own_range (l := nb (A2 ++ A1)) (owns_len (n' := 64) ow2 rfl rfl (by rw [List.nil_append, nv_app])) (by decide); cases hvb)
        | (go_at_call 106; refine (tabOut_ref _).mono ?_; rintro e u ⟨rfl, rfl⟩)
        | (go_at_call 100; refine (take_ref tOut (nb (A2 ++ A1)) w2.heap.size gb 0 64 64 64 cb rfl (by rw [nb_len, List.length_append, l1, l2]; rfl) (by decide) (by decide) (by decide) En.out_ok _ (by simp) (by simp; omega) (tab_range w2 tOut) (range_keep (below_one w2 _) hg5 hr5)).mono ?_; rintro e x6 ⟨h6, k6, rfl, m6, n6, o6, p6, b6⟩; rw [tkN_nb, ← HD.out] at p6)
        | (go_at_call 105; refine (BY h6 0 k6 x6 n6 p6).mono ?_; rintro e x7 ⟨rfl, b7⟩))
      go_ret
      exact ⟨rfl, keepB (keepB (keepB (keepB bB hbw) B2) (keepB (below_one w2 _) b6)) b7⟩
end Go.Proofs.YtpifebapodfeaaaGreat.Ro
/- What CipherEach asks, out of the contracts. -/
namespace Go.Proofs.YtpifebapodfeaaaGreat.Ea
set_option linter.unusedVariables false
open Go.RowKit Pla Cb Wd Nw Bk Eb Et Cc Ch Pm Bl Xo
theorem bitsN_xor (n x y : Nat) : bitsN n (x ^^^ y) = xr (bitsN n x) (bitsN n y) := by
  simp only [bitsN, xr, Nat.testBit_xor]
  apply List.ext_getElem?
  intro i
  simp only [List.getElem?_zipWith, List.getElem?_map]
  by_cases hi : i < n
  · rw [List.getElem?_range hi]; rfl
  · rw [List.getElem?_eq_none (by simp; omega)]; rfl
theorem bits_xorL : ∀ a b : List UInt8, a.length = b.length → bitsS (xorL a b) = xr (bitsS a) (bitsS b)
  | [], [], _ => rfl
  | x :: a, y :: b, h => by
    have ih := bits_xorL a b (by simpa using h)
    have e : ∀ (p q r s : List Bool), p.length = q.length → xr (p ++ r) (q ++ s) = xr p q ++ xr r s := fun p q r s hpq => by simp only [xr]; exact List.zipWith_append hpq
    simp only [bitsS, xorL, List.zipWith_cons_cons, List.flatMap_cons] at ih ⊢
    rw [ih, UInt8.toNat_xor, bitsN_xor, ← e _ _ _ _ (by rw [bitsN_len, bitsN_len])]
  | [], y :: b, h => by simp at h
  | x :: a, [], h => by simp at h
theorem cat_mk (a b : List UInt8) : (⟨a.toArray⟩ : ByteArray) ++ ⟨b.toArray⟩ = ⟨(a ++ b).toArray⟩ := by
  apply ByteArray.ext
  simp
/-- the bytes ahead of block j -/
def lastB (l : List UInt8) (f t : ByteArray) : Nat → ByteArray
  | 0 => f
  | j + 1 => ⟨(byW (ahd l (bitsS f.data.toList) t.data.toList (j + 1))).toArray⟩
def allB (l : List UInt8) (t : ByteArray) (j : Nat) : ByteArray := ⟨(outN (fun i => enc l (blk t.data.toList i)) j).toArray⟩
def rowB (l : List UInt8) (f t : ByteArray) (j : Nat) : ByteArray := ⟨(outN (fun i => ahd l (bitsS f.data.toList) t.data.toList (i + 1)) j).toArray⟩
def oneB (l : List UInt8) (t : ByteArray) (j : Nat) : ByteArray := ⟨(byW (enc l (blk t.data.toList j))).toArray⟩
def mixB (l : List UInt8) (f t : ByteArray) (j : Nat) : ByteArray := ⟨(byW (xr (blk t.data.toList j) (ahd l (bitsS f.data.toList) t.data.toList j))).toArray⟩
theorem dl (L : List UInt8) : (ByteArray.mk L.toArray).data.toList = L := by simp
theorem szL (L : List UInt8) : (ByteArray.mk L.toArray).size = L.length := by show L.toArray.size = _; simp
theorem last_bits (l : List UInt8) (f t : ByteArray) (j : Nat) : bitsS (lastB l f t j).data.toList = ahd l (bitsS f.data.toList) t.data.toList j := by
  cases j with
  | zero => rfl
  | succ j => rw [lastB, dl, bits_byW _ (ahd_lenS _ _ _ _)]
theorem last_size (l : List UInt8) (f t : ByteArray) (hf : f.size = 8) (j : Nat) : (lastB l f t j).size = 8 := by
  cases j with
  | zero => exact hf
  | succ j => rw [lastB, szL, byW_len]
theorem all_succ (l : List UInt8) (t : ByteArray) (j : Nat) : allB l t j ++ oneB l t j = allB l t (j + 1) := by rw [allB, oneB, cat_mk, allB, outN_succ]
theorem row_succ (l : List UInt8) (f t : ByteArray) (j : Nat) : rowB l f t j ++ lastB l f t (j + 1) = rowB l f t (j + 1) := by rw [rowB, lastB, cat_mk, rowB, outN_succ]
theorem all_size (l : List UInt8) (t : ByteArray) (j : Nat) : (allB l t j).size = 8 * j := by rw [allB, szL, outN_len]
theorem row_size (l : List UInt8) (f t : ByteArray) (j : Nat) : (rowB l f t j).size = 8 * j := by rw [rowB, szL, outN_len]
theorem one_size (l : List UInt8) (t : ByteArray) (j : Nat) : (oneB l t j).size = 8 := by rw [oneB, szL, byW_len]
theorem ext_list (t : ByteArray) (j : Nat) : (t.extract (8 * j) (8 * j + 8)).data.toList = pt t.data.toList j := by
  rw [pt, ByteArray.data_extract, Array.toList_extract, List.extract_eq_take_drop, show 8 * j + 8 - 8 * j = 8 by omega]
theorem map_one (f : List Bool → List Bool) (s : List UInt8) (h : s.length = 8) : mapB f s = byW (f (bitsS s)) := by
  rw [mapB, h, show 8 / 8 = 0 + 1 from rfl, outN_succ, blk, pt, Nat.mul_zero, List.drop_zero, List.take_of_length_le (by omega)]; rfl
variable (l : List UInt8) (K : Nat) (t f : ByteArray) (N : Nat)
theorem enc_piece (hK : kindN l.length = K ∧ 1 ≤ K) (hN : t.size = 8 * N) (j : Nat) (hj : j < N) (g : Nat) (u : World) (hk : Key u g K l) :
    Calls Tryz.prog 39 #[.pointer (some ⟨g, 0, none⟩), .string (t.extract (8 * j) (8 * j + 8))] u (Ret (oneB l t j) u) := by
  have hs : (t.extract (8 * j) (8 * j + 8)).size = 8 * 1 := by rw [ByteArray.size_extract]; omega
  have h := Enc_good (t.extract (8 * j) (8 * j + 8)) g K 1 l u hs (by rw [hs]; decide) hK hk
  rw [map_one _ _ (by rw [len_size, hs]), ext_list] at h
  exact h
theorem enc_mix (hK : kindN l.length = K ∧ 1 ≤ K) (hf : f.size = 8) (hN : t.size = 8 * N) (j : Nat) (hj : j < N) (g : Nat) (u : World) (hk : Key u g K l) :
    Calls Tryz.prog 39 #[.pointer (some ⟨g, 0, none⟩), .string (mixB l f t j)] u (Ret (lastB l f t (j + 1)) u) := by
  have hs : (mixB l f t j).size = 8 * 1 := by rw [mixB, szL, byW_len]
  have h := Enc_good (mixB l f t j) g K 1 l u hs (by rw [hs]; decide) hK hk
  have hb : (blk t.data.toList j).length = 64 := blk_len' t j (by omega)
  rw [map_one _ _ (by rw [len_size, hs]), mixB, dl, bits_byW _ (xr_len _ _ 64 hb (ahd_len l _ (by rw [bitsS_len, len_size, hf]) _ _))] at h
  exact h
theorem enc_whole (hK : kindN l.length = K ∧ 1 ≤ K) (hN : t.size = 8 * N) (hN2 : N ≤ 1000) (g : Nat) (u : World) (hk : Key u g K l) :
    Calls Tryz.prog 39 #[.pointer (some ⟨g, 0, none⟩), .string t] u (Ret (allB l t N) u) := by
  have h := Enc_good t g K N l u hN (by omega) hK hk
  rw [← mapB_N _ t N hN] at h
  exact h
theorem chain_whole (hK : kindN l.length = K ∧ 1 ≤ K) (hf : f.size = 8) (hN : t.size = 8 * N) (hN2 : N ≤ 1000) (g : Nat) (u : World) (hk : Key u g K l) :
    Calls Tryz.prog 36 #[.pointer (some ⟨g, 0, none⟩), .string f, .string t] u (Ret (rowB l f t N) u) := by
  have h := Cha_good f t g K N l u hf hN (by omega) hK hk
  rw [chainL, len_size, hN, show 8 * N / 8 = N by omega] at h
  exact h
end Go.Proofs.YtpifebapodfeaaaGreat.Ea
