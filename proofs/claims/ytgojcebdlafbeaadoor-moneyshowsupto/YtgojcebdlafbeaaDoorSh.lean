/- Show: the program's. -/
import Derived.Test.YtgojcebdlafbeaaDoorSw
import Derived.Test.YtgojcebdlafbeaaDoorPc
import Derived.Test.YtgojcebdlafbeaaDoorMs
import Derived.Test.YtgojcebdlafbeaaDoorShelf
import Derived.Lib.AppendIntMem
import Derived.Deep.QuietTactic
namespace Go.Proofs.YtgojcebdlafbeaaDoor.Sh
set_option linter.unusedVariables false
open Go.RowKit Kb Cp Np Mp Pp Pc Ms Sw
/-- what the library's own variables hold -/
def Gl (w : World) : Prop := Lib.TabIs Tryd.prog w "internal/strconv.uint64pow10" .u64 Lib.pow10Tab ∧ (∃ ev, w.cell? ⟨0, 0, none⟩ = some ev ∧ (ev = .nilIface ∨ ∃ te pe, ev = .iface te pe)) ∧ (∃ ev, w.cell? ⟨1, 0, none⟩ = some ev ∧ (ev = .nilIface ∨ ∃ te pe, ev = .iface te pe)) ∧ ∃ m, w.cell? ⟨2, 0, none⟩ = some (.int .i64 m)
theorem gl_below {w x : World} (h : Gl w) (hb : Below w.heap.size w x) : Gl x := by
  obtain ⟨h1, ⟨e1, c1, k1⟩, ⟨e2, c2, k2⟩, m, c3⟩ := h
  exact ⟨Lib.tabBelow_of_tabIs h1 x hb, ⟨e1, keepC hb c1 (World.block_lt_of_cell? w _ c1), k1⟩, ⟨e2, keepC hb c2 (World.block_lt_of_cell? w _ c2), k2⟩, m, keepC hb c3 (World.block_lt_of_cell? w _ c3)⟩
theorem below_dr {B : Nat} {a w : World} (h : Below B a w) : ∀ n, Below B a (w.drewN n)
  | 0 => h
  | n + 1 => (below_dr h n).drew
theorem below_grow (w : World) (k : Nat) (os : Array Obj) : Below w.heap.size w (Go.Sort.grow (w.drewN k) os) := by
  have h1 : Below w.heap.size w (w.drewN k) := below_dr (Below.refl _ _) k
  have hk : (w.drewN k).heap = w.heap := World.heap_drewN w k
  refine h1.trans ⟨rfl, rfl, rfl, by simp [Go.Sort.grow], fun j hj => ?_⟩
  show ((w.drewN k).heap ++ os)[j]? = _
  rw [Array.getElem?_append_left (by rw [hk]; exact hj)]
theorem rep_one (c : Nat) : Lib.repeatL [48] c = List.replicate c 48 := by
  induction c with
  | zero => rfl
  | succ c ih => rw [Lib.repeatL, ih, List.replicate_succ]; rfl
theorem same {x y : World} (h : y = x) : Below x.heap.size x y := by
  subst h; exact Below.refl _ _
theorem itoa_any (n : Nat) (hn : n ≤ 999999999999) (w : World) (hG : Gl w) : Calls Tryd.prog 14 #[.int .i64 (n : Int)] w fun e w' => e = .returned (.string ⟨(Lib.decDigits n).toArray⟩) ∧ Below w.heap.size w w' := by
  refine (Tryd.strconv_Itoa n (by omega) (by omega) w hG.1).mono ?_
  rintro e x ⟨rfl, k, os, rfl⟩
  refine ⟨?_, below_grow w k os⟩
  unfold Lib.itoa; rw [if_neg (by omega)]; simp
theorem repeat_any (c : Nat) (hc : c ≤ 100) (w : World) : Calls Tryd.prog 21 #[.string ⟨#[48]⟩, .int .i64 (c : Int)] w fun e w' => e = .returned (.string ⟨(List.replicate c 48).toArray⟩) ∧ Below w.heap.size w w' := by
  refine (Tryd.strings_Repeat ⟨#[48]⟩ c w (by omega) (by show 1 * c ≤ _; omega)).mono ?_
  rintro e x ⟨rfl, hb⟩
  exact ⟨by rw [show (⟨#[48]⟩ : ByteArray).data.toList = [48] from rfl, rep_one], hb⟩
set_option maxRecDepth 100000 in
set_option maxHeartbeats 400000 in
theorem withPoint_any (n p : Nat) (hn : n ≤ 999999999999) (hp : p ≤ 3) (w : World) : Calls Tryd.prog 13 #[.string ⟨(Lib.decDigits n).toArray⟩, .int .i64 (p : Int)] w fun e w' => e = .returned (.string ⟨(showL n p).toArray⟩) ∧ Below w.heap.size w w' := by
  have h13 := nd_13 n hn
  have h1 := Lib.nDigits_pos n
  obtain ⟨d, Hd, hds⟩ : ∃ d, Hid (ByteArray.mk (Lib.decDigits n).toArray = d) ∧ d.size = Lib.nDigits n := ⟨_, rfl, by rw [← Lib.decDigits_length]; simp [ByteArray.size]⟩
  rw [Hd.out]
  by_cases h0 : p = 0
  · subst h0
    have HS : Hid (ByteArray.mk (showL n 0).toArray = d) := by show _ = _; rw [showL, if_pos rfl, ← dec_pd, Hd.out]
    rw [HS.out]
    clear HS Hd
    go_enter Tryd.func13, Tryd.ntmps13
    go_wp2
    go_ret
    exact ⟨rfl, Below.refl _ _⟩
  · have z : ((p : Int) == 0) = false := by rw [beq_eq_false_iff_ne]; omega
    have p1 : (p : Int) ≤ 3 := by omega
    have p0 : (1 : Int) ≤ (p : Int) := by omega
    have d1 : (d.size : Int) ≤ 12 := by omega
    have d0 : (1 : Int) ≤ (d.size : Int) := by omega
    have pr := fun w => repeat_any (p + 1 - Lib.nDigits n) (by omega) w
    obtain ⟨z0, Hz⟩ : ∃ z0, Hid (ByteArray.mk (List.replicate (p + 1 - Lib.nDigits n) 48).toArray = z0) := ⟨_, rfl⟩
    rw [Hz.out] at pr
    have HZS : z0.size = p + 1 - Lib.nDigits n := by rw [← Hz.out]; simp [ByteArray.size]
    have hmx : max ((p : Int) + 1 - (Lib.nDigits n : Int)) 0 = ((p + 1 - Lib.nDigits n : Nat) : Int) := by omega
    have hne : ¬ p = 0 := h0
    obtain ⟨L, hL⟩ : ∃ L, z0 ++ d = L := ⟨_, rfl⟩
    have HLP : L = ⟨(pd n (p + 1)).toArray⟩ := by
      rw [← hL, ← Hz.out, ← Hd.out, ← pad_pd]
      apply ByteArray.ext
      rw [ByteArray.data_append]; simp
    obtain ⟨N, hN⟩ : ∃ N, N = max (p + 1) (Lib.nDigits n) := ⟨_, rfl⟩
    have hLs : L.size = N := by rw [HLP, hN, ← pd_length]; simp [ByteArray.size]
    have N1 : (N : Int) ≤ 12 := by omega
    have N2 : (p : Int) + 1 ≤ (N : Int) := by omega
    have HF : Hid (L.extract 0 (N - p) ++ ⟨#[46]⟩ ++ L.extract (N - p) N = ⟨(showL n p).toArray⟩) := by
      show _ = _
      rw [showL, if_neg hne, pd_length, ← hN, HLP]
      apply ByteArray.ext
      rw [ByteArray.data_append, ByteArray.data_append, ByteArray.data_extract, ByteArray.data_extract]
      apply Array.toList_inj.1
      have hpl : (pd n (p + 1)).length = N := by rw [pd_length, hN]
      simp [List.extract_eq_take_drop, ← hpl]
      exact List.take_of_length_le (by rw [List.length_drop]; omega)
    have HLs : Hid (L.size = N) := hLs
    obtain ⟨A, hA⟩ : ∃ A : Nat, (N : Int) - (p : Int) = (A : Int) := ⟨N - p, by omega⟩
    rw [show N - p = A by omega] at HF
    have A1 : (A : Int) ≤ (N : Int) := by omega
    have A2 : A ≤ N := by omega
    have A3 : A ≤ 12 := by omega
    have s1 : ¬ 9223372036854775807 < A + 1 := by omega
    have s2 : ¬ 9223372036854775807 < A + 1 + (N - A) := by omega
    have zs : z0.size ≤ 4 := by omega
    have zd : d.size ≤ 12 := by omega
    have Ls : L.size ≤ 12 := by omega
    clear HLP hN hne Hd Hz hn h13 h1 HZS hp h0
    go_enter Tryd.func13, Tryd.ntmps13
    go_wp2_with fail
    refine (pr _).mono ?_
    rintro e y ⟨rfl, hb⟩
    clear pr hmx
    go_wp2_with fail
    go_quiet (fail)
    go_wp2_with fail
    go_ret
    exact ⟨by rw [← HF.out]; rfl, below_dr hb _⟩
set_option maxRecDepth 100000 in
set_option maxHeartbeats 400000 in
theorem show_ok (n : Nat) (hn : n ≤ 999999999999) (s : ByteArray) (hs : s.size ≤ maxLen) (hE : plE s.data.toList = 0) (w : World) (hG : Gl w) : Calls Tryd.prog 5 #[.int .i64 (n : Int), .string s] w fun e w' => e = .returned (.tuple #[.string ⟨(showL n (plV s.data.toList).toNat).toArray⟩, .int .i64 0]) ∧ Below w.heap.size w w' := by
  have pa := fun w => places_any s hs w
  have pi := fun w => isAmount_any (n : Int) w
  rw [(isA_iff (n : Int)).2 (by omega)] at pi
  rw [hE] at pa
  have vb := plV_bounds s.data.toList
  obtain ⟨p, hp⟩ : ∃ p : Nat, plV s.data.toList = (p : Int) := ⟨(plV s.data.toList).toNat, by omega⟩
  rw [hp] at pa vb ⊢
  rw [Int.toNat_natCast]
  have pw := fun w => withPoint_any n p hn (by omega) w
  have pt := fun w h => itoa_any n hn w h
  obtain ⟨U, hU⟩ : ∃ U : Int, (n : Int) = U := ⟨_, rfl⟩
  rw [hU] at pi pt ⊢
  generalize (⟨(showL n p).toArray⟩ : ByteArray) = R at *
  generalize (⟨(Lib.decDigits n).toArray⟩ : ByteArray) = d at *
  have HG : Hid (Gl w) := hG
  clear hG hE vb hU hn hp
  go_enter Tryd.func5, Tryd.ntmps5
  go_wp2_with fail
  refine (pa _).mono ?_
  rintro e y1 ⟨rfl, b1⟩
  go_wp2_with fail
  refine (pi _).mono ?_
  rintro e y2 ⟨rfl, hy⟩
  have b2 := keepB b1 (same hy)
  clear hy b1
  go_wp2_with fail
  refine (pt _ (gl_below HG.out b2)).mono ?_
  rintro e y3 ⟨rfl, hy⟩
  have b3 := keepB b2 hy
  clear hy b2
  go_wp2_with fail
  refine (pw _).mono ?_
  rintro e y4 ⟨rfl, hy⟩
  have b4 := keepB b3 hy
  clear hy b3
  go_wp2_with fail
  go_ret2
  exact ⟨rfl, b4⟩
/-- Show: the text, the error -/
def swT (u : Int) (s : List UInt8) : ByteArray := if plE s = 0 ∧ isA u = true then ⟨(showL u.toNat (plV s).toNat).toArray⟩ else ⟨#[]⟩
def swE (u : Int) (s : List UInt8) : Int := if plE s = 0 then (if isA u = true then 0 else 71) else 70
set_option maxRecDepth 100000 in
set_option maxHeartbeats 400000 in
theorem show_any (u : Int) (s : ByteArray) (hs : s.size ≤ maxLen) (w : World) (hG : Gl w) : Calls Tryd.prog 5 #[.int .i64 u, .string s] w fun e w' => e = .returned (.tuple #[.string (swT u s.data.toList), .int .i64 (swE u s.data.toList)]) ∧ Below w.heap.size w w' := by
  have pa := fun w => places_any s hs w
  have pi := fun w => isAmount_any u w
  rcases plE_cases s.data.toList with e0 | ⟨e0, v0⟩
  · cases hA : isA u
    · have hT : swT u s.data.toList = ⟨#[]⟩ := by rw [swT, if_neg (by rw [hA]; simp)]
      have hE : swE u s.data.toList = 71 := by rw [swE, if_pos e0, if_neg (by rw [hA]; simp)]
      rw [hT, hE]
      rw [e0] at pa
      rw [hA] at pi
      generalize plV s.data.toList = p at *
      clear hT hE e0 hA hG
      go_enter Tryd.func5, Tryd.ntmps5
      go_wp2_with fail
      refine (pa _).mono ?_
      rintro e y1 ⟨rfl, b1⟩
      go_wp2_with fail
      refine (pi _).mono ?_
      rintro e y2 ⟨rfl, hy⟩
      have b2 := keepB b1 (same hy)
      clear hy b1
      go_wp2_with fail
      go_ret2
      exact ⟨rfl, b2⟩
    · have hu := (isA_iff u).1 hA
      obtain ⟨n, rfl⟩ : ∃ n : Nat, u = (n : Int) := ⟨u.toNat, by omega⟩
      have hT : swT n s.data.toList = ⟨(showL n (plV s.data.toList).toNat).toArray⟩ := by rw [swT, if_pos ⟨e0, hA⟩, Int.toNat_natCast]
      have hE : swE n s.data.toList = 0 := by rw [swE, if_pos e0, if_pos hA]
      rw [hT, hE]
      exact show_ok n (by omega) s hs e0 w hG
  · have hT : swT u s.data.toList = ⟨#[]⟩ := by rw [swT, if_neg (by rw [e0]; simp)]
    have hE : swE u s.data.toList = 70 := by rw [swE, if_neg (by rw [e0]; decide)]
    rw [hT, hE]
    rw [e0] at pa
    generalize plV s.data.toList = p at *
    clear hT hE e0 hG
    go_enter Tryd.func5, Tryd.ntmps5
    go_wp2_with fail
    refine (pa _).mono ?_
    rintro e y1 ⟨rfl, b1⟩
    go_wp2_with fail
    go_ret2
    exact ⟨rfl, b1⟩
end Go.Proofs.YtgojcebdlafbeaaDoor.Sh
