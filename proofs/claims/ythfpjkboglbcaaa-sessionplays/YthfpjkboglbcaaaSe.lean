/- Sessions: the laws' own small functions. -/
import Derived.Test.YthfpjkboglbcaaaSc
import Derived.Test.YthfpjkboglbcaaaPick
namespace Go.Proofs.Ythfpjkboglbcaaa.Se
set_option linter.unusedVariables false
set_option linter.unusedSimpArgs false
open Go.RowKit Lib0 Kb Sp Sa Sc
theorem nothing_no (w : World) : Calls Try.prog 21 #[sayV no] w fun e w' => e = .returned (.bool true) ∧ Below w.heap.size w w' := by
  simp only [sayV, no, asks, gone, t001, t301]
  go_enter Try.func21, Try.ntmps21
  go_wp2_with fail
  go_ret
  exact ⟨rfl, Kb.below_one w _⟩
theorem nothing_001 (w : World) : Calls Try.prog 21 #[sayV (asks t001)] w fun e w' => e = .returned (.bool false) ∧ Below w.heap.size w w' := by
  simp only [sayV, no, asks, gone, t001, t301]
  go_enter Try.func21, Try.ntmps21
  go_wp2_with fail
  go_ret
  exact ⟨rfl, Kb.below_one w _⟩
theorem nothing_301 (w : World) : Calls Try.prog 21 #[sayV (asks t301)] w fun e w' => e = .returned (.bool false) ∧ Below w.heap.size w w' := by
  simp only [sayV, no, asks, gone, t001, t301]
  go_enter Try.func21, Try.ntmps21
  go_wp2_with fail
  go_ret
  exact ⟨rfl, Kb.below_one w _⟩
theorem nothing_gone (w : World) : Calls Try.prog 21 #[sayV gone] w fun e w' => e = .returned (.bool false) ∧ Below w.heap.size w w' := by
  simp only [sayV, no, asks, gone, t001, t301]
  go_enter Try.func21, Try.ntmps21
  go_wp2_with fail
  go_ret
  exact ⟨rfl, Kb.below_one w _⟩
theorem asks_any (c : ByteArray) (w : World) : Calls Try.prog 24 #[sayV (asks c), .string c] w fun e w' => e = .returned (.bool true) ∧ Below w.heap.size w w' := by
  simp only [sayV, asks]
  go_enter Try.func24, Try.ntmps24
  go_wp2_with fail
  go_ret
  exact ⟨rfl, Kb.below_one w _⟩
theorem answers_any (c a : ByteArray) (w : World) : Calls Try.prog 22 #[sayV ⟨c, a, false⟩, .string c, .string a] w fun e w' => e = .returned (.bool true) ∧ Below w.heap.size w w' := by
  simp only [sayV]
  go_enter Try.func22, Try.ntmps22
  go_wp2_with fail
  go_ret
  exact ⟨rfl, Kb.below_one w _⟩
/-- what comes to a session -/
def told1 (S : Ss) (k : Int) (c b : ByteArray) : Ss := if k = 0 then heard S else if k = 1 then asked1 S c else if k = 2 then ansd S c b else if k = 3 then tick1 S else if k = 4 then up1 S else down S
def told2 (S : Ss) (k : Int) (c b : ByteArray) : Say := if k = 1 then asked2 S c else if k = 3 then tick2 S else if k = 4 then up2 S else no
theorem ok_told {S : Ss} (h : OK S) (k : Int) (c b : ByteArray) : OK (told1 S k c b) := by
  unfold told1
  repeat' split
  · exact ok_heard h
  · exact ok_asked h c
  · exact ok_ansd h c b
  · exact ok_tick h
  · exact ok_up h
  · exact ok_down h
theorem res_at2 {g n : Nat} {y x : World} {o : Obj} (hn : y.heap.size = n) (Fx : Fr [g] (y.alloc o) x) (ng : g < n) : x.heap[n]? = some o := res_at hn Fx (by omega)
set_option maxHeartbeats 3200000 in
set_option maxRecDepth 100000 in
theorem told_any {w : World} {g : Nat} {S : Ss} (M : Sm 63 w g S) (ok : OK S) (k : Int) (c b : ByteArray) (k0 : -9223372036854775808 ≤ k) (k1 : k ≤ 9223372036854775807) (hc : c.size ≤ 281474976710656) :
    Calls Try.prog 20 #[.pointer (some ⟨g, 0, none⟩), .agg #[.int .i64 k, .string c, .string b]] w fun e w' => e = .returned (sayV (told2 S (Pick.pickOf k 6) c b)) ∧ Sm 63 w' g (told1 S (Pick.pickOf k 6) c b) ∧ Fr [g] w w' := by
  have lt := M.lt
  have PK := fun x => Pick.pick_any k 6 x k0 k1 (by decide) (by decide)
  have lo := Pick.pick_lo k 6 (by decide)
  have hi := Pick.pick_hi k 6 (by decide)
  generalize Pick.pickOf k 6 = K at *
  have hK : K = 0 ∨ K = 1 ∨ K = 2 ∨ K = 3 ∨ K = 4 ∨ K = 5 := by omega
  go_enter Try.func20, Try.ntmps20
  go_wp2_with fail
  refine (PK _).mono ?_
  rintro e y0 ⟨rfl, hy0⟩
  rw [hy0]
  clear hy0 y0 PK lo hi
  obtain ⟨y, hy⟩ : ∃ y, (w.alloc (.cells #[.int .i64 k, .string c, .string b] 48)).alloc (Obj.cells #[Value.string ⟨#[]⟩, Value.string ⟨#[]⟩, Value.bool false] 40) = y := ⟨_, rfl⟩
  have MY : Sm 63 y g S := hy ▸ (M.alloc _).alloc _
  have FY : Fr [g] w y := hy ▸ ((Fr.refl _ _).alloc _).alloc _
  have hT : y.heap[w.heap.size]? = some (.cells #[.int .i64 k, .string c, .string b] 48) := hy ▸ Kb.h2_0 w _ _
  have hR : y.heap[w.heap.size + 1]? = some (Obj.cells #[Value.string ⟨#[]⟩, Value.string ⟨#[]⟩, Value.bool false] 40) := hy ▸ Kb.h2_1 w _ _
  rw [hy]
  clear hy M
  have t1 : y.cell? ⟨w.heap.size, 1, none⟩ = some (.string c) := by simp [World.cell?, hT]
  have t2 : y.cell? ⟨w.heap.size, 2, none⟩ = some (.string b) := by simp [World.cell?, hT]
  have ne : w.heap.size + 1 ≠ g := by omega
  have HMY : Hid (Sm 63 y g S) := MY
  have HFY : Hid (Fr [g] w y) := FY
  have HR : Hid (y.heap[w.heap.size + 1]? = some (Obj.cells #[Value.string ⟨#[]⟩, Value.string ⟨#[]⟩, Value.bool false] 40)) := hR
  clear MY FY hR hT
  rcases hK with rfl | rfl | rfl | rfl | rfl | rfl
  · go_wp2_with fail
    refine (heard_any HMY.out).mono ?_
    rintro e x ⟨rfl, Mx, Fx⟩
    have hx := res_to HR.out Fx ne
    have HF : Hid (Fr [g] w x) := HFY.out.trans Fx
    have HM : Hid (Sm 63 x g _) := Mx
    clear Fx Mx HFY HMY HR t1 t2
    obtain ⟨j0, j1, j2, kf⟩ := cells3 hx
    have kf0 := kf 0
    have kf1 := kf 1
    have kf2 := kf 2
    clear kf
    go_wp2_with fail
    exact fin_set rfl _ _ _ _ _ _ _ _ _ hx rfl ⟨rfl, sm_set3 HM.out ne _ _ _, fr_set3 HF.out (Nat.le_succ _) _ _ _⟩
  · go_wp2_with fail
    refine (asked_any HMY.out c hc).mono ?_
    rintro e x ⟨rfl, Mx, Fx⟩
    have hx := res_to HR.out Fx ne
    have HF : Hid (Fr [g] w x) := HFY.out.trans Fx
    have HM : Hid (Sm 63 x g _) := Mx
    clear Fx Mx HFY HMY HR t1 t2
    obtain ⟨j0, j1, j2, kf⟩ := cells3 hx
    have kf0 := kf 0
    have kf1 := kf 1
    have kf2 := kf 2
    clear kf
    unfold sayV
    go_wp2_with fail
    exact fin_set rfl _ _ _ _ _ _ _ _ _ hx rfl ⟨rfl, sm_set3 HM.out ne _ _ _, fr_set3 HF.out (Nat.le_succ _) _ _ _⟩
  · go_wp2_with fail
    refine (ansd_any HMY.out c b).mono ?_
    rintro e x ⟨rfl, Mx, Fx⟩
    have hx := res_to HR.out Fx ne
    have HF : Hid (Fr [g] w x) := HFY.out.trans Fx
    have HM : Hid (Sm 63 x g _) := Mx
    clear Fx Mx HFY HMY HR t1 t2
    obtain ⟨j0, j1, j2, kf⟩ := cells3 hx
    have kf0 := kf 0
    have kf1 := kf 1
    have kf2 := kf 2
    clear kf
    simp only [sayV, no]
    go_wp2_with fail
    exact fin_set rfl _ _ _ _ _ _ _ _ _ hx rfl ⟨rfl, sm_set3 HM.out ne _ _ _, fr_set3 HF.out (Nat.le_succ _) _ _ _⟩
  · go_wp2_with fail
    refine (tick_any HMY.out ok).mono ?_
    rintro e x ⟨rfl, Mx, Fx⟩
    have hx := res_to HR.out Fx ne
    have HF : Hid (Fr [g] w x) := HFY.out.trans Fx
    have HM : Hid (Sm 63 x g _) := Mx
    clear Fx Mx HFY HMY HR t1 t2
    obtain ⟨j0, j1, j2, kf⟩ := cells3 hx
    have kf0 := kf 0
    have kf1 := kf 1
    have kf2 := kf 2
    clear kf
    unfold sayV
    go_wp2_with fail
    exact fin_set rfl _ _ _ _ _ _ _ _ _ hx rfl ⟨rfl, sm_set3 HM.out ne _ _ _, fr_set3 HF.out (Nat.le_succ _) _ _ _⟩
  · go_wp2_with fail
    refine (up_any HMY.out).mono ?_
    rintro e x ⟨rfl, Mx, Fx⟩
    have hx := res_to HR.out Fx ne
    have HF : Hid (Fr [g] w x) := HFY.out.trans Fx
    have HM : Hid (Sm 63 x g _) := Mx
    clear Fx Mx HFY HMY HR t1 t2
    obtain ⟨j0, j1, j2, kf⟩ := cells3 hx
    have kf0 := kf 0
    have kf1 := kf 1
    have kf2 := kf 2
    clear kf
    unfold sayV
    go_wp2_with fail
    exact fin_set rfl _ _ _ _ _ _ _ _ _ hx rfl ⟨rfl, sm_set3 HM.out ne _ _ _, fr_set3 HF.out (Nat.le_succ _) _ _ _⟩
  · go_wp2_with fail
    refine (down_any HMY.out).mono ?_
    rintro e x ⟨rfl, Mx, Fx⟩
    have hx := res_to HR.out Fx ne
    have HF : Hid (Fr [g] w x) := HFY.out.trans Fx
    have HM : Hid (Sm 63 x g _) := Mx
    clear Fx Mx HFY HMY HR t1 t2
    obtain ⟨j0, j1, j2, kf⟩ := cells3 hx
    have kf0 := kf 0
    have kf1 := kf 1
    have kf2 := kf 2
    clear kf
    go_wp2_with fail
    exact fin_set rfl _ _ _ _ _ _ _ _ _ hx rfl ⟨rfl, sm_set3 HM.out ne _ _ _, fr_set3 HF.out (Nat.le_succ _) _ _ _⟩
/-- an issuer's session that is On -/
def onS (n m : Int) : Ss := ⟨2, n, m, 3, 0, 0, 0⟩
theorem ok_onS {n m : Int} (n0 : 0 ≤ n) (n1 : n ≤ 100000) (m0 : 1 ≤ m) (m1 : m ≤ 100000) : OK (onS n m) := by
  constructor <;> dsimp only [onS] <;> first | omega | (simp; done) | (simp; omega)
set_option maxHeartbeats 3200000 in
set_option maxRecDepth 100000 in
theorem signed_any {n m : Int} (n0 : 0 ≤ n) (n1 : n ≤ 100000) (m0 : 1 ≤ m) (m1 : m ≤ 100000) (w : World) :
    Calls Try.prog 23 #[.int .i64 n, .int .i64 m] w fun e w' => e = .returned (.pointer (some ⟨w.heap.size, 0, none⟩)) ∧ Sm 63 w' w.heap.size (onS n m) ∧ Below w.heap.size w w' := by
  have hS : isS 2 n m = true := by simp [isS]; omega
  go_enter Try.func23, Try.ntmps23
  go_wp2_with fail
  refine (new_good hS _).mono ?_
  rintro e x ⟨rfl, Mx, Bx⟩
  have HM : Hid (Sm 63 x w.heap.size (fresh 2 n m)) := Mx
  have HB : Hid (Below w.heap.size w x) := Bx
  clear Mx Bx
  go_wp2_with fail
  refine (up_any HM.out).mono ?_
  rintro e y ⟨rfl, My, Fy⟩
  have HMy : Hid (Sm 63 y w.heap.size ⟨2, n, m, 2, 0, 0, 0⟩) := My
  have HBy : Hid (Below w.heap.size w y) := Fr.under HB.out Fy (by simp) HB.out.size
  have gy := My.lt
  clear My Fy HM HB
  rw [show sayV (up2 (fresh 2 n m)) = .agg #[.string ⟨#[48, 48, 49]⟩, .string ⟨#[]⟩, .bool false] from rfl]
  go_wp2_with fail
  refine (asks_any t001 _).mono ?_
  rintro e z ⟨rfl, Bz⟩
  have HMz : Hid (Sm 63 z w.heap.size ⟨2, n, m, 2, 0, 0, 0⟩) := (HMy.out.alloc _).below Bz (HMy.out.alloc _).lt
  have HBz : Hid (Below w.heap.size w z) := Kb.keepB (HBy.out.alloc HBy.out.size _) Bz
  clear Bz HMy HBy gy
  go_wp2_with fail
  refine (ansd_any HMz.out t001 t00).mono ?_
  rintro e y1 ⟨rfl, My, Fy⟩
  have HMy : Hid (Sm 63 y1 w.heap.size (onS n m)) := My
  have HBy : Hid (Below w.heap.size w y1) := Fr.under HBz.out Fy (by simp) HBz.out.size
  have gy := My.lt
  clear My Fy HMz HBz
  rw [show sayV no = .agg #[.string ⟨#[]⟩, .string ⟨#[]⟩, .bool false] from rfl]
  go_wp2_with fail
  refine (nothing_no _).mono ?_
  rintro e z1 ⟨rfl, Bz⟩
  have HMz : Hid (Sm 63 z1 w.heap.size (onS n m)) := (HMy.out.alloc _).below Bz (HMy.out.alloc _).lt
  have HBz : Hid (Below w.heap.size w z1) := Kb.keepB (HBy.out.alloc HBy.out.size _) Bz
  clear Bz HMy HBy gy
  go_wp2_with fail
  refine (state_any HMz.out).mono ?_
  rintro e z2 ⟨rfl, hz2⟩
  rw [hz2]
  clear hz2 z2
  rw [show (onS n m).st = 3 from rfl]
  go_wp2_with fail
  go_ret
  exact ⟨rfl, HMz.out, HBz.out⟩
end Go.Proofs.Ythfpjkboglbcaaa.Se
