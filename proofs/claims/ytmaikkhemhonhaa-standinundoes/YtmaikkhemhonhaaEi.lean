/- StandinHolds: card, limits. -/
import Derived.Test.YtmaikkhemhonhaaDw
import Derived.Test.YtmaikkhemhonhaaQl
import Derived.Test.YtmaikkhemhonhaaPick
import Derived.Test.YtmaikkhemhonhaaDs
namespace Go.Proofs.Ytmaikkhemhonhaa.Ei
set_option linter.unusedVariables false
set_option linter.unusedSimpArgs false
open Go.RowKit Go.Maps Lib0 Kb Xp Da Db Dc Dd De Df Dh Di Dj Dk Dl Dm Dn Dp Dq Dr Ds Dw
attribute [local go_sem] Oper.semAt_some
def crd (k : Int) : ByteArray := ⟨#[99, 97, 114, 100, UInt8.ofNat (65 + k.toNat)]⟩
theorem crd_size (k : Int) : (crd k).size = 5 := rfl
theorem crd_ne (k : Int) : (crd k).toList.isEmpty = false := by rw [ByteArray.toList_eq]; rfl
set_option maxRecDepth 100000 in
theorem card_any (c : Int) (hc : I64 c) (of_ : Int) (h1 : 0 < of_) (h2 : of_ ≤ 20) (w : World) : Calls Try.prog 13 #[.int .i64 c, .int .i64 of_] w fun e w' => e = .returned (.string (crd (Pick.pickOf c of_))) ∧ Below w.heap.size w w' := by
  have HP : Hid (∀ y, Calls Try.prog 10 #[.int .i64 c, .int .i64 of_] y fun e w' => e = .returned (.int .i64 (Pick.pickOf c of_)) ∧ w' = y) := fun y => Pick.pick_any c of_ y hc.1 hc.2 h1 (by omega)
  have k0 := Pick.pick_lo c of_ h1
  have k1 := Pick.pick_hi c of_ h1
  obtain ⟨K, hK⟩ : ∃ K : Nat, Pick.pickOf c of_ = (K : Int) := ⟨(Pick.pickOf c of_).toNat, by omega⟩
  rw [hK] at HP k0 k1
  rw [hK]
  have q0 : (K : Int) < 20 := by omega
  clear hK hc h1 h2 k1
  go_enter Try.func13, Try.ntmps13
  go_wp2_with fail
  refine (HP.out _).mono ?_
  rintro e y ⟨rfl, rfl⟩
  have hb : (65 + (K : Int)) = (((UInt8.ofNat (65 + K)).toNat : Nat) : Int) := by
    have : (UInt8.ofNat (65 + K)).toNat = 65 + K := by simp [UInt8.toNat_ofNat]; omega
    rw [this]; omega
  have hrun := Lib0.run_str (P := Try.prog) (w := y.alloc (.cells #[.int .u8 (65 + (K : Int))] 5)) (src := 69) (dst := 9) (base := 0) (v := .slice (some ⟨y.heap.size, 0, none⟩) 1 1) (n := 1) (l := [UInt8.ofNat (65 + K)]) Try.underlying69 Try.underlying5 Try.underlying9 ⟨rfl, .inr ⟨y.heap.size, 1, _, rfl, Nat.zero_le _, h1_0 y _, Nat.le_refl _, by unfold maxLen; omega, rfl, by rw [hb]; rfl⟩⟩
  have HE : Hid (crd (K : Int) = ⟨#[99, 97, 114, 100, UInt8.ofNat (65 + K)]⟩) := rfl
  generalize UInt8.ofNat (65 + K) = X at *
  clear hb
  go_wp2_with fail
  go_ret
  exact ⟨by rw [HE.out]; rfl, below_one _ _⟩
def lmO (l : Lm) : Lm := ⟨Pick.pickOf l.single 300, Pick.pickOf l.count 8, Pick.pickOf l.sum 900, 1 + Pick.pickOf l.window 40⟩
def LmOk (l : Lm) : Prop := I64 l.single ∧ I64 l.count ∧ I64 l.sum ∧ I64 l.window
theorem infoLi : (Try.prog.info? 36).map (·.size) = some 4 := by kernel_rfl
set_option maxRecDepth 100000 in
set_option maxHeartbeats 1600000 in
theorem limits_any (l : Lm) (hl : LmOk l) (w : World) : Calls Try.prog 12 #[lmv l] w fun e w' => e = .returned (lmv (lmO l)) ∧ Below w.heap.size w w' := by
  have hp1 : ∀ y, Calls Try.prog 10 #[.int .i64 l.single, .int .i64 300] y fun e w' => e = .returned (.int .i64 (Pick.pickOf l.single 300)) ∧ w' = y := fun y => Pick.pick_any _ _ y hl.1.1 hl.1.2 (by omega) (by omega)
  have hp2 : ∀ y, Calls Try.prog 10 #[.int .i64 l.count, .int .i64 8] y fun e w' => e = .returned (.int .i64 (Pick.pickOf l.count 8)) ∧ w' = y := fun y => Pick.pick_any _ _ y hl.2.1.1 hl.2.1.2 (by omega) (by omega)
  have hp3 : ∀ y, Calls Try.prog 10 #[.int .i64 l.sum, .int .i64 900] y fun e w' => e = .returned (.int .i64 (Pick.pickOf l.sum 900)) ∧ w' = y := fun y => Pick.pick_any _ _ y hl.2.2.1.1 hl.2.2.1.2 (by omega) (by omega)
  have hp4 : ∀ y, Calls Try.prog 10 #[.int .i64 l.window, .int .i64 40] y fun e w' => e = .returned (.int .i64 (Pick.pickOf l.window 40)) ∧ w' = y := fun y => Pick.pick_any _ _ y hl.2.2.2.1 hl.2.2.2.2 (by omega) (by omega)
  have k0 := Pick.pick_lo l.window 40 (by omega)
  have k1 := Pick.pick_hi l.window 40 (by omega)
  obtain ⟨W, hW⟩ : ∃ W, (w.alloc (.cells #[.int .i64 l.single, .int .i64 l.count, .int .i64 l.sum, .int .i64 l.window] 36)).alloc (.cells #[.int .i64 0, .int .i64 0, .int .i64 0, .int .i64 0] 36) = W := ⟨_, rfl⟩
  have BW : Below w.heap.size w W := hW ▸ below_two _ _ _
  have hb0 : W.heap[w.heap.size]? = some (.cells #[.int .i64 l.single, .int .i64 l.count, .int .i64 l.sum, .int .i64 l.window] 36) := hW ▸ h2_0 _ _ _
  have hb1 : W.heap[w.heap.size + 1]? = some (.cells #[.int .i64 0, .int .i64 0, .int .i64 0, .int .i64 0] 36) := hW ▸ h2_1 _ _ _
  have hlt : w.heap.size < W.heap.size := (Array.getElem?_eq_some_iff.1 hb0).1
  have c0 : W.cell? ⟨w.heap.size, 0, none⟩ = some (.int .i64 l.single) := by simp [World.cell?, hb0]
  have c1 : W.cell? ⟨w.heap.size, 1, none⟩ = some (.int .i64 l.count) := by simp [World.cell?, hb0]
  have c2 : W.cell? ⟨w.heap.size, 2, none⟩ = some (.int .i64 l.sum) := by simp [World.cell?, hb0]
  have c3 : W.cell? ⟨w.heap.size, 3, none⟩ = some (.int .i64 l.window) := by simp [World.cell?, hb0]
  have hwr : IntKind.i64.wrap (1 + Pick.pickOf l.window 40) = 1 + Pick.pickOf l.window 40 := Dd.wrap_64 _ (by omega) (by omega)
  have HRES : Hid (lmO l = ⟨Pick.pickOf l.single 300, Pick.pickOf l.count 8, Pick.pickOf l.sum 900, 1 + Pick.pickOf l.window 40⟩) := rfl
  rw [HRES.out]
  generalize Pick.pickOf l.single 300 = P1 at *
  generalize Pick.pickOf l.count 8 = P2 at *
  generalize Pick.pickOf l.sum 900 = P3 at *
  generalize Pick.pickOf l.window 40 = P4 at *
  have HB : Hid (Below w.heap.size w W ∧ W.heap[w.heap.size + 1]? = some (.cells #[.int .i64 0, .int .i64 0, .int .i64 0, .int .i64 0] 36)) := ⟨BW, hb1⟩
  unfold lmv
  dsimp only
  clear hl BW hb0 hb1 HRES k0 k1
  go_enter Try.func12, Try.ntmps12
  go_wp2_with fail
  try rw [hW]
  clear hW
  refine Ql.region_lastL (C := Ql.Cl W) (by kernel_rfl) rfl (by kernel_rfl) (by kernel_rfl) (by kernel_rfl) rfl ((Below.refl _ _).drew) ?_
  repeat (refine wpQuiet_step (fun K hK => ?_); first
      | (refine Ql.q_cell (by rfl) 3 _ rfl w.heap.size 0 rfl _ c0 hlt (fun y => Try.isAgg3 y) (hK _ ?_); clear hK K)
      | (refine Ql.q_cell (by rfl) 3 _ rfl w.heap.size 1 rfl _ c1 hlt (fun y => Try.isAgg3 y) (hK _ ?_); clear hK K)
      | (refine Ql.q_cell (by rfl) 3 _ rfl w.heap.size 2 rfl _ c2 hlt (fun y => Try.isAgg3 y) (hK _ ?_); clear hK K)
      | (refine Ql.q_cell (by rfl) 3 _ rfl w.heap.size 3 rfl _ c3 hlt (fun y => Try.isAgg3 y) (hK _ ?_); clear hK K)
      | (go_simp; apply Exists.intro; refine ⟨fun y hy => ?_, hK _ ?_⟩; (first | (go_at_call_of 10 (Value.int .i64 l.single); exact Ql.cl_same hy (hp1 y)) | (go_at_call_of 10 (Value.int .i64 l.count); exact Ql.cl_same hy (hp2 y)) | (go_at_call_of 10 (Value.int .i64 l.sum); exact Ql.cl_same hy (hp3 y)) | (go_at_call_of 10 (Value.int .i64 l.window); exact Ql.cl_same hy (hp4 y))); clear hK K)
      | (go_simp; refine hK _ ?_; clear hK K)
      | (go_simp; refine ⟨_, fun _ _ => rfl, hK _ ?_⟩; clear hK K)
      | (go_simp; refine ⟨_, fun _ _ => ⟨rfl, rfl⟩, hK _ ?_⟩; clear hK K))
  refine wpQuiet_nil ?_
  intro y hy
  refine wp_store_row 36 _ _ rfl (w.heap.size + 1) #[.int .i64 P1, .int .i64 P2, .int .i64 P3, .int .i64 (1 + P4)] rfl rfl _ _ (kept hy HB.out.2) (by kernel_rfl) rfl (by simp [Value.oneCell']) ?_
  have m1 := setRow_at (kept hy HB.out.2) #[.int .i64 P1, .int .i64 P2, .int .i64 P3, .int .i64 (1 + P4)]
  have m3 := below_setRow (keepB HB.out.1 hy) (show w.heap.size ≤ w.heap.size + 1 by omega) #[.int .i64 P1, .int .i64 P2, .int .i64 P3, .int .i64 (1 + P4)]
  have M1 : Hid _ := m1
  have M3 : Hid _ := m3
  clear m1 m3 hy c0 c1 c2 c3
  go_wp2_with fail
  exact bodyPost_ret (v := .agg #[.int .i64 P1, .int .i64 P2, .int .i64 P3, .int .i64 (1 + P4)]) (results_cell_row (fn := Try.f12) (p := 2) rfl _ _ (w.heap.size + 1) 36 _ _ _ rfl M1.out Try.underlying36 rfl infoLi) rfl ⟨rfl, M3.out⟩
end Go.Proofs.Ytmaikkhemhonhaa.Ei
