/- PINs: Open of the program. -/
import Derived.Test.YtciblmdpngnakabPz
namespace Go.Proofs.Ytciblmdpngnakab.Po
set_option linter.unusedVariables false
set_option linter.unusedSimpArgs false
open Go.RowKit Lib0 Six Pp Pf Pg Ph Pz Cb
set_option maxRecDepth 100000 in
set_option maxHeartbeats 1600000 in
theorem open_none (f : Int) (b q : ByteArray) (h0 : (f == 0) = false) (h1 : (f == 1) = false) (h3 : (f == 3) = false) (w : World) :
    Calls Try.prog 10 #[.int .i64 f, .string b, .string q] w fun e w' => e = .returned (.tuple #[.string none8, .int .i64 61]) ∧ Below w.heap.size w w' := by
  go_enter Try.func10, Try.ntmps10
  go_wp2_with fail
  refine (layoutN f h0 h1 h3 _).mono ?_
  rintro e y ⟨rfl, hy⟩
  go_wp2
  exact bodyPost_ret (v := .tuple #[.string none8, .int .i64 61]) (by simp [results, Try.results10, go_sem, none8]) rfl ⟨by simp, keepB hy (below_one y _)⟩
set_option maxRecDepth 100000 in
set_option maxHeartbeats 1600000 in
theorem open_size (f : Int) (Bd G : Bool) (t : Nat) (b q : ByteArray) (LA : ∀ u, Calls Try.prog 15 #[.int .i64 f] u fun e w' => e = .returned (.tuple #[.agg #[.bool Bd, .bool G, .int .u8 (t : Int)], .bool true]) ∧ Below u.heap.size u w') (sb : b.size ≤ maxLen) (h8 : ((b.size : Int) != 8) = true) (w : World) :
    Calls Try.prog 10 #[.int .i64 f, .string b, .string q] w fun e w' => e = .returned (.tuple #[.string none8, .int .i64 61]) ∧ Below w.heap.size w w' := by
  go_enter Try.func10, Try.ntmps10
  go_wp2_with fail
  refine (LA _).mono ?_
  rintro e y ⟨rfl, hy⟩
  have B1 := keepB hy (below_one y (.cells #[.bool Bd, .bool G, .int .u8 (t : Int)] 38))
  have M1 := h1_0 y (.cells #[.bool Bd, .bool G, .int .u8 (t : Int)] 38)
  have hlt : y.heap.size < (y.alloc (.cells #[.bool Bd, .bool G, .int .u8 (t : Int)] 38)).heap.size := by simp
  clear hy LA
  go_wp2
  exact bodyPost_ret (v := .tuple #[.string none8, .int .i64 61]) (by simp [results, Try.results10, go_sem, none8]) rfl ⟨by simp, B1⟩
set_option maxRecDepth 100000 in
set_option maxHeartbeats 1600000 in
theorem open_head (f : Int) (Bd G : Bool) (t : Nat) (b q : ByteArray) (LA : ∀ u, Calls Try.prog 15 #[.int .i64 f] u fun e w' => e = .returned (.tuple #[.agg #[.bool Bd, .bool G, .int .u8 (t : Int)], .bool true]) ∧ Below u.heap.size u w') (h8 : ((b.size : Int) != 8) = false) (h0 : (0 : Int) < (b.size : Int)) (hh : (((b[0]'(by omega)).toNat : Int) / 16 != f) = true) (w : World) :
    Calls Try.prog 10 #[.int .i64 f, .string b, .string q] w fun e w' => e = .returned (.tuple #[.string none8, .int .i64 61]) ∧ Below w.heap.size w w' := by
  have x1 : ((b[0]'(by omega)).toNat : Int) < 256 := Lib0.toNat_lt _
  go_enter Try.func10, Try.ntmps10
  go_wp2_with fail
  refine (LA _).mono ?_
  rintro e y ⟨rfl, hy⟩
  have B1 := keepB hy (below_one y (.cells #[.bool Bd, .bool G, .int .u8 (t : Int)] 38))
  have M1 := h1_0 y (.cells #[.bool Bd, .bool G, .int .u8 (t : Int)] 38)
  have hlt : y.heap.size < (y.alloc (.cells #[.bool Bd, .bool G, .int .u8 (t : Int)] 38)).heap.size := by simp
  clear hy LA
  go_wp2
  exact bodyPost_ret (v := .tuple #[.string none8, .int .i64 61]) (by simp [results, Try.results10, go_sem, none8]) rfl ⟨by simp, B1⟩
set_option maxRecDepth 100000 in
set_option maxHeartbeats 1600000 in
theorem open_pan (f : Int) (G : Bool) (t : Nat) (b q : ByteArray) (LA : ∀ u, Calls Try.prog 15 #[.int .i64 f] u fun e w' => e = .returned (.tuple #[.agg #[.bool true, .bool G, .int .u8 (t : Int)], .bool true]) ∧ Below u.heap.size u w') (h8 : ((b.size : Int) != 8) = false) (h0 : (0 : Int) < (b.size : Int)) (hh : (((b[0]'(by omega)).toNat : Int) / 16 != f) = false) (sq : q.size ≤ maxLen) (hq : panB q = false) (w : World) :
    Calls Try.prog 10 #[.int .i64 f, .string b, .string q] w fun e w' => e = .returned (.tuple #[.string none8, .int .i64 50]) ∧ Below w.heap.size w w' := by
  have x1 : ((b[0]'(by omega)).toNat : Int) < 256 := Lib0.toNat_lt _
  have IQ := fun u => isPAN_any q u sq
  rw [hq] at IQ
  go_enter Try.func10, Try.ntmps10
  go_wp2_with fail
  refine (LA _).mono ?_
  rintro e y ⟨rfl, hy⟩
  have B1 := keepB hy (below_one y (.cells #[.bool true, .bool G, .int .u8 (t : Int)] 38))
  have M1 := h1_0 y (.cells #[.bool true, .bool G, .int .u8 (t : Int)] 38)
  have hlt : y.heap.size < (y.alloc (.cells #[.bool true, .bool G, .int .u8 (t : Int)] 38)).heap.size := by simp
  clear hy LA
  obtain ⟨c0, c1, c2⟩ := cells3 M1
  go_wp2_with fail
  refine (IQ _).mono ?_
  rintro e u ⟨rfl, rfl⟩
  go_wp2
  exact bodyPost_ret (v := .tuple #[.string none8, .int .i64 50]) (by simp [results, Try.results10, go_sem, none8]) rfl ⟨by simp, B1⟩
set_option maxRecDepth 100000 in
set_option maxHeartbeats 1600000 in
theorem open_good_true (f : Int) (G : Bool) (t : Nat) (b q Y Z R : ByteArray) (E : Int) (LA : ∀ u, Calls Try.prog 15 #[.int .i64 f] u fun e w' => e = .returned (.tuple #[.agg #[.bool true, .bool G, .int .u8 (t : Int)], .bool true]) ∧ Below u.heap.size u w') (h8 : ((b.size : Int) != 8) = false) (h0 : (0 : Int) < (b.size : Int)) (hh : (((b[0]'(by omega)).toNat : Int) / 16 != f) = false) (sq : q.size ≤ maxLen) (hq : panB q = true)
    (SU : ∀ u, Calls Try.prog 19 #[.agg #[.bool true, .bool G, .int .u8 (t : Int)], .string b, .string q] u fun e w' => e = .returned (.string Y) ∧ Below u.heap.size u w')
    (SP : ∀ u, Calls Try.prog 18 #[.string Y] u fun e w' => e = .returned (.string Z) ∧ Below u.heap.size u w')
    (RE : ∀ u, Calls Try.prog 17 #[.agg #[.bool true, .bool G, .int .u8 (t : Int)], .string Z] u fun e w' => e = .returned (.tuple #[.string R, .int .i64 E]) ∧ Below u.heap.size u w') (w : World) :
    Calls Try.prog 10 #[.int .i64 f, .string b, .string q] w fun e w' => e = .returned (.tuple #[.string R, .int .i64 E]) ∧ Below w.heap.size w w' := by
  have x1 : ((b[0]'(by omega)).toNat : Int) < 256 := Lib0.toNat_lt _
  have IQ := fun u => isPAN_any q u sq
  rw [hq] at IQ
  go_enter Try.func10, Try.ntmps10
  go_wp2_with fail
  refine (LA _).mono ?_
  rintro e y ⟨rfl, hy⟩
  have B1 := keepB hy (below_one y (.cells #[.bool true, .bool G, .int .u8 (t : Int)] 38))
  have M1 := h1_0 y (.cells #[.bool true, .bool G, .int .u8 (t : Int)] 38)
  have hlt : y.heap.size < (y.alloc (.cells #[.bool true, .bool G, .int .u8 (t : Int)] 38)).heap.size := by simp
  clear hy LA
  obtain ⟨c0, c1, c2⟩ := cells3 M1
  go_wp2_with fail
  refine (IQ _).mono ?_
  rintro e u ⟨rfl, rfl⟩
  go_wp2_with fail
  generalize y.alloc (.cells #[.bool true, .bool G, .int .u8 (t : Int)] 38) = y1 at *
  generalize y.heap.size = L at *
  clear y hlt c0 c1 c2
  refine Qv.region_cl (by kernel_rfl) (by kernel_rfl) ?_
  repeat (refine wpQuiet_step (fun K hK => ?_); first
    | (refine Qv.q_row (by rfl) 38 _ rfl L rfl _ _ _ _ M1 Try.underlying38 rfl (zL _ _ _) (hK _ ?_); clear hK K)
    | (go_simp; refine hK _ ?_; clear hK K)
    | (go_simp; refine ⟨_, fun _ _ => rfl, hK _ ?_⟩; clear hK K)
    | (go_simp; refine ⟨_, fun _ _ => ⟨rfl, rfl⟩, hK _ ?_⟩; clear hK K)
    | (go_simp; apply Exists.intro; refine ⟨fun y hy => ?_, hK _ ?_⟩; (first | (go_at_call 19; exact Qv.cl_of hy (SU y)) | (go_at_call 18; exact Qv.cl_of hy (SP y)) | (go_at_call 17; exact Qv.cl_of hy (RE y))); clear hK K))
  refine wpQuiet_nil ?_
  intro z1 hz1
  go_wp2
  exact bodyPost_ret (v := .tuple #[.string R, .int .i64 E]) (by simp [results, Try.results10, go_sem, none8]) rfl ⟨by simp, keepB B1 hz1⟩
set_option maxRecDepth 100000 in
set_option maxHeartbeats 1600000 in
theorem open_good_false (f : Int) (G : Bool) (t : Nat) (b q Y Z R : ByteArray) (E : Int) (LA : ∀ u, Calls Try.prog 15 #[.int .i64 f] u fun e w' => e = .returned (.tuple #[.agg #[.bool false, .bool G, .int .u8 (t : Int)], .bool true]) ∧ Below u.heap.size u w') (h8 : ((b.size : Int) != 8) = false) (h0 : (0 : Int) < (b.size : Int)) (hh : (((b[0]'(by omega)).toNat : Int) / 16 != f) = false) (sq : q.size ≤ maxLen)
    (SU : ∀ u, Calls Try.prog 19 #[.agg #[.bool false, .bool G, .int .u8 (t : Int)], .string b, .string q] u fun e w' => e = .returned (.string Y) ∧ Below u.heap.size u w')
    (SP : ∀ u, Calls Try.prog 18 #[.string Y] u fun e w' => e = .returned (.string Z) ∧ Below u.heap.size u w')
    (RE : ∀ u, Calls Try.prog 17 #[.agg #[.bool false, .bool G, .int .u8 (t : Int)], .string Z] u fun e w' => e = .returned (.tuple #[.string R, .int .i64 E]) ∧ Below u.heap.size u w') (w : World) :
    Calls Try.prog 10 #[.int .i64 f, .string b, .string q] w fun e w' => e = .returned (.tuple #[.string R, .int .i64 E]) ∧ Below w.heap.size w w' := by
  have x1 : ((b[0]'(by omega)).toNat : Int) < 256 := Lib0.toNat_lt _
  go_enter Try.func10, Try.ntmps10
  go_wp2_with fail
  refine (LA _).mono ?_
  rintro e y ⟨rfl, hy⟩
  have B1 := keepB hy (below_one y (.cells #[.bool false, .bool G, .int .u8 (t : Int)] 38))
  have M1 := h1_0 y (.cells #[.bool false, .bool G, .int .u8 (t : Int)] 38)
  have hlt : y.heap.size < (y.alloc (.cells #[.bool false, .bool G, .int .u8 (t : Int)] 38)).heap.size := by simp
  clear hy LA
  obtain ⟨c0, c1, c2⟩ := cells3 M1
  go_wp2_with fail
  generalize y.alloc (.cells #[.bool false, .bool G, .int .u8 (t : Int)] 38) = y1 at *
  generalize y.heap.size = L at *
  clear y hlt c0 c1 c2
  refine Qv.region_cl (by kernel_rfl) (by kernel_rfl) ?_
  repeat (refine wpQuiet_step (fun K hK => ?_); first
    | (refine Qv.q_row (by rfl) 38 _ rfl L rfl _ _ _ _ M1 Try.underlying38 rfl (zL _ _ _) (hK _ ?_); clear hK K)
    | (go_simp; refine hK _ ?_; clear hK K)
    | (go_simp; refine ⟨_, fun _ _ => rfl, hK _ ?_⟩; clear hK K)
    | (go_simp; refine ⟨_, fun _ _ => ⟨rfl, rfl⟩, hK _ ?_⟩; clear hK K)
    | (go_simp; apply Exists.intro; refine ⟨fun y hy => ?_, hK _ ?_⟩; (first | (go_at_call 19; exact Qv.cl_of hy (SU y)) | (go_at_call 18; exact Qv.cl_of hy (SP y)) | (go_at_call 17; exact Qv.cl_of hy (RE y))); clear hK K))
  refine wpQuiet_nil ?_
  intro z1 hz1
  go_wp2
  exact bodyPost_ret (v := .tuple #[.string R, .int .i64 E]) (by simp [results, Try.results10, go_sem, none8]) rfl ⟨by simp, keepB B1 hz1⟩
end Go.Proofs.Ytciblmdpngnakab.Po
