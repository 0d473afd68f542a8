/- PINs: Block of the program. -/
import Derived.Test.YtciblmdpngnakabPz
namespace Go.Proofs.Ytciblmdpngnakab.Pj
set_option linter.unusedVariables false
set_option linter.unusedSimpArgs false
open Go.RowKit Lib0 Six Pp Pf Pg Ph Pz Cb
set_option maxRecDepth 100000 in
set_option maxHeartbeats 1600000 in
theorem block_pin (f : Int) (Bd G : Bool) (t : Nat) (p q fill : ByteArray) (LA : ∀ u, Calls Try.prog 15 #[.int .i64 f] u fun e w' => e = .returned (.tuple #[.agg #[.bool Bd, .bool G, .int .u8 (t : Int)], .bool true]) ∧ Below u.heap.size u w') (sp : p.size ≤ maxLen) (hp : pinB p = false) (w : World) :
    Calls Try.prog 12 #[.int .i64 f, .string p, .string q, .string fill] w fun e w' => e = .returned (.tuple #[.string none8, .int .i64 60]) ∧ Below w.heap.size w w' := by
  have IP := fun u => isPIN_any p u sp
  rw [hp] at IP
  clear hp
  go_enter Try.func12, Try.ntmps12
  go_wp2_with fail
  refine (LA _).mono ?_
  rintro e y ⟨rfl, hy⟩
  have B1 := keepB hy (below_one y (.cells #[.bool Bd, .bool G, .int .u8 (t : Int)] 38))
  have M1 := h1_0 y (.cells #[.bool Bd, .bool G, .int .u8 (t : Int)] 38)
  clear hy LA
  go_wp2_with fail
  generalize y.alloc (.cells #[.bool Bd, .bool G, .int .u8 (t : Int)] 38) = y1 at *
  generalize y.heap.size = L at *
  clear y
  refine (IP _).mono ?_
  rintro e u ⟨rfl, rfl⟩
  obtain ⟨c0, c1, c2⟩ := cells3 M1
  go_wp2
  exact bodyPost_ret (v := .tuple #[.string none8, .int .i64 60]) (by simp [results, Try.results12, go_sem, none8]) rfl ⟨by simp, B1⟩
set_option maxRecDepth 100000 in
set_option maxHeartbeats 1600000 in
theorem block_pan (f : Int) (G : Bool) (t : Nat) (p q fill : ByteArray) (LA : ∀ u, Calls Try.prog 15 #[.int .i64 f] u fun e w' => e = .returned (.tuple #[.agg #[.bool true, .bool G, .int .u8 (t : Int)], .bool true]) ∧ Below u.heap.size u w') (sp : p.size ≤ maxLen) (sq : q.size ≤ maxLen) (hp : pinB p = true) (hq : panB q = false) (w : World) :
    Calls Try.prog 12 #[.int .i64 f, .string p, .string q, .string fill] w fun e w' => e = .returned (.tuple #[.string none8, .int .i64 50]) ∧ Below w.heap.size w w' := by
  have IP := fun u => isPIN_any p u sp
  have IQ := fun u => isPAN_any q u sq
  rw [hp] at IP
  rw [hq] at IQ
  clear hp hq
  go_enter Try.func12, Try.ntmps12
  go_wp2_with fail
  refine (LA _).mono ?_
  rintro e y ⟨rfl, hy⟩
  have B1 := keepB hy (below_one y (.cells #[.bool true, .bool G, .int .u8 (t : Int)] 38))
  have M1 := h1_0 y (.cells #[.bool true, .bool G, .int .u8 (t : Int)] 38)
  clear hy LA
  go_wp2_with fail
  generalize y.alloc (.cells #[.bool true, .bool G, .int .u8 (t : Int)] 38) = y1 at *
  generalize y.heap.size = L at *
  clear y
  refine (IP _).mono ?_
  rintro e u ⟨rfl, rfl⟩
  obtain ⟨c0, c1, c2⟩ := cells3 M1
  go_wp2_with fail
  refine (IQ _).mono ?_
  rintro e u ⟨rfl, rfl⟩
  go_wp2
  exact bodyPost_ret (v := .tuple #[.string none8, .int .i64 50]) (by simp [results, Try.results12, go_sem, none8]) rfl ⟨by simp, B1⟩
set_option maxRecDepth 100000 in
set_option maxHeartbeats 1600000 in
theorem block_fill_true (f : Int) (G : Bool) (t k : Nat) (p q fill : ByteArray) (LA : ∀ u, Calls Try.prog 15 #[.int .i64 f] u fun e w' => e = .returned (.tuple #[.agg #[.bool true, .bool G, .int .u8 (t : Int)], .bool true]) ∧ Below u.heap.size u w') (sp : p.size ≤ maxLen) (sq : q.size ≤ maxLen) (hp : pinB p = true) (hq : panB q = true) (hk : Hid (p.size + k = 14))
    (TA : ∀ u, Calls Try.prog 21 #[.agg #[.bool true, .bool G, .int .u8 (t : Int)], .string fill, .int .i64 (k : Int)] u fun e w' => e = .returned (.bool false) ∧ Below u.heap.size u w') (w : World) :
    Calls Try.prog 12 #[.int .i64 f, .string p, .string q, .string fill] w fun e w' => e = .returned (.tuple #[.string none8, .int .i64 62]) ∧ Below w.heap.size w w' := by
  have IP := fun u => isPIN_any p u sp
  have IQ := fun u => isPAN_any q u sq
  rw [hp] at IP
  rw [hq] at IQ
  have ek : IntKind.i64.wrap (14 - (p.size : Int)) = (k : Int) := by have := hk.out; rw [IntKind.wrap_i64]; omega
  clear hp hq
  go_enter Try.func12, Try.ntmps12
  go_wp2_with fail
  refine (LA _).mono ?_
  rintro e y ⟨rfl, hy⟩
  have B1 := keepB hy (below_one y (.cells #[.bool true, .bool G, .int .u8 (t : Int)] 38))
  have M1 := h1_0 y (.cells #[.bool true, .bool G, .int .u8 (t : Int)] 38)
  clear hy LA
  go_wp2_with fail
  generalize y.alloc (.cells #[.bool true, .bool G, .int .u8 (t : Int)] 38) = y1 at *
  generalize y.heap.size = L at *
  clear y
  refine (IP _).mono ?_
  rintro e u ⟨rfl, rfl⟩
  obtain ⟨c0, c1, c2⟩ := cells3 M1
  go_wp2_with fail
  refine (IQ _).mono ?_
  rintro e u ⟨rfl, rfl⟩
  go_wp2_with fail
  refine (TA _).mono ?_
  rintro e z ⟨rfl, hz⟩
  go_wp2
  exact bodyPost_ret (v := .tuple #[.string none8, .int .i64 62]) (by simp [results, Try.results12, go_sem, none8]) rfl ⟨by simp, keepB B1 hz⟩
set_option maxRecDepth 100000 in
set_option maxHeartbeats 1600000 in
theorem block_good_true (F : Nat) (hF : F < 16) (G : Bool) (t k : Nat) (p q fill FL X R : ByteArray) (LA : ∀ u, Calls Try.prog 15 #[.int .i64 (F : Int)] u fun e w' => e = .returned (.tuple #[.agg #[.bool true, .bool G, .int .u8 (t : Int)], .bool true]) ∧ Below u.heap.size u w') (sp : p.size ≤ maxLen) (sq : q.size ≤ maxLen) (hp : pinB p = true) (hq : panB q = true) (hk : Hid (p.size + k = 14))
    (TA : ∀ u, Calls Try.prog 21 #[.agg #[.bool true, .bool G, .int .u8 (t : Int)], .string fill, .int .i64 (k : Int)] u fun e w' => e = .returned (.bool true) ∧ Below u.heap.size u w')
    (FI : ∀ u, Calls Try.prog 24 #[.agg #[.bool true, .bool G, .int .u8 (t : Int)], .string fill, .int .i64 (k : Int)] u fun e w' => e = .returned (.string FL) ∧ Below u.heap.size u w')
    (PA : ∀ bk u, bk < u.heap.size → (∀ (j : Nat) x, [⟨#[hx F]⟩, ⟨#[hx p.size]⟩, p, FL][j]? = some x → u.cell? ⟨bk, j, none⟩ = some (.string x)) → Calls Try.prog 22 #[.slice (some ⟨bk, 0, none⟩) 4 4] u fun e w' => e = .returned (.string X) ∧ Below u.heap.size u w')
    (SU : ∀ u, Calls Try.prog 19 #[.agg #[.bool true, .bool G, .int .u8 (t : Int)], .string X, .string q] u fun e w' => e = .returned (.string R) ∧ Below u.heap.size u w') (w : World) :
    Calls Try.prog 12 #[.int .i64 (F : Int), .string p, .string q, .string fill] w fun e w' => e = .returned (.tuple #[.string R, .int .i64 0]) ∧ Below w.heap.size w w' := by
  have IP := fun u => isPIN_any p u sp
  have IQ := fun u => isPAN_any q u sq
  have p16 : p.size < 16 := by have := hk.out; omega
  have S1 := fun u => sixteenth_any F hF u
  have S2 := fun u => sixteenth_any p.size p16 u
  rw [hp] at IP
  rw [hq] at IQ
  have ek : IntKind.i64.wrap (14 - (p.size : Int)) = (k : Int) := by have := hk.out; rw [IntKind.wrap_i64]; omega
  clear hp hq
  obtain ⟨H1, HH1⟩ : ∃ H1 : ByteArray, Hid (⟨#[hx F]⟩ = H1) := ⟨_, rfl⟩
  obtain ⟨H2, HH2⟩ : ∃ H2 : ByteArray, Hid (⟨#[hx p.size]⟩ = H2) := ⟨_, rfl⟩
  rw [HH1.out] at S1 PA
  rw [HH2.out] at S2 PA
  go_enter Try.func12, Try.ntmps12
  go_wp2_with fail
  refine (LA _).mono ?_
  rintro e y ⟨rfl, hy⟩
  have B1 := keepB hy (below_one y (.cells #[.bool true, .bool G, .int .u8 (t : Int)] 38))
  have M1 := h1_0 y (.cells #[.bool true, .bool G, .int .u8 (t : Int)] 38)
  clear hy LA
  go_wp2_with fail
  generalize y.alloc (.cells #[.bool true, .bool G, .int .u8 (t : Int)] 38) = y1 at *
  generalize y.heap.size = L at *
  clear y
  refine (IP _).mono ?_
  rintro e u ⟨rfl, rfl⟩
  obtain ⟨c0, c1, c2⟩ := cells3 M1
  go_wp2_with fail
  refine (IQ _).mono ?_
  rintro e u ⟨rfl, rfl⟩
  go_wp2_with fail
  refine (TA _).mono ?_
  rintro e z ⟨rfl, hz⟩
  have M2 := kept hz M1
  have B2 := keepB B1 hz
  clear hz M1 B1 c0 c1 c2 TA IP IQ
  go_wp2_with fail
  refine Qt.region_tail 12 2 (C := Qv.Cl z) (by kernel_rfl) rfl (by kernel_rfl) (by kernel_rfl) (by kernel_rfl) ((Below.refl _ _).drew) ?_
  repeat (refine wpQuiet_step (fun K hK => ?_); first
    | (go_simp; refine hK _ ?_; clear hK K)
    | (go_simp; refine ⟨_, fun _ _ => rfl, hK _ ?_⟩; clear hK K)
    | (go_simp; refine ⟨_, fun _ _ => ⟨rfl, rfl⟩, hK _ ?_⟩; clear hK K)
    | (refine Qv.q_row (by rfl) 38 _ rfl L rfl _ _ _ _ M2 Try.underlying38 rfl (zL _ _ _) (hK _ ?_); clear hK K)
    | (go_simp; apply Exists.intro; refine ⟨fun y hy => ?_, hK _ ?_⟩; (first | (go_at_call 23; exact Qv.cl_same hy (S1 y)) | (go_at_call 23; exact Qv.cl_same hy (S2 y)) | (go_at_call 24; exact Qv.cl_of hy (FI y))); clear hK K))
  refine wpQuiet_nil ?_
  intro z1 hz1
  have M3 := kept hz1 M2
  have B3 := keepB B2 hz1
  clear hz1 M2 B2
  go_wp2_with fail
  have N1 := h1_0 z1 (.cells #[.string H1, .string H2, .string p, .string FL] 9)
  have PA1 := PA z1.heap.size _ (Array.getElem?_eq_some_iff.1 N1).1 (four_cells N1)
  refine PA1.mono ?_
  rintro e v ⟨rfl, hv⟩
  have M4 := kept hv (kept (below_one z1 _) M3)
  have B4 := keepB (keepB B3 (below_one z1 _)) hv
  clear hv PA1 N1 M3 B3
  obtain ⟨c0, c1, c2⟩ := cells3 M4
  go_wp2_with fail
  refine (SU _).mono ?_
  rintro e x ⟨rfl, hx⟩
  go_wp2
  exact bodyPost_ret (v := .tuple #[.string R, .int .i64 0]) (by simp [results, Try.results12, go_sem, none8]) rfl ⟨by simp, keepB B4 hx⟩
set_option maxRecDepth 100000 in
set_option maxHeartbeats 1600000 in
theorem block_fill_false (f : Int) (G : Bool) (t k : Nat) (p q fill : ByteArray) (LA : ∀ u, Calls Try.prog 15 #[.int .i64 f] u fun e w' => e = .returned (.tuple #[.agg #[.bool false, .bool G, .int .u8 (t : Int)], .bool true]) ∧ Below u.heap.size u w') (sp : p.size ≤ maxLen) (sq : q.size ≤ maxLen) (hp : pinB p = true) (hk : Hid (p.size + k = 14))
    (TA : ∀ u, Calls Try.prog 21 #[.agg #[.bool false, .bool G, .int .u8 (t : Int)], .string fill, .int .i64 (k : Int)] u fun e w' => e = .returned (.bool false) ∧ Below u.heap.size u w') (w : World) :
    Calls Try.prog 12 #[.int .i64 f, .string p, .string q, .string fill] w fun e w' => e = .returned (.tuple #[.string none8, .int .i64 62]) ∧ Below w.heap.size w w' := by
  have IP := fun u => isPIN_any p u sp
  rw [hp] at IP
  have ek : IntKind.i64.wrap (14 - (p.size : Int)) = (k : Int) := by have := hk.out; rw [IntKind.wrap_i64]; omega
  clear hp
  go_enter Try.func12, Try.ntmps12
  go_wp2_with fail
  refine (LA _).mono ?_
  rintro e y ⟨rfl, hy⟩
  have B1 := keepB hy (below_one y (.cells #[.bool false, .bool G, .int .u8 (t : Int)] 38))
  have M1 := h1_0 y (.cells #[.bool false, .bool G, .int .u8 (t : Int)] 38)
  clear hy LA
  go_wp2_with fail
  generalize y.alloc (.cells #[.bool false, .bool G, .int .u8 (t : Int)] 38) = y1 at *
  generalize y.heap.size = L at *
  clear y
  refine (IP _).mono ?_
  rintro e u ⟨rfl, rfl⟩
  obtain ⟨c0, c1, c2⟩ := cells3 M1
  go_wp2_with fail
  refine (TA _).mono ?_
  rintro e z ⟨rfl, hz⟩
  go_wp2
  exact bodyPost_ret (v := .tuple #[.string none8, .int .i64 62]) (by simp [results, Try.results12, go_sem, none8]) rfl ⟨by simp, keepB B1 hz⟩
set_option maxRecDepth 100000 in
set_option maxHeartbeats 1600000 in
theorem block_good_false (F : Nat) (hF : F < 16) (G : Bool) (t k : Nat) (p q fill FL X R : ByteArray) (LA : ∀ u, Calls Try.prog 15 #[.int .i64 (F : Int)] u fun e w' => e = .returned (.tuple #[.agg #[.bool false, .bool G, .int .u8 (t : Int)], .bool true]) ∧ Below u.heap.size u w') (sp : p.size ≤ maxLen) (sq : q.size ≤ maxLen) (hp : pinB p = true) (hk : Hid (p.size + k = 14))
    (TA : ∀ u, Calls Try.prog 21 #[.agg #[.bool false, .bool G, .int .u8 (t : Int)], .string fill, .int .i64 (k : Int)] u fun e w' => e = .returned (.bool true) ∧ Below u.heap.size u w')
    (FI : ∀ u, Calls Try.prog 24 #[.agg #[.bool false, .bool G, .int .u8 (t : Int)], .string fill, .int .i64 (k : Int)] u fun e w' => e = .returned (.string FL) ∧ Below u.heap.size u w')
    (PA : ∀ bk u, bk < u.heap.size → (∀ (j : Nat) x, [⟨#[hx F]⟩, ⟨#[hx p.size]⟩, p, FL][j]? = some x → u.cell? ⟨bk, j, none⟩ = some (.string x)) → Calls Try.prog 22 #[.slice (some ⟨bk, 0, none⟩) 4 4] u fun e w' => e = .returned (.string X) ∧ Below u.heap.size u w')
    (SU : ∀ u, Calls Try.prog 19 #[.agg #[.bool false, .bool G, .int .u8 (t : Int)], .string X, .string q] u fun e w' => e = .returned (.string R) ∧ Below u.heap.size u w') (w : World) :
    Calls Try.prog 12 #[.int .i64 (F : Int), .string p, .string q, .string fill] w fun e w' => e = .returned (.tuple #[.string R, .int .i64 0]) ∧ Below w.heap.size w w' := by
  have IP := fun u => isPIN_any p u sp
  have p16 : p.size < 16 := by have := hk.out; omega
  have S1 := fun u => sixteenth_any F hF u
  have S2 := fun u => sixteenth_any p.size p16 u
  rw [hp] at IP
  have ek : IntKind.i64.wrap (14 - (p.size : Int)) = (k : Int) := by have := hk.out; rw [IntKind.wrap_i64]; omega
  clear hp
  obtain ⟨H1, HH1⟩ : ∃ H1 : ByteArray, Hid (⟨#[hx F]⟩ = H1) := ⟨_, rfl⟩
  obtain ⟨H2, HH2⟩ : ∃ H2 : ByteArray, Hid (⟨#[hx p.size]⟩ = H2) := ⟨_, rfl⟩
  rw [HH1.out] at S1 PA
  rw [HH2.out] at S2 PA
  go_enter Try.func12, Try.ntmps12
  go_wp2_with fail
  refine (LA _).mono ?_
  rintro e y ⟨rfl, hy⟩
  have B1 := keepB hy (below_one y (.cells #[.bool false, .bool G, .int .u8 (t : Int)] 38))
  have M1 := h1_0 y (.cells #[.bool false, .bool G, .int .u8 (t : Int)] 38)
  clear hy LA
  go_wp2_with fail
  generalize y.alloc (.cells #[.bool false, .bool G, .int .u8 (t : Int)] 38) = y1 at *
  generalize y.heap.size = L at *
  clear y
  refine (IP _).mono ?_
  rintro e u ⟨rfl, rfl⟩
  obtain ⟨c0, c1, c2⟩ := cells3 M1
  go_wp2_with fail
  refine (TA _).mono ?_
  rintro e z ⟨rfl, hz⟩
  have M2 := kept hz M1
  have B2 := keepB B1 hz
  clear hz M1 B1 c0 c1 c2 TA IP
  go_wp2_with fail
  refine Qt.region_tail 12 2 (C := Qv.Cl z) (by kernel_rfl) rfl (by kernel_rfl) (by kernel_rfl) (by kernel_rfl) ((Below.refl _ _).drew) ?_
  repeat (refine wpQuiet_step (fun K hK => ?_); first
    | (go_simp; refine hK _ ?_; clear hK K)
    | (go_simp; refine ⟨_, fun _ _ => rfl, hK _ ?_⟩; clear hK K)
    | (go_simp; refine ⟨_, fun _ _ => ⟨rfl, rfl⟩, hK _ ?_⟩; clear hK K)
    | (refine Qv.q_row (by rfl) 38 _ rfl L rfl _ _ _ _ M2 Try.underlying38 rfl (zL _ _ _) (hK _ ?_); clear hK K)
    | (go_simp; apply Exists.intro; refine ⟨fun y hy => ?_, hK _ ?_⟩; (first | (go_at_call 23; exact Qv.cl_same hy (S1 y)) | (go_at_call 23; exact Qv.cl_same hy (S2 y)) | (go_at_call 24; exact Qv.cl_of hy (FI y))); clear hK K))
  refine wpQuiet_nil ?_
  intro z1 hz1
  have M3 := kept hz1 M2
  have B3 := keepB B2 hz1
  clear hz1 M2 B2
  go_wp2_with fail
  have N1 := h1_0 z1 (.cells #[.string H1, .string H2, .string p, .string FL] 9)
  have PA1 := PA z1.heap.size _ (Array.getElem?_eq_some_iff.1 N1).1 (four_cells N1)
  refine PA1.mono ?_
  rintro e v ⟨rfl, hv⟩
  have M4 := kept hv (kept (below_one z1 _) M3)
  have B4 := keepB (keepB B3 (below_one z1 _)) hv
  clear hv PA1 N1 M3 B3
  obtain ⟨c0, c1, c2⟩ := cells3 M4
  go_wp2_with fail
  refine (SU _).mono ?_
  rintro e x ⟨rfl, hx⟩
  go_wp2
  exact bodyPost_ret (v := .tuple #[.string R, .int .i64 0]) (by simp [results, Try.results12, go_sem, none8]) rfl ⟨by simp, keepB B4 hx⟩
end Go.Proofs.Ytciblmdpngnakab.Pj
