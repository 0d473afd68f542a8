/- One block under a whole key. -/
import Derived.Test.YtciblmdpngnakabNw
import Derived.Test.YtciblmdpngnakabQl
namespace Go.Proofs.Ytciblmdpngnakab.Bk
set_option linter.unusedVariables false
open Go.RowKit Pla Cb Tk Sm Wd Rk En Rv Nw
/-- a key made ready lies in block g -/
def Key (w : World) (g : Nat) (K : Nat) (l : List UInt8) : Prop := w.heap[g]? = some (.cells (bkC K (up (bf l) (128 * K))) 79)
theorem key_kept {a x : World} {g K : Nat} {l : List UInt8} (h : Below a.heap.size a x) (hk : Key a g K l) : Key x g K l := kept h hk
theorem key_lt {a : World} {g K : Nat} {l : List UInt8} (hk : Key a g K l) : g < a.heap.size := (Array.getElem?_eq_some_iff.1 hk).1
theorem key_kind {w : World} {g K : Nat} {l : List UInt8} (hk : Key w g K l) : w.cell? ⟨g, 0, none⟩ = some (.int .i64 (K : Int)) := by
  rw [cell_of_row w g 0 _ _ (0, 0) hk]; exact bkC_zero _ _
theorem last_two (g : Nat) (l : List UInt8) (w : World) (h : Key w g 2 l) : Calls Try.prog 53 #[.pointer (some ⟨g, 0, none⟩)] w fun e w' => e = .returned (.pointer (some ⟨g, 1 + 128 * 0, none⟩)) ∧ w' = w := by
  have k0 := key_kind h
  clear h
  go_enter Try.func53, Try.ntmps53
  go_wp2
  go_ret
  exact ⟨rfl, rfl⟩
theorem last_three (g : Nat) (l : List UInt8) (w : World) (h : Key w g 3 l) : Calls Try.prog 53 #[.pointer (some ⟨g, 0, none⟩)] w fun e w' => e = .returned (.pointer (some ⟨g, 1 + 128 * 2, none⟩)) ∧ w' = w := by
  have k0 := key_kind h
  clear h
  go_enter Try.func53, Try.ntmps53
  go_wp2
  go_ret
  exact ⟨rfl, rfl⟩
theorem last_any (g K : Nat) (l : List UInt8) (w : World) (hK : K = 2 ∨ K = 3) (h : Key w g K l) : Calls Try.prog 53 #[.pointer (some ⟨g, 0, none⟩)] w fun e w' => e = .returned (.pointer (some ⟨g, 1 + 128 * (if K = 2 then 0 else 2), none⟩)) ∧ w' = w := by
  rcases hK with rfl | rfl
  · exact last_two g l w h
  · exact last_three g l w h
theorem encP (l : List UInt8) (p K g : Nat) (hp : p < K) (hK : K ≤ 3) (x : List Bool) (hx : Hid (x.length = 64)) (w : World) (h : Key w g K l) :
    Calls Try.prog 52 #[.pointer (some ⟨g, 1 + 128 * p, none⟩), .int .u64 (val x : Int)] w fun e w' => e = .returned (.int .u64 (val (des (sc l p) x) : Int)) ∧ Below w.heap.size w w' :=
  enc_any (sc l p) (sc_len l p) (sc_lens l p) x hx g (1 + 128 * p) w (key_lt h) (part_range h hp hK)
theorem decP (l : List UInt8) (p K g : Nat) (hp : p < K) (hK : K ≤ 3) (x : List Bool) (hx : Hid (x.length = 64)) (w : World) (h : Key w g K l) :
    Calls Try.prog 54 #[.pointer (some ⟨g, 1 + 128 * p, none⟩), .int .u64 (val x : Int)] w fun e w' => e = .returned (.int .u64 (val (des (sc l p).reverse x) : Int)) ∧ Below w.heap.size w w' :=
  dec_any (sc l p) (sc_len l p) (sc_lens l p) x hx g (1 + 128 * p) w (key_lt h) (part_range h hp hK)
set_option maxRecDepth 100000 in
set_option maxHeartbeats 1600000 in
theorem enc_one (l : List UInt8) (g : Nat) (x : List Bool) (hx : Hid (x.length = 64)) (w : World) (h : Key w g 1 l) :
    Calls Try.prog 39 #[.pointer (some ⟨g, 0, none⟩), .int .u64 (val x : Int)] w fun e w' => e = .returned (.int .u64 (val (des (sc l 0) x) : Int)) ∧ Below w.heap.size w w' := by
  have E := encP l 0 1 g (by decide) (by decide) x hx w h
  have k0 := key_kind h
  go_enter Try.func39, Try.ntmps39
  go_wp2_with (first
    | (go_at_call 52; refine E.mono ?_; rintro e y ⟨rfl, hy⟩; have k1 := key_kind (key_kept hy h)))
  go_ret
  exact ⟨rfl, hy⟩
set_option maxRecDepth 100000 in
set_option maxHeartbeats 1600000 in
theorem enc_more (l : List UInt8) (g K : Nat) (hK : K = 2 ∨ K = 3) (x : List Bool) (hx : Hid (x.length = 64)) (w : World) (h : Key w g K l) :
    Calls Try.prog 39 #[.pointer (some ⟨g, 0, none⟩), .int .u64 (val x : Int)] w fun e w' => e = .returned (.int .u64 (val (des (sc l (if K = 2 then 0 else 2)) (des (sc l 1).reverse (des (sc l 0) x))) : Int)) ∧ Below w.heap.size w w' := by
  have E := encP l 0 K g (by omega) (by omega) x hx w h
  have q1 : ((K : Int) == 1) = false := beq_eq_false_iff_ne.mpr (by omega)
  have k0 := key_kind h
  have LA := fun y (hy : Below w.heap.size w y) => last_any g K l y hK (key_kept hy h)
  have DE := fun y (hy : Below w.heap.size w y) => decP l 1 K g (by omega) (by omega) (des (sc l 0) x) (des_len _ _) y (key_kept hy h)
  have E2 := fun y (hy : Below w.heap.size w y) => encP l (if K = 2 then 0 else 2) K g (by split <;> omega) (by omega) (des (sc l 1).reverse (des (sc l 0) x)) (des_len _ _) y (key_kept hy h)
  have hm : ∃ m, m = (if K = 2 then 0 else 2) := ⟨_, rfl⟩
  obtain ⟨m, hm⟩ := hm
  rw [← hm] at LA E2 ⊢
  clear hm
  go_enter Try.func39, Try.ntmps39
  go_wp2_with (first
    | (go_at_call 52; refine E.mono ?_; rintro e y ⟨rfl, hy⟩; have k1 := key_kind (key_kept hy h)))
  refine Ql.region_cl (by kernel_rfl) (by kernel_rfl) ?_
  repeat (refine wpQuiet_step (fun K hK => ?_); first
    | (go_simp; apply Exists.intro; refine ⟨fun z hz => ?_, hK _ ?_⟩; (first | (go_at_call 53; exact Ql.cl_same hz (LA z (keepB hy hz))) | (go_at_call 54; exact Ql.cl_of hz (DE z (keepB hy hz))) | (go_at_call 52; exact Ql.cl_of hz (E2 z (keepB hy hz)))); clear hK K)
    | (go_simp; refine hK _ ?_; clear hK K)
    | (go_simp; refine ⟨_, fun _ _ => rfl, hK _ ?_⟩; clear hK K)
    | (go_simp; refine ⟨_, fun _ _ => ⟨rfl, rfl⟩, hK _ ?_⟩; clear hK K))
  refine wpQuiet_nil ?_
  intro y1 hy1
  go_wp2
  go_ret
  exact ⟨rfl, keepB hy hy1⟩
/-- the number of a key's parts -/
theorem encB (l : List UInt8) (g K : Nat) (hK : Hid (kindN l.length = K ∧ 1 ≤ K)) (x : List Bool) (hx : Hid (x.length = 64)) (w : World) (h : Key w g K l) :
    Calls Try.prog 39 #[.pointer (some ⟨g, 0, none⟩), .int .u64 (val x : Int)] w fun e w' => e = .returned (.int .u64 (val (enc l x) : Int)) ∧ Below w.heap.size w w' := by
  obtain ⟨h1, h2⟩ := hK.out
  unfold kindN at h1
  by_cases c1 : l.length = 8
  · rw [if_pos c1] at h1
    rw [enc, if_pos c1]
    subst h1
    exact enc_one l g x hx w h
  · rw [if_neg c1] at h1
    rw [enc, if_neg c1, lst]
    by_cases c2 : l.length = 16
    · rw [if_pos c2] at h1
      rw [if_pos c2]
      subst h1
      exact enc_more l g 2 (.inl rfl) x hx w h
    · rw [if_neg c2] at h1
      rw [if_neg c2]
      by_cases c3 : l.length = 24
      · rw [if_pos c3] at h1
        subst h1
        exact enc_more l g 3 (.inr rfl) x hx w h
      · rw [if_neg c3] at h1
        omega
end Go.Proofs.Ytciblmdpngnakab.Bk
