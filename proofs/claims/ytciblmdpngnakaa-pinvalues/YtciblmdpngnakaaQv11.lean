import Derived.Test.YtciblmdpngnakaaQv10
import Derived.Test.YtciblmdpngnakaaQv09
import Derived.Test.YtciblmdpngnakaaQv00
/- One block under a whole key. -/
namespace Go.Proofs.Ytciblmdpngnakaa.Bk
set_option linter.unusedVariables false
open Go.RowKit Pla Cb Tk Sm Wd Rk En Rv Nw
/-- a key made ready lies in block g -/
def Key (w : World) (g : Nat) (K : Nat) (l : List UInt8) : Prop := w.heap[g]? = some (.cells (bkC K (up (bf l) (128 * K))) 75)
theorem key_kept {a x : World} {g K : Nat} {l : List UInt8} (h : Below a.heap.size a x) (hk : Key a g K l) : Key x g K l := kept h hk
theorem key_lt {a : World} {g K : Nat} {l : List UInt8} (hk : Key a g K l) : g < a.heap.size := (Array.getElem?_eq_some_iff.1 hk).1
theorem key_kind {w : World} {g K : Nat} {l : List UInt8} (hk : Key w g K l) : w.cell? ⟨g, 0, none⟩ = some (.int .i64 (K : Int)) := by
  rw [cell_of_row w g 0 _ _ (0, 0) hk]; exact bkC_zero _ _
theorem last_two (g : Nat) (l : List UInt8) (w : World) (h : Key w g 2 l) : Calls Try.prog 75 #[.pointer (some ⟨g, 0, none⟩)] w fun e w' => e = .returned (.pointer (some ⟨g, 1 + 128 * 0, none⟩)) ∧ w' = w := by
  have k0 := key_kind h
  clear h
  go_enter Try.func75, Try.ntmps75
  go_wp2
  go_ret
  exact ⟨rfl, rfl⟩
theorem last_three (g : Nat) (l : List UInt8) (w : World) (h : Key w g 3 l) : Calls Try.prog 75 #[.pointer (some ⟨g, 0, none⟩)] w fun e w' => e = .returned (.pointer (some ⟨g, 1 + 128 * 2, none⟩)) ∧ w' = w := by
  have k0 := key_kind h
  clear h
  go_enter Try.func75, Try.ntmps75
  go_wp2
  go_ret
  exact ⟨rfl, rfl⟩
theorem last_any (g K : Nat) (l : List UInt8) (w : World) (hK : K = 2 ∨ K = 3) (h : Key w g K l) : Calls Try.prog 75 #[.pointer (some ⟨g, 0, none⟩)] w fun e w' => e = .returned (.pointer (some ⟨g, 1 + 128 * (if K = 2 then 0 else 2), none⟩)) ∧ w' = w := by
  rcases hK with rfl | rfl
  · exact last_two g l w h
  · exact last_three g l w h
theorem encP (l : List UInt8) (p K g : Nat) (hp : p < K) (hK : K ≤ 3) (x : List Bool) (hx : Hid (x.length = 64)) (w : World) (h : Key w g K l) :
    Calls Try.prog 74 #[.pointer (some ⟨g, 1 + 128 * p, none⟩), .int .u64 (val x : Int)] w fun e w' => e = .returned (.int .u64 (val (des (sc l p) x) : Int)) ∧ Below w.heap.size w w' :=
  enc_any (sc l p) (sc_len l p) (sc_lens l p) x hx g (1 + 128 * p) w (key_lt h) (part_range h hp hK)
theorem decP (l : List UInt8) (p K g : Nat) (hp : p < K) (hK : K ≤ 3) (x : List Bool) (hx : Hid (x.length = 64)) (w : World) (h : Key w g K l) :
    Calls Try.prog 76 #[.pointer (some ⟨g, 1 + 128 * p, none⟩), .int .u64 (val x : Int)] w fun e w' => e = .returned (.int .u64 (val (des (sc l p).reverse x) : Int)) ∧ Below w.heap.size w w' :=
  dec_any (sc l p) (sc_len l p) (sc_lens l p) x hx g (1 + 128 * p) w (key_lt h) (part_range h hp hK)
set_option maxRecDepth 100000 in
set_option maxHeartbeats 1600000 in
theorem enc_one (l : List UInt8) (g : Nat) (x : List Bool) (hx : Hid (x.length = 64)) (w : World) (h : Key w g 1 l) :
    Calls Try.prog 53 #[.pointer (some ⟨g, 0, none⟩), .int .u64 (val x : Int)] w fun e w' => e = .returned (.int .u64 (val (des (sc l 0) x) : Int)) ∧ Below w.heap.size w w' := by
  have E := encP l 0 1 g (by decide) (by decide) x hx w h
  have k0 := key_kind h
  go_enter Try.func53, Try.ntmps53
  go_wp2_with (first
    | (go_at_call 74; refine E.mono ?_; rintro e y ⟨rfl, hy⟩; have k1 := key_kind (key_kept hy h)))
  go_ret
  exact ⟨rfl, hy⟩
set_option maxRecDepth 100000 in
set_option maxHeartbeats 1600000 in
theorem enc_more (l : List UInt8) (g K : Nat) (hK : K = 2 ∨ K = 3) (x : List Bool) (hx : Hid (x.length = 64)) (w : World) (h : Key w g K l) :
    Calls Try.prog 53 #[.pointer (some ⟨g, 0, none⟩), .int .u64 (val x : Int)] w fun e w' => e = .returned (.int .u64 (val (des (sc l (if K = 2 then 0 else 2)) (des (sc l 1).reverse (des (sc l 0) x))) : Int)) ∧ Below w.heap.size w w' := by
  have E := encP l 0 K g (by omega) (by omega) x hx w h
  have q1 : ((K : Int) == 1) = false := beq_eq_false_iff_ne.mpr (by omega)
  have k0 := key_kind h
  have LA := fun y (hy : Below w.heap.size w y) => last_any g K l y hK (key_kept hy h)
  have DE := fun y (hy : Below w.heap.size w y) => decP l 1 K g (by omega) (by omega) (des (sc l 0) x) (des_len _ _) y (key_kept hy h)
  have E2 := fun y (hy : Below w.heap.size w y) => encP l (if K = 2 then 0 else 2) K g (by split <;> omega) (by omega) (des (sc l 1).reverse (des (sc l 0) x)) (des_len _ _) y (key_kept hy h)
  have hm : ∃ m, m = (if K = 2 then 0 else 2) := ⟨_, rfl⟩
  obtain ⟨m, hm⟩ := hm
  rw [← hm] at LA E2 ⊢
  clear hm
  go_enter Try.func53, Try.ntmps53
  go_wp2_with (first
    | (go_at_call 74; refine E.mono ?_; rintro e y ⟨rfl, hy⟩; have k1 := key_kind (key_kept hy h)))
  refine Ql.region_cl (by kernel_rfl) (by kernel_rfl) ?_
  repeat (refine wpQuiet_step (fun K hK => ?_); first
    | (go_simp; apply Exists.intro; refine ⟨fun z hz => ?_, hK _ ?_⟩; (first | (go_at_call 75; exact Ql.cl_same hz (LA z (keepB hy hz))) | (go_at_call 76; exact Ql.cl_of hz (DE z (keepB hy hz))) | (go_at_call 74; exact Ql.cl_of hz (E2 z (keepB hy hz)))); clear hK K)
    | (go_simp; refine hK _ ?_; clear hK K)
    | (go_simp; refine ⟨_, fun _ _ => rfl, hK _ ?_⟩; clear hK K)
    | (go_simp; refine ⟨_, fun _ _ => ⟨rfl, rfl⟩, hK _ ?_⟩; clear hK K))
  refine wpQuiet_nil ?_
  intro y1 hy1
  go_wp2
  go_ret
  exact ⟨rfl, keepB hy hy1⟩
set_option maxRecDepth 100000 in
set_option maxHeartbeats 1600000 in
theorem dec_one (l : List UInt8) (g : Nat) (x : List Bool) (hx : Hid (x.length = 64)) (w : World) (h : Key w g 1 l) :
    Calls Try.prog 64 #[.pointer (some ⟨g, 0, none⟩), .int .u64 (val x : Int)] w fun e w' => e = .returned (.int .u64 (val (des (sc l 0).reverse x) : Int)) ∧ Below w.heap.size w w' := by
  have E := decP l 0 1 g (by decide) (by decide) x hx w h
  have k0 := key_kind h
  go_enter Try.func64, Try.ntmps64
  go_wp2_with (first
    | (go_at_call 76; refine E.mono ?_; rintro e y ⟨rfl, hy⟩))
  go_ret
  exact ⟨rfl, hy⟩
set_option maxRecDepth 100000 in
set_option maxHeartbeats 1600000 in
theorem dec_more (l : List UInt8) (g K : Nat) (hK : K = 2 ∨ K = 3) (x : List Bool) (hx : Hid (x.length = 64)) (w : World) (h : Key w g K l) :
    Calls Try.prog 64 #[.pointer (some ⟨g, 0, none⟩), .int .u64 (val x : Int)] w fun e w' => e = .returned (.int .u64 (val (des (sc l 0).reverse (des (sc l 1) (des (sc l (if K = 2 then 0 else 2)).reverse x))) : Int)) ∧ Below w.heap.size w w' := by
  have q1 : ((K : Int) == 1) = false := beq_eq_false_iff_ne.mpr (by omega)
  have k0 := key_kind h
  have LA := fun y (hy : Below w.heap.size w y) => last_any g K l y hK (key_kept hy h)
  have D1 := fun y (hy : Below w.heap.size w y) => decP l (if K = 2 then 0 else 2) K g (by split <;> omega) (by omega) x hx y (key_kept hy h)
  have E2 := fun y (hy : Below w.heap.size w y) => encP l 1 K g (by omega) (by omega) (des (sc l (if K = 2 then 0 else 2)).reverse x) (des_len _ _) y (key_kept hy h)
  have D3 := fun y (hy : Below w.heap.size w y) => decP l 0 K g (by omega) (by omega) (des (sc l 1) (des (sc l (if K = 2 then 0 else 2)).reverse x)) (des_len _ _) y (key_kept hy h)
  have hm : ∃ m, m = (if K = 2 then 0 else 2) := ⟨_, rfl⟩
  obtain ⟨m, hm⟩ := hm
  rw [← hm] at LA D1 E2 D3 ⊢
  clear hm
  go_enter Try.func64, Try.ntmps64
  go_wp2_with fail
  refine Ql.region_cl (by kernel_rfl) (by kernel_rfl) ?_
  repeat (refine wpQuiet_step (fun K hK => ?_); first
    | (go_simp; apply Exists.intro; refine ⟨fun z hz => ?_, hK _ ?_⟩; (first | (go_at_call 75; exact Ql.cl_same hz (LA z hz)) | (go_at_call 76; exact Ql.cl_of hz (D1 z hz)) | (go_at_call 74; exact Ql.cl_of hz (E2 z hz))); clear hK K)
    | (go_simp; refine hK _ ?_; clear hK K)
    | (go_simp; refine ⟨_, fun _ _ => rfl, hK _ ?_⟩; clear hK K)
    | (go_simp; refine ⟨_, fun _ _ => ⟨rfl, rfl⟩, hK _ ?_⟩; clear hK K))
  refine wpQuiet_nil ?_
  intro y1 hy1
  go_wp2_with (first
    | (go_at_call 76; refine (D3 y1 hy1).mono ?_; rintro e y ⟨rfl, hy⟩))
  go_ret
  exact ⟨rfl, keepB hy1 hy⟩
/-- the number of a key's parts -/
theorem encB (l : List UInt8) (g K : Nat) (hK : Hid (kindN l.length = K ∧ 1 ≤ K)) (x : List Bool) (hx : Hid (x.length = 64)) (w : World) (h : Key w g K l) :
    Calls Try.prog 53 #[.pointer (some ⟨g, 0, none⟩), .int .u64 (val x : Int)] w fun e w' => e = .returned (.int .u64 (val (enc l x) : Int)) ∧ Below w.heap.size w w' := by
  obtain ⟨h1, h2⟩ := hK.out
  unfold kindN at h1
  by_cases c1 : l.length = 8
  · rw [if_pos c1] at h1
    rw [enc, if_pos c1]
    subst h1
    exact enc_one l g x hx w h
  · rw [if_neg c1] at h1
    rw [enc, if_neg c1, lst]
    by_cases c2 : l.length = 16
    · rw [if_pos c2] at h1
      rw [if_pos c2]
      subst h1
      exact enc_more l g 2 (.inl rfl) x hx w h
    · rw [if_neg c2] at h1
      rw [if_neg c2]
      by_cases c3 : l.length = 24
      · rw [if_pos c3] at h1
        subst h1
        exact enc_more l g 3 (.inr rfl) x hx w h
      · rw [if_neg c3] at h1
        omega
theorem decB (l : List UInt8) (g K : Nat) (hK : Hid (kindN l.length = K ∧ 1 ≤ K)) (x : List Bool) (hx : Hid (x.length = 64)) (w : World) (h : Key w g K l) :
    Calls Try.prog 64 #[.pointer (some ⟨g, 0, none⟩), .int .u64 (val x : Int)] w fun e w' => e = .returned (.int .u64 (val (dec l x) : Int)) ∧ Below w.heap.size w w' := by
  obtain ⟨h1, h2⟩ := hK.out
  unfold kindN at h1
  by_cases c1 : l.length = 8
  · rw [if_pos c1] at h1
    rw [dec, if_pos c1]
    subst h1
    exact dec_one l g x hx w h
  · rw [if_neg c1] at h1
    rw [dec, if_neg c1, lst]
    by_cases c2 : l.length = 16
    · rw [if_pos c2] at h1
      rw [if_pos c2]
      subst h1
      exact dec_more l g 2 (.inl rfl) x hx w h
    · rw [if_neg c2] at h1
      rw [if_neg c2]
      by_cases c3 : l.length = 24
      · rw [if_pos c3] at h1
        subst h1
        exact dec_more l g 3 (.inr rfl) x hx w h
      · rw [if_neg c3] at h1
        omega
end Go.Proofs.Ytciblmdpngnakaa.Bk
/- appendWord: eight bytes more. -/
namespace Go.Proofs.Ytciblmdpngnakaa.Aw
set_option linter.unusedVariables false
open Go.RowKit Pla Cb Tk Lib0
theorem info : (Try.prog.info? 5).map (fun i => (i.zero, i.size, i.bytes)) = some (some (.int .u8 0), 1, 1) := by kernel_rfl
def byt (x : List Bool) (k : Nat) : Nat := val ((x.drop (8 * k)).take 8)
theorem byt_lt (x : List Bool) (k : Nat) : byt x k < 256 := by
  have := val_lt ((x.drop (8 * k)).take 8)
  exact Nat.lt_of_lt_of_le this (Nat.pow_le_pow_right (n := 2) (by decide) (show ((x.drop (8 * k)).take 8).length ≤ 8 by rw [List.length_take]; omega))
theorem byt_val (x : List Bool) (k : Nat) (hx : x.length = 64) (hk : k < 8) : byt x k = val x / 2 ^ (56 - 8 * k) % 256 := by
  have e : x = x.take (8 * k) ++ ((x.drop (8 * k)).take 8 ++ x.drop (8 * k + 8)) := by
    rw [← List.drop_drop, List.take_append_drop, List.take_append_drop]
  have l1 : (x.drop (8 * k + 8)).length = 56 - 8 * k := by rw [List.length_drop, hx]; omega
  have l2 : ((x.drop (8 * k)).take 8).length = 8 := by rw [List.length_take, List.length_drop, hx]; omega
  have v1 := val_lt (x.drop (8 * k + 8))
  have v2 := val_lt ((x.drop (8 * k)).take 8)
  rw [l1] at v1
  rw [l2] at v2
  have e2 : val x = (val (x.take (8 * k)) * 256 + byt x k) * 2 ^ (56 - 8 * k) + val (x.drop (8 * k + 8)) := by
    conv => lhs; rw [e]
    rw [← List.append_assoc, val_append, val_append, l1, l2]; rfl
  rw [e2]
  have p : 0 < 2 ^ (56 - 8 * k) := Nat.pow_pos (by decide)
  rw [Nat.mul_comm _ (2 ^ (56 - 8 * k)), Nat.mul_add_div p, Nat.div_eq_of_lt v1]
  have : byt x k < 256 := byt_lt x k
  omega
theorem byW_take (x : List Bool) (k : Nat) (hk : k < 8) : (byW x).take (k + 1) = (byW x).take k ++ [UInt8.ofNat (byt x k)] := by
  rw [List.take_succ_eq_append_getElem (by rw [byW_len]; exact hk)]
  simp [byW, byt]
theorem bs_snoc (l : List UInt8) (x : List Bool) (k : Nat) (hk : k < 8) : bs (l ++ (byW x).take (k + 1)) = bs (l ++ (byW x).take k) ++ [.int .u8 (byt x k : Int)] := by
  rw [byW_take x k hk, ← List.append_assoc, bs_append]
  congr 1
  have := byt_lt x k
  simp [bs]; omega
set_option maxRecDepth 100000 in
set_option maxHeartbeats 1600000 in
theorem appw (x : List Bool) (hx : Hid (x.length = 64)) (B n : Nat) (v : Value) (l : List UInt8) (w : World) (hown : w.ownsRow B 5 1 v n (bs l)) (hB : B ≤ w.heap.size) (hn : n ≤ 1099511627776) :
    Calls Try.prog 73 #[v, .int .u64 (val x : Int)] w fun e w' => ∃ v', e = .returned v' ∧ w'.ownsRow B 5 1 v' (n + 8) (bs (l ++ byW x)) ∧ Below B w w' := by
  obtain ⟨i0, hi, hz0, hz1, hz2⟩ := info_parts info
  go_enter Try.func73, Try.ntmps73
  go_wp2
  go_loopw [0, 5] (fun v c wr => ∃ k m : Nat, ((k < 8 ∧ Hid (m + 8 * k = 56) ∧ c = .int .i64 (m : Int)) ∨ (k = 8 ∧ c = .int .i64 (-8))) ∧ wr.ownsRow B 5 1 v (n + k) (bs (l ++ (byW x).take k)) ∧ Below B w wr) (fun _ c _ => (intOf c + 8).toNat)
  case atStart => exact ⟨0, 56, .inl ⟨by omega, rfl, rfl⟩, by simpa using hown, Below.refl _ _⟩
  case round =>
    obtain ⟨k, m, hc, hown, hb⟩ := hrel
    have hbs := hb.size
    rcases hc with ⟨hk, hm, rfl⟩ | ⟨rfl, rfl⟩
    · have mk := hm.out
      have q0 : (0 : Int) ≤ (m : Int) := by omega
      have q1 : (m : Int) ≤ 56 := by omega
      have u1 : (val x : Int) / 2 ^ m % 256 = (byt x k : Int) := by
        rw [byt_val x k hx.out hk, show 56 - 8 * k = m by omega]; simp
      have HN : Hid (bs (l ++ (byW x).take (k + 1)) = bs (l ++ (byW x).take k) ++ [.int .u8 (byt x k : Int)]) := bs_snoc l x k hk
      clear mk
      generalize hbk : byt x k = bb at *
      clear hbk
      go_wp2_with (at_builtin; refine wpList_append_lies _ rfl _ _ _ rfl B 5 i0 _ 1 1 Try.underlying65 hi hz0 hz1 hz2 rfl (by omega) _ (n + k) _ rfl (hown.alloc _) ⟨wr.heap.size, 0, none⟩ 1 1 _ rfl (by rfl) (World.news_of_block (heap_alloc_new wr _)) (by simp [Value.oneCell']) (by omega) (by unfold maxLen; omega) (by omega) (by first | omega | (simp <;> omega)) (wr.heap.size + 1) (by simp) ?_; intro gg cap w1 hown1 hgrow hat hlt1)
      have own1 : w1.ownsRow B 5 1 (.slice (some ⟨gg, 0, none⟩) (n + k + 1) cap) (n + (k + 1)) (bs (l ++ (byW x).take (k + 1))) := owns_len hown1 rfl (by omega) HN.out.symm
      have mk := hm.out
      refine ⟨?_, by simp only [intOf]; omega⟩
      by_cases h8 : k + 1 < 8
      · exact ⟨k + 1, m - 8, .inl ⟨h8, (by omega : m - 8 + 8 * (k + 1) = 56), by congr 1; omega⟩, own1, below_app0 hb (by omega) hown hgrow⟩
      · have e8 : k + 1 = 8 := by omega
        exact ⟨k + 1, 0, .inr ⟨e8, by congr 1; omega⟩, own1, below_app0 hb (by omega) hown hgrow⟩
    · go_wp2
      go_ret
      exact ⟨_, rfl, by rw [List.take_of_length_le (by rw [byW_len]; exact Nat.le_refl _)] at hown; exact hown, hb⟩
end Go.Proofs.Ytciblmdpngnakaa.Aw
