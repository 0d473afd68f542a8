/- PINs: what the statements make of raw numbers and texts. -/
import Derived.Test.YtciblmdpngnakabPq
import Derived.Test.YtciblmdpngnakabPick
namespace Go.Proofs.Ytciblmdpngnakab.La
set_option linter.unusedVariables false
set_option linter.unusedSimpArgs false
open Go.RowKit Lib0 Six Pp Cb Pick
open Pg (ba_ext)
def wh (c : Int) : Int := if pickOf c 3 = 0 then 0 else if pickOf c 3 = 1 then 1 else 3
theorem wh_kn (c : Int) : kn (wh c) = true := by
  unfold wh
  split
  · rfl
  · split <;> rfl
theorem which_any (c : Int) (h0 : -9223372036854775808 ≤ c) (h1 : c ≤ 9223372036854775807) (w : World) :
    Calls Try.prog 6 #[.int .i64 c] w fun e w' => e = .returned (.int .i64 (wh c)) ∧ Below w.heap.size w w' := by
  have P := fun u => pick_any c 3 u h0 h1 (by decide) (by decide)
  have l := pick_lo c 3 (by decide)
  have g := pick_hi c 3 (by decide)
  unfold wh
  have : pickOf c 3 = 0 ∨ pickOf c 3 = 1 ∨ pickOf c 3 = 2 := by omega
  rcases this with h | h | h
  all_goals
    rw [h] at P ⊢
    clear h l g
    go_enter Try.func6, Try.ntmps6
    go_wp2_with fail
    refine (P _).mono ?_
    rintro e u ⟨rfl, hu⟩
    rw [hu]
    clear hu u
    go_wp2
    go_ret
    exact ⟨by simp, below_one w _⟩
def rc (m : Nat) (s : ByteArray) (k : Nat) : Nat := if h : k < s.size then (s[k]'h).toNat else m * k
theorem rc_le (m : Nat) (s : ByteArray) (k : Nat) (hm : m ≤ 7) (hk : k ≤ 100) : rc m s k ≤ 1000 := by
  unfold rc
  split
  · rename_i h
    have := (s[k]'h).toNat_lt
    omega
  · have := Nat.mul_le_mul hm hk
    omega
set_option maxRecDepth 100000 in
set_option maxHeartbeats 1600000 in
theorem digits_any (s : ByteArray) (n : Nat) (hn : n ≤ 100) (hs : s.size ≤ maxLen) (w : World) :
    Calls Try.prog 8 #[.string s, .int .i64 (n : Int)] w fun e w' => ∃ D : ByteArray, e = .returned (.string D) ∧ D.size = n ∧ adg D = true ∧ Below w.heap.size w w' := by
  unfold maxLen at hs
  obtain ⟨i0, hi, hz0, hz1, hz2⟩ := info_parts Pg.info
  go_enter Try.func8, Try.ntmps8
  go_wp2
  go_loopw [5, 6] (fun v c wr => ∃ (k : Nat) (l : List UInt8), k ≤ n ∧ c = .int .i64 (k : Int) ∧ l.length = k ∧ l.all dg = true ∧ wr.ownsRow w.heap.size 5 1 v k (bs l) ∧ Below w.heap.size w wr) (fun _ c _ => n + 1 - (intOf c).toNat)
  case atStart => exact ⟨0, [], Nat.zero_le _, rfl, rfl, rfl, World.ownsRow_nil _ _ _ _, Below.refl _ _⟩
  case round =>
    obtain ⟨k, l, hk, rfl, hl, ha, hown, hbw⟩ := hrel
    have Hl : Hid (l.length = k ∧ l.all dg = true) := ⟨hl, ha⟩
    clear hl ha
    have hbs := hbw.size
    by_cases hlt : k < n
    · have q0 : (0 : Int) ≤ (k : Int) := by omega
      have q1 : (k : Int) < (n : Int) := by omega
      have q2 : (k : Int) < 100 := by omega
      obtain ⟨c, Hc⟩ : ∃ c : Nat, Hid (c = rc 7 s k) := ⟨_, rfl⟩
      have cc : c ≤ 1000 := by rw [Hc.out]; exact rc_le 7 s k (by decide) (by omega)
      have ec := Hc.out
      obtain ⟨d, Hd⟩ : ∃ d : Nat, Hid (48 + (c + 2) % 10 = d) := ⟨_, rfl⟩
      have ed := Hd.out
      have x0 : IntKind.i64.wrap (7 * (k : Int)) = 7 * (k : Int) := by rw [IntKind.wrap_i64]; omega
      have x1 : IntKind.i64.wrap ((c : Int) + 2) = (c : Int) + 2 := by rw [IntKind.wrap_i64]; omega
      have x2 : Int.tmod ((c : Int) + 2) 10 = ((c : Int) + 2) % 10 := Int.tmod_eq_emod_of_nonneg (by omega)
      have x3 : IntKind.i64.wrap (48 + ((c : Int) + 2) % 10) = (d : Int) := by rw [IntKind.wrap_i64]; omega
      have x3' : 48 + ((c : Int) + 2) % 10 = (d : Int) := by omega
      have x4 : IntKind.u8.wrap (d : Int) = (d : Int) := by rw [wrap_u8 _ (by omega) (by omega)]
      have x5 : IntKind.i64.wrap (d : Int) = (d : Int) := by rw [IntKind.wrap_i64]; omega
      have x6 : IntKind.i64.wrap (c : Int) = (c : Int) := by rw [IntKind.wrap_i64]; omega
      have HN : Hid (bs (l ++ [UInt8.ofNat d]) = bs l ++ [.int .u8 (d : Int)] ∧ (l ++ [UInt8.ofNat d]).length = k + 1 ∧ (l ++ [UInt8.ofNat d]).all dg = true) := (by
        refine ⟨?_, by rw [List.length_append, Hl.out.1]; rfl, ?_⟩
        · rw [bs_append]
          simp only [bs, List.map_cons, List.map_nil, UInt8.toNat_ofNat']
          rw [Nat.mod_eq_of_lt (by omega)]
        · rw [List.all_append, Hl.out.2]
          have : dg (UInt8.ofNat d) = true := by rw [dg_iff, UInt8.toNat_ofNat', Nat.mod_eq_of_lt (by omega)]; omega
          simp [this] : bs (l ++ [UInt8.ofNat d]) = bs l ++ [.int .u8 (d : Int)] ∧ (l ++ [UInt8.ofNat d]).length = k + 1 ∧ (l ++ [UInt8.ofNat d]).all dg = true)
      by_cases hks : k < s.size
      · have q3 : (k : Int) < (s.size : Int) := by omega
        rw [rc, dif_pos hks] at ec
        have e1 : (s[k].toNat : Int) = (c : Int) := by omega
        have e2 : (s[k].toNat : Int) < 256 := Lib0.toNat_lt _
        clear ec ed
        go_wp2_with (at_builtin; refine wpList_append_lies _ rfl _ _ _ rfl w.heap.size 5 i0 _ 1 1 Try.underlying33 hi hz0 hz1 hz2 rfl (by omega) _ k _ rfl (hown.alloc _) ⟨wr.heap.size, 0, none⟩ 1 1 _ rfl (by rfl) (World.news_of_block (heap_alloc_new wr _)) (by simp [Value.oneCell']) (by omega) (by unfold maxLen; omega) (by omega) (by first | omega | (simp <;> omega)) (wr.heap.size + 1) (by simp) ?_; intro gg cap w1 hown1 hgrow hat hlt1)
        exact ⟨⟨k + 1, _, by omega, by simp, HN.out.2.1, HN.out.2.2, owns_len hown1 rfl rfl HN.out.1.symm, below_app0 hbw hbs hown hgrow⟩, by simp only [intOf]; omega⟩
      · have q3 : ¬ (k : Int) < (s.size : Int) := by omega
        rw [rc, dif_neg hks] at ec
        have e1 : 7 * (k : Int) = (c : Int) := by omega
        clear ec ed x0
        go_wp2_with (at_builtin; refine wpList_append_lies _ rfl _ _ _ rfl w.heap.size 5 i0 _ 1 1 Try.underlying33 hi hz0 hz1 hz2 rfl (by omega) _ k _ rfl (hown.alloc _) ⟨wr.heap.size, 0, none⟩ 1 1 _ rfl (by rfl) (World.news_of_block (heap_alloc_new wr _)) (by simp [Value.oneCell']) (by omega) (by unfold maxLen; omega) (by omega) (by first | omega | (simp <;> omega)) (wr.heap.size + 1) (by simp) ?_; intro gg cap w1 hown1 hgrow hat hlt1)
        exact ⟨⟨k + 1, _, by omega, by simp, HN.out.2.1, HN.out.2.2, owns_len hown1 rfl rfl HN.out.1.symm, below_app0 hbw hbs hown hgrow⟩, by simp only [intOf]; omega⟩
    · obtain rfl : k = n := by omega
      have hcv := run_str (P := Try.prog) (src := 33) (dst := 9) Try.underlying33 Try.underlying5 Try.underlying9 hown
      go_wp2
      go_ret
      exact ⟨⟨l.toArray⟩, rfl, Hl.out.1, Hl.out.2, hbw⟩
def fh (f : Int) (s : ByteArray) (i : Nat) : Nat := if f = 3 then 10 + rc 5 s i % 6 else rc 5 s i % 16
theorem fh_lt (f : Int) (s : ByteArray) (i : Nat) : fh f s i < 16 := by unfold fh; split <;> omega
def filL (f : Int) (s : ByteArray) (j : Nat) : List UInt8 := (List.range j).map fun i => hx (fh f s i)
theorem filL_len (f : Int) (s : ByteArray) (j : Nat) : (filL f s j).length = j := by simp [filL]
theorem filL_succ (f : Int) (s : ByteArray) (j : Nat) : filL f s (j + 1) = filL f s j ++ [hx (fh f s j)] := by simp [filL, List.range_succ]
def filS (f : Int) (s : ByteArray) (n : Nat) : ByteArray := if f = 0 then ⟨#[]⟩ else ⟨(filL f s (14 - n)).toArray⟩
theorem fil_size (f : Int) (s : ByteArray) (n : Nat) : (filS f s n).size ≤ 14 := by
  unfold filS
  split
  · show (0 : Nat) ≤ 14; omega
  · rw [← sz]
    show (filL f s (14 - n)).length ≤ 14
    rw [filL_len]; omega
theorem fil_ok (f : Int) (s : ByteArray) (n : Nat) (hn : n ≤ 14) : fillB f (filS f s n) (14 - n) = true := by
  unfold fillB filS
  by_cases h0 : f = 0
  · rw [if_pos h0, if_pos h0]; rfl
  · rw [if_neg h0, if_neg h0, Bool.and_eq_true]
    constructor
    · rw [decide_eq_true_eq, ← sz]
      show (((filL f s (14 - n)).length : Nat) : Int) = _
      rw [filL_len]; omega
    · rw [List.all_eq_true]
      intro c hc
      have hc' : c ∈ filL f s (14 - n) := hc
      simp only [filL, List.mem_map] at hc'
      obtain ⟨i, _, rfl⟩ := hc'
      have hl := fh_lt f s i
      unfold fc isSix
      rw [six_hx _ hl, Bool.and_eq_true]
      refine ⟨by simp, ?_⟩
      rw [decide_eq_true_eq, Int.toNat_natCast]
      unfold flr
      rw [if_neg h0]
      split
      · rename_i h3
        unfold fh
        rw [if_pos h3]; omega
      · omega
set_option maxRecDepth 100000 in
theorem filling_zero (f : Int) (h0 : (f == 0) = true) (s : ByteArray) (n : Int) (w : World) :
    Calls Try.prog 13 #[.int .i64 f, .string s, .int .i64 n] w fun e w' => e = .returned (.string ⟨#[]⟩) ∧ Below w.heap.size w w' := by
  go_enter Try.func13, Try.ntmps13
  go_wp2
  go_ret
  exact ⟨rfl, Below.refl _ _⟩
set_option maxRecDepth 100000 in
set_option maxHeartbeats 1600000 in
theorem filling_3 (f : Int) (h0 : (f == 0) = false) (h3 : (f == 3) = true) (s : ByteArray) (n : Nat) (hn : n ≤ 12) (hs : s.size ≤ maxLen) (w : World) :
    Calls Try.prog 13 #[.int .i64 f, .string s, .int .i64 (n : Int)] w fun e w' => e = .returned (.string ⟨(filL f s (14 - n)).toArray⟩) ∧ Below w.heap.size w w' := by
  unfold maxLen at hs
  obtain ⟨i0, hi, hz0, hz1, hz2⟩ := info_parts Pg.info
  obtain ⟨m, Hm⟩ : ∃ m : Nat, Hid (14 - n = m) := ⟨_, rfl⟩
  have em := Hm.out
  have y1 : IntKind.i64.wrap (14 - (n : Int)) = (m : Int) := by rw [IntKind.wrap_i64]; omega
  have y2 : 14 - (n : Int) = (m : Int) := by omega
  have y3 : IntKind.i64.wrap (m : Int) = (m : Int) := by rw [IntKind.wrap_i64]; omega
  have m14 : m ≤ 14 := by omega
  rw [em]
  clear em
  go_enter Try.func13, Try.ntmps13
  go_wp2
  go_loopw [7, 8] (fun v c wr => ∃ k : Nat, k ≤ m ∧ c = .int .i64 (k : Int) ∧ wr.ownsRow w.heap.size 5 1 v k (bs (filL f s k)) ∧ Below w.heap.size w wr) (fun _ c _ => m + 1 - (intOf c).toNat)
  case atStart => exact ⟨0, Nat.zero_le _, rfl, World.ownsRow_nil _ _ _ _, Below.refl _ _⟩
  case round =>
    obtain ⟨k, hk, rfl, hown, hbw⟩ := hrel
    have hbs := hbw.size
    by_cases hlt : k < m
    · have q0 : (0 : Int) ≤ (k : Int) := by omega
      have q1 : (k : Int) < (m : Int) := by omega
      obtain ⟨c, Hc⟩ : ∃ c : Nat, Hid (c = rc 5 s k) := ⟨_, rfl⟩
      have cc : c ≤ 1000 := by rw [Hc.out]; exact rc_le 5 s k (by decide) (by omega)
      have ec := Hc.out
      obtain ⟨d, Hd⟩ : ∃ d : Nat, Hid (fh f s k = d) := ⟨_, rfl⟩
      have ed : (d : Int) = 10 + (c : Int) % 6 := by
        have := Hd.out
        unfold fh at this
        rw [if_pos (by simpa using h3), ← ec] at this
        omega
      have d16 : d < 16 := by rw [← Hd.out]; exact fh_lt f s k
      have HN : Hid (bs (filL f s (k + 1)) = bs (filL f s k) ++ [.int .u8 ((hx d).toNat : Int)]) := (by rw [filL_succ, bs_append, Hd.out]; rfl : bs (filL f s (k + 1)) = bs (filL f s k) ++ [.int .u8 ((hx d).toNat : Int)])
      have gx := hx_get d d16
      have x1 : Int.tmod (c : Int) 6 = (c : Int) % 6 := Int.tmod_eq_emod_of_nonneg (by omega)
      have x2 : 10 + (c : Int) % 6 = (d : Int) := ed.symm
      have x3 : IntKind.i64.wrap (d : Int) = (d : Int) := by rw [IntKind.wrap_i64]; omega
      have x4 : (d : Int) < 16 := by omega
      have x5 : (0 : Int) ≤ (d : Int) := by omega
      have x6 : IntKind.i64.wrap (c : Int) = (c : Int) := by rw [IntKind.wrap_i64]; omega
      by_cases hks : k < s.size
      · have q3 : (k : Int) < (s.size : Int) := by omega
        rw [rc, dif_pos hks] at ec
        have e1 : (s[k].toNat : Int) = (c : Int) := by omega
        have e2 : (s[k].toNat : Int) < 256 := Lib0.toNat_lt _
        clear ec ed
        go_wp2_with (at_builtin; refine wpList_append_lies _ rfl _ _ _ rfl w.heap.size 5 i0 _ 1 1 Try.underlying33 hi hz0 hz1 hz2 rfl (by omega) _ k _ rfl (hown.alloc _) ⟨wr.heap.size, 0, none⟩ 1 1 _ rfl (by rfl) (World.news_of_block (heap_alloc_new wr _)) (by simp [Value.oneCell']) (by omega) (by unfold maxLen; omega) (by omega) (by first | omega | (simp <;> omega)) (wr.heap.size + 1) (by simp) ?_; intro gg cap w1 hown1 hgrow hat hlt1)
        exact ⟨⟨k + 1, by omega, by simp, owns_len hown1 rfl rfl HN.out.symm, below_app0 hbw hbs hown hgrow⟩, by simp only [intOf]; omega⟩
      · have q3 : ¬ (k : Int) < (s.size : Int) := by omega
        rw [rc, dif_neg hks] at ec
        have e1 : 5 * (k : Int) = (c : Int) := by omega
        clear ec ed
        go_wp2_with (at_builtin; refine wpList_append_lies _ rfl _ _ _ rfl w.heap.size 5 i0 _ 1 1 Try.underlying33 hi hz0 hz1 hz2 rfl (by omega) _ k _ rfl (hown.alloc _) ⟨wr.heap.size, 0, none⟩ 1 1 _ rfl (by rfl) (World.news_of_block (heap_alloc_new wr _)) (by simp [Value.oneCell']) (by omega) (by unfold maxLen; omega) (by omega) (by first | omega | (simp <;> omega)) (wr.heap.size + 1) (by simp) ?_; intro gg cap w1 hown1 hgrow hat hlt1)
        exact ⟨⟨k + 1, by omega, by simp, owns_len hown1 rfl rfl HN.out.symm, below_app0 hbw hbs hown hgrow⟩, by simp only [intOf]; omega⟩
    · obtain rfl : k = m := by omega
      have hcv := run_str (P := Try.prog) (src := 33) (dst := 9) Try.underlying33 Try.underlying5 Try.underlying9 hown
      go_wp2
      go_ret
      exact ⟨rfl, hbw⟩
set_option maxRecDepth 100000 in
set_option maxHeartbeats 1600000 in
theorem filling_1 (f : Int) (h0 : (f == 0) = false) (h3 : (f == 3) = false) (s : ByteArray) (n : Nat) (hn : n ≤ 12) (hs : s.size ≤ maxLen) (w : World) :
    Calls Try.prog 13 #[.int .i64 f, .string s, .int .i64 (n : Int)] w fun e w' => e = .returned (.string ⟨(filL f s (14 - n)).toArray⟩) ∧ Below w.heap.size w w' := by
  unfold maxLen at hs
  obtain ⟨i0, hi, hz0, hz1, hz2⟩ := info_parts Pg.info
  obtain ⟨m, Hm⟩ : ∃ m : Nat, Hid (14 - n = m) := ⟨_, rfl⟩
  have em := Hm.out
  have y1 : IntKind.i64.wrap (14 - (n : Int)) = (m : Int) := by rw [IntKind.wrap_i64]; omega
  have y2 : 14 - (n : Int) = (m : Int) := by omega
  have y3 : IntKind.i64.wrap (m : Int) = (m : Int) := by rw [IntKind.wrap_i64]; omega
  have m14 : m ≤ 14 := by omega
  rw [em]
  clear em
  go_enter Try.func13, Try.ntmps13
  go_wp2
  go_loopw [7, 8] (fun v c wr => ∃ k : Nat, k ≤ m ∧ c = .int .i64 (k : Int) ∧ wr.ownsRow w.heap.size 5 1 v k (bs (filL f s k)) ∧ Below w.heap.size w wr) (fun _ c _ => m + 1 - (intOf c).toNat)
  case atStart => exact ⟨0, Nat.zero_le _, rfl, World.ownsRow_nil _ _ _ _, Below.refl _ _⟩
  case round =>
    obtain ⟨k, hk, rfl, hown, hbw⟩ := hrel
    have hbs := hbw.size
    by_cases hlt : k < m
    · have q0 : (0 : Int) ≤ (k : Int) := by omega
      have q1 : (k : Int) < (m : Int) := by omega
      obtain ⟨c, Hc⟩ : ∃ c : Nat, Hid (c = rc 5 s k) := ⟨_, rfl⟩
      have cc : c ≤ 1000 := by rw [Hc.out]; exact rc_le 5 s k (by decide) (by omega)
      have ec := Hc.out
      obtain ⟨d, Hd⟩ : ∃ d : Nat, Hid (fh f s k = d) := ⟨_, rfl⟩
      have ed : (d : Int) = (c : Int) % 16 := by
        have := Hd.out
        unfold fh at this
        rw [if_neg (by simpa using h3), ← ec] at this
        omega
      have d16 : d < 16 := by rw [← Hd.out]; exact fh_lt f s k
      have HN : Hid (bs (filL f s (k + 1)) = bs (filL f s k) ++ [.int .u8 ((hx d).toNat : Int)]) := (by rw [filL_succ, bs_append, Hd.out]; rfl : bs (filL f s (k + 1)) = bs (filL f s k) ++ [.int .u8 ((hx d).toNat : Int)])
      have gx := hx_get d d16
      have x1 : Int.tmod (c : Int) 16 = (c : Int) % 16 := Int.tmod_eq_emod_of_nonneg (by omega)
      have x2 : (c : Int) % 16 = (d : Int) := ed.symm
      have x3 : IntKind.i64.wrap (d : Int) = (d : Int) := by rw [IntKind.wrap_i64]; omega
      have x4 : (d : Int) < 16 := by omega
      have x5 : (0 : Int) ≤ (d : Int) := by omega
      have x6 : IntKind.i64.wrap (c : Int) = (c : Int) := by rw [IntKind.wrap_i64]; omega
      by_cases hks : k < s.size
      · have q3 : (k : Int) < (s.size : Int) := by omega
        rw [rc, dif_pos hks] at ec
        have e1 : (s[k].toNat : Int) = (c : Int) := by omega
        have e2 : (s[k].toNat : Int) < 256 := Lib0.toNat_lt _
        clear ec ed
        go_wp2_with (at_builtin; refine wpList_append_lies _ rfl _ _ _ rfl w.heap.size 5 i0 _ 1 1 Try.underlying33 hi hz0 hz1 hz2 rfl (by omega) _ k _ rfl (hown.alloc _) ⟨wr.heap.size, 0, none⟩ 1 1 _ rfl (by rfl) (World.news_of_block (heap_alloc_new wr _)) (by simp [Value.oneCell']) (by omega) (by unfold maxLen; omega) (by omega) (by first | omega | (simp <;> omega)) (wr.heap.size + 1) (by simp) ?_; intro gg cap w1 hown1 hgrow hat hlt1)
        exact ⟨⟨k + 1, by omega, by simp, owns_len hown1 rfl rfl HN.out.symm, below_app0 hbw hbs hown hgrow⟩, by simp only [intOf]; omega⟩
      · have q3 : ¬ (k : Int) < (s.size : Int) := by omega
        rw [rc, dif_neg hks] at ec
        have e1 : 5 * (k : Int) = (c : Int) := by omega
        clear ec ed
        go_wp2_with (at_builtin; refine wpList_append_lies _ rfl _ _ _ rfl w.heap.size 5 i0 _ 1 1 Try.underlying33 hi hz0 hz1 hz2 rfl (by omega) _ k _ rfl (hown.alloc _) ⟨wr.heap.size, 0, none⟩ 1 1 _ rfl (by rfl) (World.news_of_block (heap_alloc_new wr _)) (by simp [Value.oneCell']) (by omega) (by unfold maxLen; omega) (by omega) (by first | omega | (simp <;> omega)) (wr.heap.size + 1) (by simp) ?_; intro gg cap w1 hown1 hgrow hat hlt1)
        exact ⟨⟨k + 1, by omega, by simp, owns_len hown1 rfl rfl HN.out.symm, below_app0 hbw hbs hown hgrow⟩, by simp only [intOf]; omega⟩
    · obtain rfl : k = m := by omega
      have hcv := run_str (P := Try.prog) (src := 33) (dst := 9) Try.underlying33 Try.underlying5 Try.underlying9 hown
      go_wp2
      go_ret
      exact ⟨rfl, hbw⟩
theorem filling_any (f : Int) (s : ByteArray) (n : Nat) (hn : n ≤ 12) (hs : s.size ≤ maxLen) (w : World) :
    Calls Try.prog 13 #[.int .i64 f, .string s, .int .i64 (n : Int)] w fun e w' => e = .returned (.string (filS f s n)) ∧ Below w.heap.size w w' := by
  by_cases h0 : f = 0
  · have e : filS f s n = ⟨#[]⟩ := by unfold filS; rw [if_pos h0]
    rw [e]
    exact filling_zero f (by simpa using h0) s n w
  · have e : filS f s n = ⟨(filL f s (14 - n)).toArray⟩ := by unfold filS; rw [if_neg h0]
    rw [e]
    by_cases h3 : f = 3
    · exact filling_3 f (by simpa using h0) (by simpa using h3) s n hn hs w
    · exact filling_1 f (by simpa using h0) (by simpa using h3) s n hn hs w
end Go.Proofs.Ytciblmdpngnakab.La
