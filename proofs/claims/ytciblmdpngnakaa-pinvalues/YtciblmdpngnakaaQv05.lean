import Derived.Test.YtciblmdpngnakaaQv03
import Derived.Test.YtciblmdpngnakaaQv04
import Derived.Test.YtciblmdpngnakaaQv02
/- PINs: layouts, how they pack and read. -/
namespace Go.Proofs.Ytciblmdpngnakaa.Pg
set_option linter.unusedVariables false
open Go.RowKit Lib0 Six Pp Pf Cb
def ly (b g : Bool) (t : Nat) : Value := .agg #[.bool b, .bool g, .int .u8 (t : Int)]
set_option maxRecDepth 100000 in
theorem layout0 (w : World) : Calls Try.prog 24 #[.int .i64 0] w fun e w' => e = .returned (.tuple #[.agg #[.bool true, .bool false, .int .u8 70], .bool true]) ∧ Below w.heap.size w w' := by
  go_enter Try.func24, Try.ntmps24
  go_wp2
  exact bodyPost_ret (v := .tuple #[.agg #[.bool true, .bool false, .int .u8 70], .bool true]) (by simp [results, Try.results24, go_sem]) rfl ⟨rfl, below_one w _⟩
set_option maxRecDepth 100000 in
theorem layout1 (w : World) : Calls Try.prog 24 #[.int .i64 1] w fun e w' => e = .returned (.tuple #[.agg #[.bool false, .bool true, .int .u8 48], .bool true]) ∧ Below w.heap.size w w' := by
  go_enter Try.func24, Try.ntmps24
  go_wp2
  exact bodyPost_ret (v := .tuple #[.agg #[.bool false, .bool true, .int .u8 48], .bool true]) (by simp [results, Try.results24, go_sem]) rfl ⟨rfl, below_one w _⟩
set_option maxRecDepth 100000 in
theorem layout3 (w : World) : Calls Try.prog 24 #[.int .i64 3] w fun e w' => e = .returned (.tuple #[.agg #[.bool true, .bool true, .int .u8 65], .bool true]) ∧ Below w.heap.size w w' := by
  go_enter Try.func24, Try.ntmps24
  go_wp2
  exact bodyPost_ret (v := .tuple #[.agg #[.bool true, .bool true, .int .u8 65], .bool true]) (by simp [results, Try.results24, go_sem]) rfl ⟨rfl, below_one w _⟩
set_option maxRecDepth 100000 in
theorem layoutN (f : Int) (h0 : (f == 0) = false) (h1 : (f == 1) = false) (h3 : (f == 3) = false) (w : World) : Calls Try.prog 24 #[.int .i64 f] w fun e w' => e = .returned (.tuple #[.agg #[.bool false, .bool false, .int .u8 0], .bool false]) ∧ Below w.heap.size w w' := by
  go_enter Try.func24, Try.ntmps24
  go_wp2
  exact bodyPost_ret (v := .tuple #[.agg #[.bool false, .bool false, .int .u8 0], .bool false]) (by simp [results, Try.results24, go_sem]) rfl ⟨rfl, below_one w _⟩
def geB (t : Nat) (c : UInt8) : Bool := decide (t ≤ c.toNat)
def agB (t : Nat) (s : ByteArray) : Bool := s.data.toList.all (geB t)
theorem cell3 (w : World) (u v x : Value) (t : TypeId) : (w.alloc (.cells #[u, v, x] t)).cell? ⟨w.heap.size, 0, none⟩ = some u ∧ (w.alloc (.cells #[u, v, x] t)).cell? ⟨w.heap.size, 1, none⟩ = some v ∧ (w.alloc (.cells #[u, v, x] t)).cell? ⟨w.heap.size, 2, none⟩ = some x := by
  refine ⟨?_, ?_, ?_⟩ <;> (unfold World.cell?; rw [h1_0]; rfl)
set_option maxRecDepth 100000 in
theorem fills_any (b g : Bool) (t : Nat) (ht : t < 256) (s : ByteArray) (w : World) (hs : s.size ≤ maxLen) :
    Calls Try.prog 56 #[.agg #[.bool b, .bool g, .int .u8 (t : Int)], .string s] w fun e w' => e = .returned (.bool (agB t s)) ∧ Below w.heap.size w w' := by
  unfold maxLen at hs
  have t1 : (t : Int) < 256 := by omega
  have t0 : (0 : Int) ≤ (t : Int) := by omega
  go_enter Try.func56, Try.ntmps56
  go_wp2
  obtain ⟨-, -, c2⟩ := cell3 w (.bool b) (.bool g) (.int .u8 (t : Int)) 48
  have B0 := below_one w (.cells #[.bool b, .bool g, .int .u8 (t : Int)] 48)
  have hB : w.heap.size < (w.alloc (.cells #[.bool b, .bool g, .int .u8 (t : Int)] 48)).heap.size := by simp
  generalize w.alloc (.cells #[.bool b, .bool g, .int .u8 (t : Int)] 48) = y at *
  go_loopw [8] (fun i wr => ∃ k : Nat, k ≤ s.size ∧ i = .int .i64 k ∧ (s.data.toList.take k).all (geB t) = true ∧ Below y.heap.size y wr) (fun i _ => s.size - (intOf i).toNat)
  case atStart => exact ⟨0, Nat.zero_le _, rfl, rfl, Below.refl _ _⟩
  case round =>
    obtain ⟨k, hk, rfl, hal, hb⟩ := hrel
    have Hal : Hid ((s.data.toList.take k).all (geB t) = true) := hal
    have c := keepC hb c2 hB
    clear hal
    by_cases hlt : k < s.size
    · by_cases h1 : ((s[k].toNat : Nat) : Int) < (t : Int)
      · have hp : geB t s[k] = false := by unfold geB; rw [decide_eq_false_iff_not]; omega
        go_wp2_with fail
        go_quiet (fail)
        go_wp2
        go_ret
        exact ⟨ret_bool (show false = s.data.toList.all (geB t) from (all_no (geB t) s k hlt hp).symm), keepB B0 (below_drewN hb _)⟩
      · have hp : geB t s[k] = true := by unfold geB; rw [decide_eq_true_eq]; omega
        go_wp2_with fail
        go_quiet (fail)
        go_wp2
        go_roundw
        case rel => exact ⟨k + 1, by omega, by go_num, all_snoc (geB t) s k hlt Hal.out hp, below_drewN hb _⟩
        case measure => simp [intOf]; omega
    · go_wp2
      go_ret
      exact ⟨ret_bool (by have := Hal.out; rw [take_all s k (by omega)] at this; exact this.symm), keepB B0 hb⟩
def emB (s : ByteArray) : Bool := decide (s.size = 0)
theorem em_eq (s : ByteArray) : s.toList.isEmpty = emB s := by
  rw [ByteArray.toList_eq, Bool.eq_iff_iff, List.isEmpty_iff, emB, decide_eq_true_eq, ← List.length_eq_zero_iff, sz]
set_option maxRecDepth 100000 in
theorem takes_no (b : Bool) (t : Nat) (ht : t < 256) (s : ByteArray) (n : Int) (w : World) (hs : s.size ≤ maxLen) :
    Calls Try.prog 27 #[.agg #[.bool b, .bool false, .int .u8 (t : Int)], .string s, .int .i64 n] w fun e w' => e = .returned (.bool (emB s)) ∧ Below w.heap.size w w' := by
  have E := em_eq s
  go_enter Try.func27, Try.ntmps27
  go_wp2
  go_ret
  exact ⟨rfl, below_one w _⟩
set_option maxRecDepth 100000 in
theorem takes_yes (b : Bool) (t : Nat) (ht : t < 256) (s : ByteArray) (n : Int) (w : World) (hs : s.size ≤ maxLen) :
    Calls Try.prog 27 #[.agg #[.bool b, .bool true, .int .u8 (t : Int)], .string s, .int .i64 n] w fun e w' => e = .returned (.bool (decide ((s.size : Int) = n) && asx s && agB t s)) ∧ Below w.heap.size w w' := by
  have FI := fun y => fills_any b true t ht s y hs
  have AS := fun y => allSix_any s y hs
  have B0 := below_one w (.cells #[.bool b, .bool true, .int .u8 (t : Int)] 48)
  have M := h1_0 w (.cells #[.bool b, .bool true, .int .u8 (t : Int)] 48)
  by_cases hn : ((s.size : Int) == n) = true
  · have e : decide ((s.size : Int) = n) = true := by simpa using hn
    rw [e, Bool.true_and]
    clear e
    cases ha : asx s
    · rw [ha] at AS
      go_enter Try.func27, Try.ntmps27
      go_wp2_with fail
      refine (AS _).mono ?_
      rintro e w' ⟨rfl, rfl⟩
      go_wp2
      go_ret
      exact ⟨by simp, B0⟩
    · rw [ha] at AS
      rw [Bool.true_and]
      go_enter Try.func27, Try.ntmps27
      go_wp2_with fail
      refine (AS _).mono ?_
      rintro e w' ⟨rfl, rfl⟩
      go_wp2_with fail
      refine (FI _).mono ?_
      rintro e w' ⟨rfl, h⟩
      go_wp2
      go_ret
      exact ⟨rfl, keepB B0 h⟩
  · have hn' : ((s.size : Int) == n) = false := by simpa using hn
    have e : decide ((s.size : Int) = n) = false := by simpa using hn
    rw [e]
    clear e
    go_enter Try.func27, Try.ntmps27
    go_wp2
    go_ret
    exact ⟨by simp, B0⟩
theorem rep70 : ∀ n : Nat, Lib.repeatL [70] n = List.replicate n (70 : UInt8) := by
  intro n
  induction n with
  | zero => rfl
  | succ n ih => simp only [Lib.repeatL, List.cons_append, List.nil_append, ih, List.replicate_succ]
def fF (n : Nat) : ByteArray := ⟨(List.replicate n (70 : UInt8)).toArray⟩
theorem rep_any (n : Nat) (w : World) (h : n ≤ 1000) :
    Calls Try.prog 59 #[.string ⟨#[70]⟩, .int .i64 (n : Int)] w fun e w' => e = .returned (.string (fF n)) ∧ Below w.heap.size w w' := by
  have := Try.strings_Repeat ⟨#[70]⟩ n w (by omega) (by show 1 * n ≤ _; omega)
  rw [show (⟨#[70]⟩ : ByteArray).data.toList = [70] from rfl, rep70] at this
  exact this
set_option maxRecDepth 100000 in
theorem filling_yes (b : Bool) (t : Nat) (s : ByteArray) (n : Int) (w : World) :
    Calls Try.prog 30 #[.agg #[.bool b, .bool true, .int .u8 (t : Int)], .string s, .int .i64 n] w fun e w' => e = .returned (.string s) ∧ Below w.heap.size w w' := by
  go_enter Try.func30, Try.ntmps30
  go_wp2
  go_ret
  exact ⟨rfl, below_one w _⟩
set_option maxRecDepth 100000 in
theorem filling_no (b : Bool) (t : Nat) (s : ByteArray) (n : Nat) (hn : n ≤ 1000) (w : World) :
    Calls Try.prog 30 #[.agg #[.bool b, .bool false, .int .u8 (t : Int)], .string s, .int .i64 (n : Int)] w fun e w' => e = .returned (.string (fF n)) ∧ Below w.heap.size w w' := by
  go_enter Try.func30, Try.ntmps30
  go_wp2_with fail
  refine (rep_any n _ hn).mono ?_
  rintro e w' ⟨rfl, h⟩
  go_wp2
  go_ret
  exact ⟨rfl, keepB (below_one w _) h⟩
theorem info : (Try.prog.info? 5).map (fun i => (i.zero, i.size, i.bytes)) = some (some (.int .u8 0), 1, 1) := by kernel_rfl
set_option maxRecDepth 100000 in
set_option maxHeartbeats 800000 in
theorem spread_any (s : ByteArray) (w : World) (hs : s.size ≤ 1048576) :
    Calls Try.prog 40 #[.string s] w fun e w' => e = .returned (.string ⟨(hexL s.data.toList).toArray⟩) ∧ Below w.heap.size w w' := by
  obtain ⟨i0, hi, hz0, hz1, hz2⟩ := info_parts info
  go_enter Try.func40, Try.ntmps40
  go_wp2_with (at_make; refine wpList_make_own _ rfl _ _ 65 rfl w.heap.size 5 i0 _ 1 Try.underlying65 hi hz0 hz1 _ _ _ (2 * s.size) rfl rfl (by omega) (by rw [hz2]; omega) (by unfold maxLen; omega) (Nat.le_refl _) ?_)
  intro w0 hown0 hgrow0
  have hb0 := (Below.refl w.heap.size w).grown hgrow0 (Nat.le_refl _) (fun k h => by cases h)
  go_wp2
  go_loopw [3, 11] (fun v i wr => ∃ k : Nat, k ≤ s.size ∧ i = .int .i64 k ∧ wr.ownsRow w.heap.size 5 1 v (2 * k) (bs (hexL (s.data.toList.take k))) ∧ Below w.heap.size w wr) (fun _ i _ => s.size - (intOf i).toNat)
  case atStart => exact ⟨0, Nat.zero_le _, rfl, hown0, hb0⟩
  case round =>
    obtain ⟨k, hk, rfl, hown, hb⟩ := hrel
    by_cases hlt : k < s.size
    · have h1 : (0 : Int) ≤ (k : Int) := by omega
      have h2 : (k : Int) < (s.size : Int) := by omega
      have h3 : (s[k].toNat : Int) < 256 := Lib0.toNat_lt _
      have d1 : (0 : Int) ≤ (s[k].toNat : Int) / 16 := by omega
      have d2 : (s[k].toNat : Int) / 16 < 16 := by omega
      have d3 : (0 : Int) ≤ (s[k].toNat : Int) % 16 := by omega
      have d4 : (s[k].toNat : Int) % 16 < 16 := by omega
      have hbs := hb.size
      go_wp2_with fail
      have d6 : bits .and .u8 (s[k].toNat : Int) 15 = (s[k].toNat : Int) % 16 := u8_and15 _ (by omega) (by omega)
      go_region_held3 (fun _ => True) (trivial)
        ((refine step_append_lies _ (by rfl) _ _ _ (by rfl) w.heap.size 5 i0 _ 1 1 Try.underlying65 hi hz0 hz1 hz2 rfl (by omega) u3 (2 * k) _ (by rfl) ((hown.alloc _).drew) ⟨wr.heap.size, 0, none⟩ 2 2 _ (by rfl) (by rfl) (World.news_of_block (heap_alloc_new wr _)) (by simp [Value.oneCell']) (by omega) (by unfold maxLen; omega) (by omega) (by simp; omega) (wr.heap.size + 1) (by simp) ?_; intro gg cap w1 hown1 hgrow hat hlt1))
      all_goals
        go_wp2
        go_roundw
        case rel => exact ⟨k + 1, by omega, by go_num, owns_len hown1 rfl (by omega) (by rw [take_snoc s k hlt, hexL_snoc, bs_append]; simp [bs, hx_get, t16, m16]), below_app hb hbs hown hgrow⟩
        case measure => simp [intOf]; omega
    · have hcv := run_str (P := Try.prog) (src := 65) (dst := 9) Try.underlying65 Try.underlying5 Try.underlying9 hown
      go_wp2
      go_ret
      exact ⟨ret_str (by rw [take_all s k (by omega)]), hb⟩
theorem ba_ext {a b : ByteArray} (h : a.data.toList = b.data.toList) : a = b := by
  cases a; cases b; simp only [ByteArray.mk.injEq]; exact Array.toList_inj.1 h
theorem ext_list (s : ByteArray) (a b : Nat) (h : b ≤ s.size) : (s.extract a b).data.toList = (s.data.toList.drop a).take (b - a) := by
  rw [ByteArray.data_extract, Array.toList_extract, List.extract_eq_take_drop]
theorem dg_hx' : ∀ n : Fin 16, dg (hx n.val) = decide (n.val ≤ 9) := by decide +kernel
theorem dg_hx (n : Nat) (h : n < 16) : dg (hx n) = decide (n ≤ 9) := dg_hx' ⟨n, h⟩
theorem all_hx (p : UInt8 → Bool) (q : Nat → Bool) : ∀ L : List Nat, (∀ n ∈ L, p (hx n) = q n) → (L.map hx).all p = L.all q
  | [], _ => rfl
  | a :: L, h => by simp only [List.map_cons, List.all_cons, h a (by simp), all_hx p q L (fun n hn => h n (by simp [hn]))]
def lst (f : Int) : Nat := if f = 0 then 70 else if f = 3 then 65 else 48
theorem ge_hx0 : ∀ n : Fin 16, geB 70 (hx n.val) = decide (15 ≤ n.val) := by decide +kernel
theorem ge_hx1 : ∀ n : Fin 16, geB 48 (hx n.val) = decide (0 ≤ n.val) := by decide +kernel
theorem ge_hx3 : ∀ n : Fin 16, geB 65 (hx n.val) = decide (10 ≤ n.val) := by decide +kernel
theorem ge_hx (f : Int) (n : Nat) (h : n < 16) : geB (lst f) (hx n) = decide (flr f ≤ n) := by
  unfold lst flr
  split
  · exact ge_hx0 ⟨n, h⟩
  · split
    · exact ge_hx3 ⟨n, h⟩
    · exact ge_hx1 ⟨n, h⟩
theorem lst_lt (f : Int) : lst f < 256 := by unfold lst; split <;> (try split) <;> omega
set_option maxRecDepth 100000 in
set_option maxHeartbeats 1600000 in
theorem read_any (b g : Bool) (f : Int) (s : ByteArray) (L : List Nat) (hL : Hid (L.length = 16)) (hl : Hid (∀ n ∈ L, n < 16)) (hs : Hid (s.data.toList = L.map hx)) (w : World) :
    Calls Try.prog 39 #[.agg #[.bool b, .bool g, .int .u8 (lst f : Int)], .string s] w fun e w' => e = .returned (.tuple #[.string (readR f L).1, .int .i64 (readR f L).2]) ∧ Below w.heap.size w w' := by
  have S16 : Hid (s.size = 16) := (by rw [← sz, hs.out, List.length_map, hL.out] : s.size = 16)
  obtain ⟨n, Hn⟩ : ∃ n : Nat, Hid (L.getD 1 0 = n) := ⟨_, rfl⟩
  have h1L : 1 < L.length := by rw [hL.out]; decide
  have eL : L[1] = n := by rw [← Hn.out, List.getD_eq_getElem?_getD, List.getElem?_eq_getElem h1L]; rfl
  have n16 : n < 16 := by rw [← eL]; exact hl.out _ (List.getElem_mem h1L)
  have i1 : (1 : Int) < (s.size : Int) := by have := S16.out; omega
  have E1 : six s[1] = (n : Int) := by
    have : s[1] = hx L[1] := by
      have h2 : s.data.toList[1]? = some (hx L[1]) := by rw [hs.out, List.getElem?_map, List.getElem?_eq_getElem h1L]; rfl
      rw [List.getElem?_eq_getElem (by rw [sz, S16.out]; decide)] at h2
      exact Option.some.inj h2
    rw [this, eL, six_hx n n16]
  have WO := fun u => worth_any s[1] u
  rw [E1] at WO
  have B0 := below_one w (.cells #[.bool b, .bool g, .int .u8 (lst f : Int)] 48)
  have M := h1_0 w (.cells #[.bool b, .bool g, .int .u8 (lst f : Int)] 48)
  by_cases h4 : (n : Int) < 4
  · have e : readR f L = (none8, 60) := by unfold readR; rw [Hn.out, if_pos (by omega)]
    rw [e]
    clear e E1 eL
    go_enter Try.func39, Try.ntmps39
    go_wp2_with fail
    refine (WO _).mono ?_
    rintro e w' ⟨rfl, rfl⟩
    go_wp2
    exact bodyPost_ret (v := .tuple #[.string none8, .int .i64 60]) (by simp [results, Try.results39, go_sem, none8]) rfl ⟨rfl, B0⟩
  · by_cases h12 : (12 : Int) < (n : Int)
    · have e : readR f L = (none8, 60) := by unfold readR; rw [Hn.out, if_pos (by omega)]
      rw [e]
      clear e E1 eL
      go_enter Try.func39, Try.ntmps39
      go_wp2_with fail
      refine (WO _).mono ?_
      rintro e w' ⟨rfl, rfl⟩
      go_wp2
      exact bodyPost_ret (v := .tuple #[.string none8, .int .i64 60]) (by simp [results, Try.results39, go_sem, none8]) rfl ⟨rfl, B0⟩
    · obtain ⟨P, HP⟩ : ∃ P, Hid (s.extract 2 (2 + n) = P) := ⟨_, rfl⟩
      obtain ⟨F, HF⟩ : ∃ F, Hid (s.extract (2 + n) s.size = F) := ⟨_, rfl⟩
      have lP : P.data.toList = ((L.drop 2).take n).map hx := by
        rw [← HP.out, ext_list _ _ _ (by have := S16.out; omega), hs.out, List.map_take, List.map_drop, Nat.add_sub_cancel_left]
      have lF : F.data.toList = (L.drop (2 + n)).map hx := by
        rw [← HF.out, ext_list _ _ _ (Nat.le_refl _), hs.out, ← List.map_drop, ← List.map_take, List.take_of_length_le (by rw [List.length_drop, hL.out, S16.out]; exact Nat.le_refl _)]
      have aP : adg P = ((L.drop 2).take n).all (fun n => decide (n ≤ 9)) := by
        unfold adg
        rw [lP, all_hx dg (fun n => decide (n ≤ 9)) _ (fun m hm => dg_hx m (hl.out m (List.mem_of_mem_drop (List.mem_of_mem_take hm))))]
      have aF : agB (lst f) F = (L.drop (2 + n)).all (fun n => decide (flr f ≤ n)) := by
        unfold agB
        rw [lF, all_hx (geB (lst f)) (fun n => decide (flr f ≤ n)) _ (fun m hm => ge_hx f m (hl.out m (List.mem_of_mem_drop hm)))]
      have ePm : (⟨(((L.drop 2).take n).map hx).toArray⟩ : ByteArray) = P := ba_ext (by rw [lP])
      have sP : P.size ≤ maxLen := by unfold maxLen; rw [← sz, lP, List.length_map, List.length_take]; omega
      have sF : F.size ≤ maxLen := by unfold maxLen; rw [← sz, lF, List.length_map, List.length_drop, hL.out]; omega
      have AD := fun u => allDigits_any P u sP
      have FI := fun u => fills_any b g (lst f) (lst_lt f) F u sF
      have e : readR f L = if adg P = true ∧ agB (lst f) F = true then (P, 0) else (none8, 60) := by
        unfold readR; rw [Hn.out, if_neg (by omega), aP, aF, ePm]
      clear E1 eL lP lF aP aF ePm sP sF
      obtain ⟨m, Hm⟩ : ∃ m : Nat, Hid (2 + n = m) := ⟨_, rfl⟩
      have j1 : (2 : Int) ≤ (m : Int) := by have := Hm.out; omega
      have j2 : (m : Int) ≤ (s.size : Int) := by have := Hm.out; have := S16.out; omega
      have j3 : IntKind.i64.wrap (2 + (n : Int)) = (m : Int) := by have := Hm.out; rw [IntKind.wrap_i64]; omega
      rw [Hm.out] at HP HF
      have j4 : (4 : Int) ≤ (n : Int) := by omega
      have j5 : (n : Int) ≤ 12 := by omega
      have H1 := HP.out
      have H2 := HF.out
      cases hA : adg P
      · rw [hA] at AD
        rw [hA, if_neg (by simp)] at e
        rw [e]
        clear e FI
        go_enter Try.func39, Try.ntmps39
        go_wp2_with fail
        refine (WO _).mono ?_
        rintro e w' ⟨rfl, rfl⟩
        go_wp2_with fail
        go_region
        go_wp2_with fail
        refine (AD _).mono ?_
        rintro e w' ⟨rfl, rfl⟩
        go_wp2
        exact bodyPost_ret (v := .tuple #[.string none8, .int .i64 60]) (by simp [results, Try.results39, go_sem, none8]) rfl ⟨by simp, B0.drew⟩
      · rw [hA] at AD
        cases hG : agB (lst f) F
        · rw [hG] at FI
          rw [hA, hG, if_neg (by simp)] at e
          rw [e]
          clear e
          go_enter Try.func39, Try.ntmps39
          go_wp2_with fail
          refine (WO _).mono ?_
          rintro e w' ⟨rfl, rfl⟩
          go_wp2_with fail
          go_region
          go_wp2_with fail
          refine (AD _).mono ?_
          rintro e w' ⟨rfl, rfl⟩
          go_wp2_with fail
          refine (FI _).mono ?_
          rintro e w' ⟨rfl, h⟩
          go_wp2
          exact bodyPost_ret (v := .tuple #[.string none8, .int .i64 60]) (by simp [results, Try.results39, go_sem, none8]) rfl ⟨by simp, keepB B0.drew h⟩
        · rw [hG] at FI
          rw [hA, hG, if_pos ⟨rfl, rfl⟩] at e
          rw [e]
          clear e
          go_enter Try.func39, Try.ntmps39
          go_wp2_with fail
          refine (WO _).mono ?_
          rintro e w' ⟨rfl, rfl⟩
          go_wp2_with fail
          go_region
          go_wp2_with fail
          refine (AD _).mono ?_
          rintro e w' ⟨rfl, rfl⟩
          go_wp2_with fail
          refine (FI _).mono ?_
          rintro e w' ⟨rfl, h⟩
          go_wp2
          exact bodyPost_ret (v := .tuple #[.string P, .int .i64 0]) (by simp [results, Try.results39, go_sem]) rfl ⟨by simp, keepB B0.drew h⟩
end Go.Proofs.Ytciblmdpngnakaa.Pg
/- take, inGroups, the tables. -/
namespace Go.Proofs.Ytciblmdpngnakaa.Tk
set_option linter.unusedVariables false
open Go.RowKit Pla Cb
theorem step_bit (a b : Nat) (ha : a < 9223372036854775808) (hb : b < 2) : bits .or .u64 ((a : Int) * 2) (b : Int) = ((2 * a + b : Nat) : Int) := by
  have h := u64_or_nat (2 * a) b (by omega) (by omega)
  have e : 2 * a ||| b = 2 * a + b := by
    have := @Nat.two_pow_add_eq_or_of_lt 1 b hb a
    exact this.symm
  rw [e] at h
  rw [← h]
  congr 1
  simp; omega
theorem one_bit (x : List Bool) (W n : Nat) (hW : x.length = W) (hW2 : W ≤ 64) (h1 : 1 ≤ n) (h2 : n ≤ W) : bits .and .u64 ((val x : Int) / 2 ^ (W - n)) 1 = (((x.getD (n - 1) false).toNat : Nat) : Int) := by
  have lt := val_lt x
  have p : 2 ^ x.length ≤ 2 ^ 64 := Nat.pow_le_pow_right (by decide) (by omega)
  have e : ((val x : Int) / 2 ^ (W - n)) = ((val x / 2 ^ (W - n) : Nat) : Int) := by simp
  have lt2 : val x / 2 ^ (W - n) < 18446744073709551616 := Nat.lt_of_le_of_lt (Nat.div_le_self _ _) (Nat.lt_of_lt_of_le lt p)
  have h := u64_and_nat (val x / 2 ^ (W - n)) 1 lt2 (by decide)
  rw [nat_mask1] at h
  rw [e]
  refine h.trans ?_
  have b := val_bit x (W - n)
  rw [Nat.testBit_eq_decide_div_mod_eq, decide_eq_true (show W - n < x.length by omega), Bool.true_and, show x.length - 1 - (W - n) = n - 1 by omega] at b
  rw [← b]
  have : val x / 2 ^ (W - n) % 2 < 2 := Nat.mod_lt _ (by decide)
  by_cases c : val x / 2 ^ (W - n) % 2 = 1
  · rw [c]; rfl
  · rw [show val x / 2 ^ (W - n) % 2 = 0 by omega]; rfl
theorem tk_snoc (l : List Nat) (x : List Bool) (j : Nat) (h : j < l.length) : val (tk (l.take (j + 1)) x) = 2 * val (tk (l.take j) x) + (x.getD (l[j] - 1) false).toNat := by
  rw [List.take_succ_eq_append_getElem h, tk, List.map_append, List.map_cons, List.map_nil, val_snoc]; rfl
set_option maxRecDepth 100000 in
set_option maxHeartbeats 1600000 in
theorem take_any (x : List Bool) (l : List Nat) (W L g : Nat) (fr : Nat × Nat) (hW : Hid (x.length = W)) (hL : Hid (l.length = L)) (w : World) (hg : w.heap[g]? = some (.cells (tabC l) 5 fr)) (hl : ∀ n ∈ l, 1 ≤ n ∧ n ≤ W) (hW2 : W ≤ 64) (hL2 : L ≤ 64) :
    Calls Try.prog 66 #[.int .u64 (val x : Int), .int .i64 (W : Int), .slice (some ⟨g, 0, none⟩) L L] w fun e w' => e = .returned (.int .u64 (val (tk l x) : Int)) ∧ w' = w := by
  go_enter Try.func66, Try.ntmps66
  go_wp2
  go_loopw [7, 9, 12] (fun a v c wr => ∃ j : Nat, j ≤ L ∧ c = .int .i64 (j : Int) ∧ a = .int .u64 (val (tk (l.take j) x) : Int) ∧ wr = w) (fun _ _ c _ => L + 1 - (intOf c).toNat)
  case atStart => exact ⟨0, by omega, rfl, rfl, rfl⟩
  case round =>
    obtain ⟨j, hj, rfl, rfl, rfl⟩ := hrel
    by_cases hj2 : j < L
    · have hjl : j < l.length := by rw [hL.out]; exact hj2
      have q : (j : Int) < (L : Int) := by omega
      have q0 : (0 : Int) ≤ (j : Int) := by omega
      have hn := hl l[j] (List.getElem_mem hjl)
      have k0 : wr.cell? ⟨g, j, none⟩ = some (.int .u8 ((l[j] : Nat) : Int)) := by rw [cell_of_row wr g j _ _ fr hg]; exact tabC_get l j hjl
      have HE : Hid (val (tk (l.take (j + 1)) x) = 2 * val (tk (l.take j) x) + (x.getD (l[j] - 1) false).toNat) := tk_snoc l x j hjl
      have u1 := one_bit x W l[j] hW.out hW2 hn.1 hn.2
      have lt : val (tk (l.take j) x) < 9223372036854775808 := Nat.lt_of_lt_of_le (val_lt _) (by rw [tk_len]; exact Nat.pow_le_pow_right (n := 2) (by decide) (show (l.take j).length ≤ 63 by simp; omega))
      have hb : (x.getD (l[j] - 1) false).toNat < 2 := by cases x.getD (l[j] - 1) false <;> decide
      have u2 := step_bit (val (tk (l.take j) x)) (x.getD (l[j] - 1) false).toNat lt hb
      have i1 : (val (tk (l.take j) x) : Int) ≤ 9223372036854775807 := by omega
      generalize (x.getD (l[j] - 1) false).toNat = b at *
      generalize val (tk (l.take j) x) = a at *
      generalize hm : l[j] = m at *
      have i2 : (1 : Int) ≤ (m : Int) := by omega
      have i3 : (m : Int) ≤ (W : Int) := by omega
      have i4 : (W : Int) ≤ 64 := by omega
      have i5 : (m : Int) ≤ 64 := by omega
      have t1 : ((W : Int) - (m : Int)).toNat = W - m := by omega
      clear hL hl hm hW hn lt hb hg
      go_wp2
      refine ⟨⟨j + 1, by omega, by simp, by rw [HE.out]; simp, trivial⟩, ?_⟩
      simp only [intOf]; omega
    · obtain rfl : j = L := by omega
      have e : l.take j = l := List.take_of_length_le (by rw [hL.out]; exact Nat.le_refl _)
      rw [e]
      clear hL hl hW hg e
      go_wp2
      go_ret
      exact ⟨rfl, rfl⟩
theorem z45 : (Try.prog.info? 69).map (fun i => (i.zero, i.size)) = some (some (.agg (byC 8 fun _ => 0)), 8) := by kernel_rfl
theorem h45 (v : Nat → Nat) : (Try.prog.info? 69).map (·.size) = some (byC 8 v).size := by rw [byC_size]; kernel_rfl
def up (v : Nat → Nat) (j : Nat) : Nat → Nat := fun i => if i < j then v i else 0
theorem up_step (n : Nat) (v : Nat → Nat) (j : Nat) (hj : j < n) : (byC n (up v j)).setIfInBounds j (.int .u8 ((v j : Nat) : Int)) = byC n (up v (j + 1)) := by
  rw [byC_set _ _ _ _ hj]
  refine byC_ext fun i hi => ?_
  simp only [updN, up]
  by_cases e : i = j
  · subst e; simp
  · by_cases e2 : i < j
    · simp [e, e2, show i < j + 1 by omega]
    · simp [e, e2, show ¬ i < j + 1 by omega]
theorem up_zero (n : Nat) (v : Nat → Nat) : byC n (fun _ => 0) = byC n (up v 0) := byC_ext fun i hi => by simp [up]
theorem up_all (n : Nat) (v : Nat → Nat) : byC n (up v n) = byC n v := byC_ext fun i hi => by simp [up, hi]
theorem grp_len (x : List Bool) (j : Nat) (hx : x.length = 48) (hj : j < 8) : (grp x j).length = 6 := by simp [grp, hx]; omega
theorem grp_val (x : List Bool) (j : Nat) (hx : x.length = 48) (hj : j < 8) : val (grp x j) = val x / 2 ^ (6 * (7 - j)) % 64 := by
  have e : x = x.take (6 * j) ++ (grp x j ++ x.drop (6 * j + 6)) := by
    rw [grp, ← List.drop_drop, List.take_append_drop, List.take_append_drop]
  have l1 : (x.drop (6 * j + 6)).length = 6 * (7 - j) := by simp [hx]; omega
  have l2 := grp_len x j hx hj
  have v1 := val_lt (x.drop (6 * j + 6))
  have v2 := val_lt (grp x j)
  rw [l1] at v1
  rw [l2] at v2
  have e2 : val x = (val (x.take (6 * j)) * 64 + val (grp x j)) * 2 ^ (6 * (7 - j)) + val (x.drop (6 * j + 6)) := by
    conv => lhs; rw [e]
    rw [← List.append_assoc, val_append, val_append, l1, l2]
  rw [e2]
  have p : 0 < 2 ^ (6 * (7 - j)) := Nat.pow_pos (by decide)
  rw [Nat.mul_comm _ (2 ^ (6 * (7 - j))), Nat.mul_add_div p, Nat.div_eq_of_lt v1]
  omega
set_option maxRecDepth 100000 in
set_option maxHeartbeats 1600000 in
theorem inG (R : Nat) (v : Nat → Nat) (hv : Hid (∀ j, j < 8 → v j = R / 2 ^ (6 * (7 - j)) % 64)) (lt : R < 281474976710656) (w : World) :
    Calls Try.prog 70 #[.int .u64 (R : Int)] w fun e w' => e = .returned (.agg (byC 8 v)) ∧ Below w.heap.size w w' := by
  have hz := (zero_of_info z45).1
  rw [← up_all 8]
  have e0 := up_zero 8 v
  have i1 : (R : Int) < 281474976710656 := by omega
  go_enter Try.func70, Try.ntmps70
  go_wp2_with fail
  go_loopw [4, 5] (fun i c wr => ∃ j : Nat, j ≤ 8 ∧ c = .int .i64 (j : Int) ∧ wr = (w.alloc (Obj.cells (byC 8 (up v 0)) 69)).alloc (Obj.cells (byC 8 (up v j)) 69)) (fun _ c _ => 9 - (intOf c).toNat)
  case atStart => exact ⟨0, by omega, rfl, rfl⟩
  case round =>
    obtain ⟨j, hj, rfl, rfl⟩ := hrel
    by_cases hj2 : j < 8
    · have q : (j : Int) < 8 := by omega
      have q0 : (0 : Int) ≤ (j : Int) := by omega
      have k1 := byC_get 8 (up v j) j hj2
      have HN : Hid ((byC 8 (up v j)).setIfInBounds j (.int .u8 ((v j : Nat) : Int)) = byC 8 (up v (j + 1))) := up_step 8 v j hj2
      have u1 : bits .and .u64 ((R : Int) / 2 ^ (6 * (7 - j))) 63 % 256 = ((v j : Nat) : Int) := by
        rw [hv.out j hj2]
        have h := u64_and_nat (R / 2 ^ (6 * (7 - j))) 63 (Nat.lt_of_le_of_lt (Nat.div_le_self _ _) (by omega)) (by decide)
        rw [nat_mask6] at h
        have e : ((R : Int) / 2 ^ (6 * (7 - j))) = ((R / 2 ^ (6 * (7 - j)) : Nat) : Int) := by simp
        rw [e]
        have h' : bits .and .u64 ((R / 2 ^ (6 * (7 - j)) : Nat) : Int) 63 = ((R / 2 ^ (6 * (7 - j)) % 64 : Nat) : Int) := h
        rw [h']; omega
      clear e0 hv
      go_wp2
      refine ⟨⟨j + 1, by omega, by simp, by rw [HN.out]⟩, ?_⟩
      simp only [intOf]; omega
    · obtain rfl : j = 8 := by omega
      have g1 := h2_1 w (Obj.cells (byC 8 (up v 0)) 69) (Obj.cells (byC 8 (up v 8)) 69)
      have g0 := h2_0 w (Obj.cells (byC 8 (up v 0)) 69) (Obj.cells (byC 8 (up v 8)) 69)
      have b0 := below_two w (Obj.cells (byC 8 (up v 0)) 69) (Obj.cells (byC 8 (up v 8)) 69)
      go_wp2_with (first
        | (refine wpList_load_row rfl 69 _ rfl (w.heap.size + 1) rfl _ _ _ _ g1 Try.underlying69 rfl (h45 _) ?_)
        | (refine wpList_store_row rfl 69 _ _ rfl w.heap.size _ rfl rfl _ _ g0 (h45 _) (by rw [byC_size, byC_size]) (byC_one _ _) ?_))
      exact bodyPost_ret (v := .agg (byC 8 (up v 8))) (results_cell_row rfl _ _ w.heap.size _ _ _ _ rfl (setRow_at g0 _) Try.underlying69 rfl (h45 _)) rfl ⟨rfl, below_setRow b0 (Nat.le_refl _) _⟩
theorem inGroups_any (x : List Bool) (hx : Hid (x.length = 48)) (w : World) :
    Calls Try.prog 70 #[.int .u64 (val x : Int)] w fun e w' => e = .returned (.agg (byC 8 fun j => val (grp x j))) ∧ Below w.heap.size w w' :=
  inG (val x) _ (fun j hj => grp_val x j hx.out hj : ∀ j, j < 8 → val (grp x j) = val x / 2 ^ (6 * (7 - j)) % 64) (by have := val_lt x; rw [hx.out] at this; exact this) w
end Go.Proofs.Ytciblmdpngnakaa.Tk
