import Derived.Test.YtciblmdpngnakaaQv29
/- PINs: the document's Open. -/
namespace Go.Proofs.Ytciblmdpngnakaa.Rq
set_option linter.unusedVariables false
set_option linter.unusedSimpArgs false
open Go.RowKit Lib0 Six Pp Cb Ra Rh Rp
open Ph (gb_eq)
open Pg (ba_ext)
open Sm (range_keep)
open Rb (nv nv_len nv_get nv_snoc nv_take range_cell own_range New infoI)
/-- is the half at that place right? -/
def cb (f : Int) (M : List Nat) (n i : Nat) : Bool := if i < 2 + n then decide (M.getD i 0 ≤ 9) else decide (flr f ≤ M.getD i 0)
theorem read_bad (f : Int) (M : List Nat) (n i : Nat) (hM : M.length = 16) (hn : M.getD 1 0 = n) (h4 : 4 ≤ n) (h12 : n ≤ 12) (h2 : 2 ≤ i) (hi : i < 16) (hc : cb f M n i = false) : readR f M = (none8, 60) := by
  unfold readR
  rw [hn, if_neg (by omega), if_neg]
  rintro ⟨a1, a2⟩
  have hg : M.getD i 0 = M[i]'(by omega) := by rw [List.getD_eq_getElem?_getD, List.getElem?_eq_getElem (by omega)]; rfl
  unfold cb at hc
  split at hc
  · rename_i hlt
    rw [List.all_eq_true] at a1
    have hl : i - 2 < ((M.drop 2).take n).length := by rw [List.length_take, List.length_drop]; omega
    have := a1 _ (List.getElem_mem hl)
    simp only [List.getElem_take, List.getElem_drop, show 2 + (i - 2) = i by omega] at this
    rw [hg, this] at hc
    cases hc
  · rename_i hlt
    rw [List.all_eq_true] at a2
    have hl : i - (2 + n) < (M.drop (2 + n)).length := by rw [List.length_drop]; omega
    have := a2 _ (List.getElem_mem hl)
    simp only [List.getElem_drop, show 2 + n + (i - (2 + n)) = i by omega] at this
    rw [hg, this] at hc
    cases hc
theorem read_good (f : Int) (M : List Nat) (n : Nat) (hM : M.length = 16) (hn : M.getD 1 0 = n) (h4 : 4 ≤ n) (h12 : n ≤ 12) (hc : ∀ i, 2 ≤ i → i < 16 → cb f M n i = true) : readR f M = (⟨(((M.drop 2).take n).map hx).toArray⟩, 0) := by
  unfold readR
  rw [hn, if_neg (by omega), if_pos]
  constructor
  · rw [List.all_eq_true]
    intro a ha
    obtain ⟨j, hj, rfl⟩ := List.getElem_of_mem ha
    rw [List.length_take, List.length_drop] at hj
    have := hc (2 + j) (by omega) (by omega)
    unfold cb at this
    rw [if_pos (by omega), List.getD_eq_getElem?_getD, List.getElem?_eq_getElem (by omega)] at this
    simpa only [List.getElem_take, List.getElem_drop, Option.getD_some] using this
  · rw [List.all_eq_true]
    intro a ha
    obtain ⟨j, hj, rfl⟩ := List.getElem_of_mem ha
    rw [List.length_drop] at hj
    have := hc (2 + n + j) (by omega) (by omega)
    unfold cb at this
    rw [if_neg (by omega), List.getD_eq_getElem?_getD, List.getElem?_eq_getElem (by omega)] at this
    simpa only [List.getElem_drop, Option.getD_some] using this
def ps (M : List Nat) (n k : Nat) : ByteArray := ⟨((((M.take k).drop 2).take n).map hx).toArray⟩
theorem ps_zero (M : List Nat) (n : Nat) : ps M n 2 = ⟨#[]⟩ := by
  unfold ps
  rw [List.drop_of_length_le (by rw [List.length_take]; omega)]
  simp
theorem ps_end (M : List Nat) (n : Nat) (hM : M.length = 16) : ps M n 16 = ⟨(((M.drop 2).take n).map hx).toArray⟩ := by
  unfold ps
  rw [show M.take 16 = M from List.take_of_length_le (by omega)]
theorem hx_low : ∀ a : Fin 10, (hx a.val) = UInt8.ofNat (48 + a.val) := by decide +kernel
theorem take_drop (M : List Nat) (k : Nat) (h2 : 2 ≤ k) (hk : k < M.length) : (M.take (k + 1)).drop 2 = (M.take k).drop 2 ++ [M[k]] := by
  rw [List.take_succ_eq_append_getElem hk, List.drop_append_of_le_length (by rw [List.length_take]; omega)]
theorem ps_low (M : List Nat) (n k : Nat) (h2 : 2 ≤ k) (hk : k < M.length) (hn : k < 2 + n) (ha : M[k] ≤ 9) : ps M n (k + 1) = ps M n k ++ ⟨#[UInt8.ofNat (48 + M[k])]⟩ := by
  apply ba_ext
  unfold ps
  rw [take_drop M k h2 hk]
  have hl : ((M.take k).drop 2).length = k - 2 := by rw [List.length_drop, List.length_take]; omega
  have t1 : ((M.take k).drop 2 ++ [M[k]]).take n = (M.take k).drop 2 ++ [M[k]] := List.take_of_length_le (by rw [List.length_append, hl]; simp only [List.length_cons, List.length_nil]; omega)
  have t2 : ((M.take k).drop 2).take n = (M.take k).drop 2 := List.take_of_length_le (by omega)
  rw [t1, t2, List.map_append]
  rw [ByteArray.data_append, Array.toList_append]
  simp only [List.map_cons, List.map_nil, hx_low ⟨M[k], by omega⟩]
theorem ps_high (M : List Nat) (n k : Nat) (h2 : 2 ≤ k) (hk : k < M.length) (hn : 2 + n ≤ k) : ps M n (k + 1) = ps M n k := by
  unfold ps
  rw [take_drop M k h2 hk, List.take_append_of_le_length (by rw [List.length_drop, List.length_take]; omega)]
theorem u8v (V : Nat) (h : V < 256) : (UInt8.ofNat V).toNat = V := by rw [UInt8.toNat_ofNat']; omega
theorem conv_one (V : Nat) (h : V < 256) (w : World) : (convert 65 9 (.slice (some ⟨w.heap.size, 0, none⟩) 1 1)).run Try.prog (w.alloc (Obj.cells #[.int .u8 (V : Int)] 5)) = .ok (.string ⟨#[UInt8.ofNat V]⟩) (w.alloc (Obj.cells #[.int .u8 (V : Int)] 5)) :=
  Xo.conv_by (P := Try.prog) (src := 65) (dst := 9) (e := 5) (n := 1) (v := fun _ => V) (fun i _ => h) Try.underlying65 Try.underlying5 Try.underlying9 (w := w.alloc (Obj.cells (byC 1 fun _ => V) 5)) (h1_0 w _)
theorem ps_size (M : List Nat) (n k : Nat) : (ps M n k).size ≤ n := by
  rw [← sz]
  unfold ps
  simp only [List.length_map, List.length_take]
  omega
set_option maxRecDepth 100000 in
set_option maxHeartbeats 3200000 in
theorem walk0 (f : Int) (b q : ByteArray) (sb : b.size ≤ maxLen) (sq : q.size ≤ maxLen) (hk : kn f = true) (h8 : Hid (b.size = 8)) (hh : (((b.data.toList.getD 0 0).toNat / 16 : Nat) : Int) = f) (hq : qB f q = true) (F0 : Hid (f = 0)) (c1 : (f != 1) = true) (f00 : (f == 0) = true) (f33 : (f == 3) = false) (h2 : panB q = true)
    (n : Nat) (M : List Nat) (HM : Hid (mix f (nb b.data.toList) q = M)) (Hn : Hid (M.getD 1 0 = n)) (h4 : 4 ≤ n) (h12 : n ≤ 12) (w : World) :
    Calls Try.prog 11 #[.int .i64 f, .string b, .string q] w (Post (readR f M) w) := by
  have KN := fun u => known_ref f u
  have IQ := fun u => isPANr_any q u sq
  rw [hk] at KN
  rw [h2] at IQ
  have HA := fun u => halves_ref b 16 (by show 2 * b.size = 16; rw [h8.out]) (by rw [h8.out]; decide) (by rw [h8.out]; decide) u
  have nl : Hid ((nb b.data.toList).length = 16) := (by rw [nb_len, sz, h8.out] : (nb b.data.toList).length = 16)
  have nt : Hid (∀ m ∈ nb b.data.toList, m < 16) := nb_lt _
  have MI := fun g cap u hg hr => mixed_ref f (nb b.data.toList) g cap q hq nl nt u hg hr
  rw [HM.out] at MI
  have ml : Hid (M.length = 16) := (by rw [← HM.out]; exact mix_len f _ q hq nl.out : M.length = 16)
  have mt : Hid (∀ m ∈ M, m < 16) := (by rw [← HM.out]; exact mix_lt f _ q hq nt.out : ∀ m ∈ M, m < 16)
  have e8 := h8.out
  have x8 : ((b.size : Int) != 8) = false := by rw [e8]; rfl
  have x0 : (0 : Int) < (b.size : Int) := by omega
  have x00 : 0 < b.size := by omega
  have g0 := gb_eq b 0 x00
  have x1 : ((b[0]'x00).toNat : Int) < 256 := Lib0.toNat_lt _
  have x2 : Int.tdiv ((b[0]'x00).toNat : Int) 16 = f := by rw [Int.tdiv_eq_ediv_of_nonneg (by omega), g0, ← hh]; omega
  have x3 : IntKind.i64.wrap ((b[0]'x00).toNat : Int) = ((b[0]'x00).toNat : Int) := by rw [IntKind.wrap_i64]; omega
  have x4 : ((b[0]'x00).toNat : Int) / 16 = f := by rw [g0, ← hh]; omega
  have x5 : IntKind.i64.wrap f = f := by have := (kn_iff f).1 hk; rw [IntKind.wrap_i64]; omega
  clear e8 g0 hh hq HM nl nt hk h2
  go_enter Try.func11, Try.ntmps11
  go_wp2_with fail
  refine (KN _).mono ?_
  rintro e u ⟨rfl, hu⟩
  rw [hu]
  clear hu u
  go_wp2_with fail
  refine (IQ _).mono ?_
  rintro e u ⟨rfl, hu⟩
  rw [hu]
  clear hu u KN IQ
  go_wp2_with fail
  refine (HA _).mono ?_
  rintro e y ⟨g0, c0, rfl, hB0, hg0, hc0, hr0, hy⟩
  go_wp2_with fail
  refine (MI g0 c0 y hg0 hr0).mono ?_
  rintro e z ⟨g, cg, rfl, hg, hr, hz⟩
  have B0 := keepB hy hz
  clear hy hz hr0 MI HA hB0 hc0
  have m1 : 1 < M.length := by rw [ml.out]; decide
  have d1 := range_cell hr 1 m1
  rw [Nat.zero_add, show M[1] = n by rw [← Hn.out, List.getD_eq_getElem?_getD, List.getElem?_eq_getElem m1]; rfl] at d1
  have n4 : (4 : Int) ≤ (n : Int) := by omega
  have n12 : (n : Int) ≤ 12 := by omega
  go_wp2
  obtain ⟨m, Hm⟩ : ∃ m : Nat, Hid (2 + n = m) := ⟨_, rfl⟩
  have w2 : IntKind.i64.wrap (2 + (n : Int)) = (m : Int) := by have := Hm.out; rw [IntKind.wrap_i64]; omega
  have w3 : 2 + (n : Int) = (m : Int) := by have := Hm.out; omega
  clear d1
  go_loopw [12, 13] (fun v c wr => ∃ k : Nat, 2 ≤ k ∧ k ≤ 16 ∧ c = .int .i64 (k : Int) ∧ v = .string (ps M n k) ∧ (∀ i, 2 ≤ i → i < k → cb f M n i = true) ∧ Below z.heap.size z wr) (fun _ c _ => 17 - (intOf c).toNat)
  case atStart => exact ⟨2, by omega, by omega, rfl, by rw [ps_zero], fun i h1 h2 => by omega, Below.refl _ _⟩
  case round =>
    obtain ⟨k, hk2, hk16, rfl, rfl, hall, hbw⟩ := hrel
    have HA : Hid (∀ i, 2 ≤ i → i < k → cb f M n i = true) := hall
    clear hall
    by_cases hlt : k < 16
    · have hkM : k < M.length := by rw [ml.out]; exact hlt
      have d1 := range_cell (range_keep hbw hg hr) k hkM
      rw [Nat.zero_add] at d1
      have a16 := mt.out _ (List.getElem_mem hkM)
      have ga : M.getD k 0 = M[k] := by rw [List.getD_eq_getElem?_getD, List.getElem?_eq_getElem hkM]; rfl
      have C : Hid (cb f M n k = if k < 2 + n then decide (M[k] ≤ 9) else decide (flr f ≤ M[k])) := (by unfold cb; rw [ga] : cb f M n k = if k < 2 + n then decide (M[k] ≤ 9) else decide (flr f ≤ M[k]))
      have PL := ps_low M n k hk2 hkM
      have PH := ps_high M n k hk2 hkM
      have RB := read_bad f M n k ml.out Hn.out h4 h12 hk2 hlt
      have NX : Hid (cb f M n k = true → ∀ i, 2 ≤ i → i < k + 1 → cb f M n i = true) := (fun h i h1 h2 => by
        by_cases e : i = k
        · rw [e]; exact h
        · exact HA.out i h1 (by omega) : cb f M n k = true → ∀ i, 2 ≤ i → i < k + 1 → cb f M n i = true)
      generalize M[k] = a at *
      have q0 : (0 : Int) ≤ (k : Int) := by omega
      have q1 : (k : Int) < 16 := by omega
      have em := Hm.out
      by_cases hl : k < 2 + n
      · have l1 : (k : Int) < (m : Int) := by omega
        by_cases h9 : 9 < a
        · have i9 : (9 : Int) < (a : Int) := by omega
          rw [RB (by rw [C.out, if_pos hl]; simp; omega)]
          clear C PL PH RB NX HA em ga a16 hkM
          go_wp2
          exact bodyPost_ret (v := .tuple #[.string none8, .int .i64 60]) (by simp [results, Try.results11, go_sem, none8]) rfl ⟨by simp, keepB B0 hbw⟩
        · have i9 : ¬ (9 : Int) < (a : Int) := by omega
          have i9' : (a : Int) ≤ 9 := by omega
          have NX1 : Hid (∀ i, 2 ≤ i → i < k + 1 → cb f M n i = true) := NX.out (by rw [C.out, if_pos hl]; simp; omega)
          have PL1 := PL hl (by omega)
          obtain ⟨V, HV⟩ : ∃ V : Nat, Hid (48 + a = V) := ⟨_, rfl⟩
          have eV := HV.out
          have r1 : IntKind.i64.wrap (48 + (a : Int)) = (V : Int) := by rw [IntKind.wrap_i64]; omega
          have r2 : IntKind.u8.wrap (V : Int) = (V : Int) := by rw [wrap_u8 _ (by omega) (by omega)]
          have r3 : 48 + (a : Int) = (V : Int) := by omega
          have v1 : (V : Int) < 256 := by omega
          rw [eV] at PL1
          have cv := conv_one V (by omega) wr
          have zs := ps_size M n k
          obtain ⟨Lr, HLr⟩ : ∃ Lr : Array UInt8, Hid (#[UInt8.ofNat V] = Lr) := ⟨_, rfl⟩
          rw [HLr.out] at cv PL1
          have hcat : ¬ 9223372036854775807 < (ps M n k).size + Lr.size := by rw [← HLr.out]; show ¬ _ < _ + 1; omega
          have HP : Hid (ps M n (k + 1) = ps M n k ++ ⟨Lr⟩) := PL1
          generalize ps M n k = R at *
          clear C PL PH RB NX HA em ga a16 hkM eV PL1 zs
          go_wp2
          go_roundw
          case rel => exact ⟨k + 1, by omega, by omega, by go_num, by rw [HP.out], NX1.out, hbw.alloc hbw.size _⟩
          case measure => simp [intOf]; omega
      · have l1 : ¬ (k : Int) < (m : Int) := by omega
        have l2 : (m : Int) ≤ (k : Int) := by omega
        have HP : Hid (ps M n (k + 1) = ps M n k) := PH (by omega)
        by_cases h15 : a = 15
        · have NX1 : Hid (∀ i, 2 ≤ i → i < k + 1 → cb f M n i = true) := NX.out (by rw [C.out, if_neg hl, F0.out]; simp [flr]; omega)
          have i15 : ((a : Int) != 15) = false := by rw [h15]; rfl
          clear h15
          clear C PL PH RB NX HA em ga a16 hkM
          generalize ps M n k = R at *
          go_wp2
          go_roundw
          case rel => exact ⟨k + 1, by omega, by omega, by go_num, by rw [HP.out], NX1.out, hbw⟩
          case measure => simp [intOf]; omega
        · rw [RB (by rw [C.out, if_neg hl, F0.out]; simp [flr]; omega)]
          have i15 : ((a : Int) != 15) = true := by rw [bne_iff_ne]; omega
          clear h15
          clear C PL PH RB NX HA em ga a16 hkM
          go_wp2
          exact bodyPost_ret (v := .tuple #[.string none8, .int .i64 60]) (by simp [results, Try.results11, go_sem, none8]) rfl ⟨by simp, keepB B0 hbw⟩
    · obtain rfl : k = 16 := by omega
      have RG := read_good f M n ml.out Hn.out h4 h12 HA.out
      have HG : Hid (readR f M = (ps M n 16, 0)) := (by rw [RG, ps_end M n ml.out] : readR f M = (ps M n 16, 0))
      clear HA RG mt ml
      generalize ps M n 16 = R at *
      go_wp2
      exact bodyPost_ret (v := .tuple #[.string R, .int .i64 0]) (by simp [results, Try.results11, go_sem]) rfl ⟨by rw [HG.out], keepB B0 hbw⟩
set_option maxRecDepth 100000 in
set_option maxHeartbeats 3200000 in
theorem walk1 (f : Int) (b q : ByteArray) (sb : b.size ≤ maxLen) (sq : q.size ≤ maxLen) (hk : kn f = true) (h8 : Hid (b.size = 8)) (hh : (((b.data.toList.getD 0 0).toNat / 16 : Nat) : Int) = f) (hq : qB f q = true) (F0 : Hid (f = 1)) (c1 : (f != 1) = false) (f00 : (f == 0) = false) (f33 : (f == 3) = false)
    (n : Nat) (M : List Nat) (HM : Hid (mix f (nb b.data.toList) q = M)) (Hn : Hid (M.getD 1 0 = n)) (h4 : 4 ≤ n) (h12 : n ≤ 12) (w : World) :
    Calls Try.prog 11 #[.int .i64 f, .string b, .string q] w (Post (readR f M) w) := by
  have KN := fun u => known_ref f u
  have IQ := fun u => isPANr_any q u sq
  rw [hk] at KN
  have HA := fun u => halves_ref b 16 (by show 2 * b.size = 16; rw [h8.out]) (by rw [h8.out]; decide) (by rw [h8.out]; decide) u
  have nl : Hid ((nb b.data.toList).length = 16) := (by rw [nb_len, sz, h8.out] : (nb b.data.toList).length = 16)
  have nt : Hid (∀ m ∈ nb b.data.toList, m < 16) := nb_lt _
  have MI := fun g cap u hg hr => mixed_ref f (nb b.data.toList) g cap q hq nl nt u hg hr
  rw [HM.out] at MI
  have ml : Hid (M.length = 16) := (by rw [← HM.out]; exact mix_len f _ q hq nl.out : M.length = 16)
  have mt : Hid (∀ m ∈ M, m < 16) := (by rw [← HM.out]; exact mix_lt f _ q hq nt.out : ∀ m ∈ M, m < 16)
  have e8 := h8.out
  have x8 : ((b.size : Int) != 8) = false := by rw [e8]; rfl
  have x0 : (0 : Int) < (b.size : Int) := by omega
  have x00 : 0 < b.size := by omega
  have g0 := gb_eq b 0 x00
  have x1 : ((b[0]'x00).toNat : Int) < 256 := Lib0.toNat_lt _
  have x2 : Int.tdiv ((b[0]'x00).toNat : Int) 16 = f := by rw [Int.tdiv_eq_ediv_of_nonneg (by omega), g0, ← hh]; omega
  have x3 : IntKind.i64.wrap ((b[0]'x00).toNat : Int) = ((b[0]'x00).toNat : Int) := by rw [IntKind.wrap_i64]; omega
  have x4 : ((b[0]'x00).toNat : Int) / 16 = f := by rw [g0, ← hh]; omega
  have x5 : IntKind.i64.wrap f = f := by have := (kn_iff f).1 hk; rw [IntKind.wrap_i64]; omega
  clear e8 g0 hh hq HM nl nt hk
  go_enter Try.func11, Try.ntmps11
  go_wp2_with fail
  refine (KN _).mono ?_
  rintro e u ⟨rfl, hu⟩
  rw [hu]
  clear hu u
  go_wp2_with fail
  refine (IQ _).mono ?_
  rintro e u ⟨rfl, hu⟩
  rw [hu]
  clear hu u KN IQ
  go_wp2_with fail
  refine (HA _).mono ?_
  rintro e y ⟨g0, c0, rfl, hB0, hg0, hc0, hr0, hy⟩
  go_wp2_with fail
  refine (MI g0 c0 y hg0 hr0).mono ?_
  rintro e z ⟨g, cg, rfl, hg, hr, hz⟩
  have B0 := keepB hy hz
  clear hy hz hr0 MI HA hB0 hc0
  have m1 : 1 < M.length := by rw [ml.out]; decide
  have d1 := range_cell hr 1 m1
  rw [Nat.zero_add, show M[1] = n by rw [← Hn.out, List.getD_eq_getElem?_getD, List.getElem?_eq_getElem m1]; rfl] at d1
  have n4 : (4 : Int) ≤ (n : Int) := by omega
  have n12 : (n : Int) ≤ 12 := by omega
  go_wp2
  obtain ⟨m, Hm⟩ : ∃ m : Nat, Hid (2 + n = m) := ⟨_, rfl⟩
  have w2 : IntKind.i64.wrap (2 + (n : Int)) = (m : Int) := by have := Hm.out; rw [IntKind.wrap_i64]; omega
  have w3 : 2 + (n : Int) = (m : Int) := by have := Hm.out; omega
  clear d1
  go_loopw [12, 13] (fun v c wr => ∃ k : Nat, 2 ≤ k ∧ k ≤ 16 ∧ c = .int .i64 (k : Int) ∧ v = .string (ps M n k) ∧ (∀ i, 2 ≤ i → i < k → cb f M n i = true) ∧ Below z.heap.size z wr) (fun _ c _ => 17 - (intOf c).toNat)
  case atStart => exact ⟨2, by omega, by omega, rfl, by rw [ps_zero], fun i h1 h2 => by omega, Below.refl _ _⟩
  case round =>
    obtain ⟨k, hk2, hk16, rfl, rfl, hall, hbw⟩ := hrel
    have HA : Hid (∀ i, 2 ≤ i → i < k → cb f M n i = true) := hall
    clear hall
    by_cases hlt : k < 16
    · have hkM : k < M.length := by rw [ml.out]; exact hlt
      have d1 := range_cell (range_keep hbw hg hr) k hkM
      rw [Nat.zero_add] at d1
      have a16 := mt.out _ (List.getElem_mem hkM)
      have ga : M.getD k 0 = M[k] := by rw [List.getD_eq_getElem?_getD, List.getElem?_eq_getElem hkM]; rfl
      have C : Hid (cb f M n k = if k < 2 + n then decide (M[k] ≤ 9) else decide (flr f ≤ M[k])) := (by unfold cb; rw [ga] : cb f M n k = if k < 2 + n then decide (M[k] ≤ 9) else decide (flr f ≤ M[k]))
      have PL := ps_low M n k hk2 hkM
      have PH := ps_high M n k hk2 hkM
      have RB := read_bad f M n k ml.out Hn.out h4 h12 hk2 hlt
      have NX : Hid (cb f M n k = true → ∀ i, 2 ≤ i → i < k + 1 → cb f M n i = true) := (fun h i h1 h2 => by
        by_cases e : i = k
        · rw [e]; exact h
        · exact HA.out i h1 (by omega) : cb f M n k = true → ∀ i, 2 ≤ i → i < k + 1 → cb f M n i = true)
      generalize M[k] = a at *
      have q0 : (0 : Int) ≤ (k : Int) := by omega
      have q1 : (k : Int) < 16 := by omega
      have em := Hm.out
      by_cases hl : k < 2 + n
      · have l1 : (k : Int) < (m : Int) := by omega
        by_cases h9 : 9 < a
        · have i9 : (9 : Int) < (a : Int) := by omega
          rw [RB (by rw [C.out, if_pos hl]; simp; omega)]
          clear C PL PH RB NX HA em ga a16 hkM
          go_wp2
          exact bodyPost_ret (v := .tuple #[.string none8, .int .i64 60]) (by simp [results, Try.results11, go_sem, none8]) rfl ⟨by simp, keepB B0 hbw⟩
        · have i9 : ¬ (9 : Int) < (a : Int) := by omega
          have i9' : (a : Int) ≤ 9 := by omega
          have NX1 : Hid (∀ i, 2 ≤ i → i < k + 1 → cb f M n i = true) := NX.out (by rw [C.out, if_pos hl]; simp; omega)
          have PL1 := PL hl (by omega)
          obtain ⟨V, HV⟩ : ∃ V : Nat, Hid (48 + a = V) := ⟨_, rfl⟩
          have eV := HV.out
          have r1 : IntKind.i64.wrap (48 + (a : Int)) = (V : Int) := by rw [IntKind.wrap_i64]; omega
          have r2 : IntKind.u8.wrap (V : Int) = (V : Int) := by rw [wrap_u8 _ (by omega) (by omega)]
          have r3 : 48 + (a : Int) = (V : Int) := by omega
          have v1 : (V : Int) < 256 := by omega
          rw [eV] at PL1
          have cv := conv_one V (by omega) wr
          have zs := ps_size M n k
          obtain ⟨Lr, HLr⟩ : ∃ Lr : Array UInt8, Hid (#[UInt8.ofNat V] = Lr) := ⟨_, rfl⟩
          rw [HLr.out] at cv PL1
          have hcat : ¬ 9223372036854775807 < (ps M n k).size + Lr.size := by rw [← HLr.out]; show ¬ _ < _ + 1; omega
          have HP : Hid (ps M n (k + 1) = ps M n k ++ ⟨Lr⟩) := PL1
          generalize ps M n k = R at *
          clear C PL PH RB NX HA em ga a16 hkM eV PL1 zs
          go_wp2
          go_roundw
          case rel => exact ⟨k + 1, by omega, by omega, by go_num, by rw [HP.out], NX1.out, hbw.alloc hbw.size _⟩
          case measure => simp [intOf]; omega
      · have l1 : ¬ (k : Int) < (m : Int) := by omega
        have l2 : (m : Int) ≤ (k : Int) := by omega
        have HP : Hid (ps M n (k + 1) = ps M n k) := PH (by omega)
        have NX1 : Hid (∀ i, 2 ≤ i → i < k + 1 → cb f M n i = true) := NX.out (by rw [C.out, if_neg hl, F0.out]; simp [flr])
        clear C PL PH RB NX HA em ga a16 hkM
        generalize ps M n k = R at *
        go_wp2
        go_roundw
        case rel => exact ⟨k + 1, by omega, by omega, by go_num, by rw [HP.out], NX1.out, hbw⟩
        case measure => simp [intOf]; omega
    · obtain rfl : k = 16 := by omega
      have RG := read_good f M n ml.out Hn.out h4 h12 HA.out
      have HG : Hid (readR f M = (ps M n 16, 0)) := (by rw [RG, ps_end M n ml.out] : readR f M = (ps M n 16, 0))
      clear HA RG mt ml
      generalize ps M n 16 = R at *
      go_wp2
      exact bodyPost_ret (v := .tuple #[.string R, .int .i64 0]) (by simp [results, Try.results11, go_sem]) rfl ⟨by rw [HG.out], keepB B0 hbw⟩
set_option maxRecDepth 100000 in
set_option maxHeartbeats 3200000 in
theorem walk3 (f : Int) (b q : ByteArray) (sb : b.size ≤ maxLen) (sq : q.size ≤ maxLen) (hk : kn f = true) (h8 : Hid (b.size = 8)) (hh : (((b.data.toList.getD 0 0).toNat / 16 : Nat) : Int) = f) (hq : qB f q = true) (F0 : Hid (f = 3)) (c1 : (f != 1) = true) (f00 : (f == 0) = false) (f33 : (f == 3) = true) (h2 : panB q = true)
    (n : Nat) (M : List Nat) (HM : Hid (mix f (nb b.data.toList) q = M)) (Hn : Hid (M.getD 1 0 = n)) (h4 : 4 ≤ n) (h12 : n ≤ 12) (w : World) :
    Calls Try.prog 11 #[.int .i64 f, .string b, .string q] w (Post (readR f M) w) := by
  have KN := fun u => known_ref f u
  have IQ := fun u => isPANr_any q u sq
  rw [hk] at KN
  rw [h2] at IQ
  have HA := fun u => halves_ref b 16 (by show 2 * b.size = 16; rw [h8.out]) (by rw [h8.out]; decide) (by rw [h8.out]; decide) u
  have nl : Hid ((nb b.data.toList).length = 16) := (by rw [nb_len, sz, h8.out] : (nb b.data.toList).length = 16)
  have nt : Hid (∀ m ∈ nb b.data.toList, m < 16) := nb_lt _
  have MI := fun g cap u hg hr => mixed_ref f (nb b.data.toList) g cap q hq nl nt u hg hr
  rw [HM.out] at MI
  have ml : Hid (M.length = 16) := (by rw [← HM.out]; exact mix_len f _ q hq nl.out : M.length = 16)
  have mt : Hid (∀ m ∈ M, m < 16) := (by rw [← HM.out]; exact mix_lt f _ q hq nt.out : ∀ m ∈ M, m < 16)
  have e8 := h8.out
  have x8 : ((b.size : Int) != 8) = false := by rw [e8]; rfl
  have x0 : (0 : Int) < (b.size : Int) := by omega
  have x00 : 0 < b.size := by omega
  have g0 := gb_eq b 0 x00
  have x1 : ((b[0]'x00).toNat : Int) < 256 := Lib0.toNat_lt _
  have x2 : Int.tdiv ((b[0]'x00).toNat : Int) 16 = f := by rw [Int.tdiv_eq_ediv_of_nonneg (by omega), g0, ← hh]; omega
  have x3 : IntKind.i64.wrap ((b[0]'x00).toNat : Int) = ((b[0]'x00).toNat : Int) := by rw [IntKind.wrap_i64]; omega
  have x4 : ((b[0]'x00).toNat : Int) / 16 = f := by rw [g0, ← hh]; omega
  have x5 : IntKind.i64.wrap f = f := by have := (kn_iff f).1 hk; rw [IntKind.wrap_i64]; omega
  clear e8 g0 hh hq HM nl nt hk h2
  go_enter Try.func11, Try.ntmps11
  go_wp2_with fail
  refine (KN _).mono ?_
  rintro e u ⟨rfl, hu⟩
  rw [hu]
  clear hu u
  go_wp2_with fail
  refine (IQ _).mono ?_
  rintro e u ⟨rfl, hu⟩
  rw [hu]
  clear hu u KN IQ
  go_wp2_with fail
  refine (HA _).mono ?_
  rintro e y ⟨g0, c0, rfl, hB0, hg0, hc0, hr0, hy⟩
  go_wp2_with fail
  refine (MI g0 c0 y hg0 hr0).mono ?_
  rintro e z ⟨g, cg, rfl, hg, hr, hz⟩
  have B0 := keepB hy hz
  clear hy hz hr0 MI HA hB0 hc0
  have m1 : 1 < M.length := by rw [ml.out]; decide
  have d1 := range_cell hr 1 m1
  rw [Nat.zero_add, show M[1] = n by rw [← Hn.out, List.getD_eq_getElem?_getD, List.getElem?_eq_getElem m1]; rfl] at d1
  have n4 : (4 : Int) ≤ (n : Int) := by omega
  have n12 : (n : Int) ≤ 12 := by omega
  go_wp2
  obtain ⟨m, Hm⟩ : ∃ m : Nat, Hid (2 + n = m) := ⟨_, rfl⟩
  have w2 : IntKind.i64.wrap (2 + (n : Int)) = (m : Int) := by have := Hm.out; rw [IntKind.wrap_i64]; omega
  have w3 : 2 + (n : Int) = (m : Int) := by have := Hm.out; omega
  clear d1
  go_loopw [12, 13] (fun v c wr => ∃ k : Nat, 2 ≤ k ∧ k ≤ 16 ∧ c = .int .i64 (k : Int) ∧ v = .string (ps M n k) ∧ (∀ i, 2 ≤ i → i < k → cb f M n i = true) ∧ Below z.heap.size z wr) (fun _ c _ => 17 - (intOf c).toNat)
  case atStart => exact ⟨2, by omega, by omega, rfl, by rw [ps_zero], fun i h1 h2 => by omega, Below.refl _ _⟩
  case round =>
    obtain ⟨k, hk2, hk16, rfl, rfl, hall, hbw⟩ := hrel
    have HA : Hid (∀ i, 2 ≤ i → i < k → cb f M n i = true) := hall
    clear hall
    by_cases hlt : k < 16
    · have hkM : k < M.length := by rw [ml.out]; exact hlt
      have d1 := range_cell (range_keep hbw hg hr) k hkM
      rw [Nat.zero_add] at d1
      have a16 := mt.out _ (List.getElem_mem hkM)
      have ga : M.getD k 0 = M[k] := by rw [List.getD_eq_getElem?_getD, List.getElem?_eq_getElem hkM]; rfl
      have C : Hid (cb f M n k = if k < 2 + n then decide (M[k] ≤ 9) else decide (flr f ≤ M[k])) := (by unfold cb; rw [ga] : cb f M n k = if k < 2 + n then decide (M[k] ≤ 9) else decide (flr f ≤ M[k]))
      have PL := ps_low M n k hk2 hkM
      have PH := ps_high M n k hk2 hkM
      have RB := read_bad f M n k ml.out Hn.out h4 h12 hk2 hlt
      have NX : Hid (cb f M n k = true → ∀ i, 2 ≤ i → i < k + 1 → cb f M n i = true) := (fun h i h1 h2 => by
        by_cases e : i = k
        · rw [e]; exact h
        · exact HA.out i h1 (by omega) : cb f M n k = true → ∀ i, 2 ≤ i → i < k + 1 → cb f M n i = true)
      generalize M[k] = a at *
      have q0 : (0 : Int) ≤ (k : Int) := by omega
      have q1 : (k : Int) < 16 := by omega
      have em := Hm.out
      by_cases hl : k < 2 + n
      · have l1 : (k : Int) < (m : Int) := by omega
        by_cases h9 : 9 < a
        · have i9 : (9 : Int) < (a : Int) := by omega
          rw [RB (by rw [C.out, if_pos hl]; simp; omega)]
          clear C PL PH RB NX HA em ga a16 hkM
          go_wp2
          exact bodyPost_ret (v := .tuple #[.string none8, .int .i64 60]) (by simp [results, Try.results11, go_sem, none8]) rfl ⟨by simp, keepB B0 hbw⟩
        · have i9 : ¬ (9 : Int) < (a : Int) := by omega
          have i9' : (a : Int) ≤ 9 := by omega
          have NX1 : Hid (∀ i, 2 ≤ i → i < k + 1 → cb f M n i = true) := NX.out (by rw [C.out, if_pos hl]; simp; omega)
          have PL1 := PL hl (by omega)
          obtain ⟨V, HV⟩ : ∃ V : Nat, Hid (48 + a = V) := ⟨_, rfl⟩
          have eV := HV.out
          have r1 : IntKind.i64.wrap (48 + (a : Int)) = (V : Int) := by rw [IntKind.wrap_i64]; omega
          have r2 : IntKind.u8.wrap (V : Int) = (V : Int) := by rw [wrap_u8 _ (by omega) (by omega)]
          have r3 : 48 + (a : Int) = (V : Int) := by omega
          have v1 : (V : Int) < 256 := by omega
          rw [eV] at PL1
          have cv := conv_one V (by omega) wr
          have zs := ps_size M n k
          obtain ⟨Lr, HLr⟩ : ∃ Lr : Array UInt8, Hid (#[UInt8.ofNat V] = Lr) := ⟨_, rfl⟩
          rw [HLr.out] at cv PL1
          have hcat : ¬ 9223372036854775807 < (ps M n k).size + Lr.size := by rw [← HLr.out]; show ¬ _ < _ + 1; omega
          have HP : Hid (ps M n (k + 1) = ps M n k ++ ⟨Lr⟩) := PL1
          generalize ps M n k = R at *
          clear C PL PH RB NX HA em ga a16 hkM eV PL1 zs
          go_wp2
          go_roundw
          case rel => exact ⟨k + 1, by omega, by omega, by go_num, by rw [HP.out], NX1.out, hbw.alloc hbw.size _⟩
          case measure => simp [intOf]; omega
      · have l1 : ¬ (k : Int) < (m : Int) := by omega
        have l2 : (m : Int) ≤ (k : Int) := by omega
        have HP : Hid (ps M n (k + 1) = ps M n k) := PH (by omega)
        by_cases h10 : a < 10
        · rw [RB (by rw [C.out, if_neg hl, F0.out]; simp [flr]; omega)]
          have i10 : (a : Int) < 10 := by omega
          clear C PL PH RB NX HA em ga a16 hkM
          go_wp2
          exact bodyPost_ret (v := .tuple #[.string none8, .int .i64 60]) (by simp [results, Try.results11, go_sem, none8]) rfl ⟨by simp, keepB B0 hbw⟩
        · have NX1 : Hid (∀ i, 2 ≤ i → i < k + 1 → cb f M n i = true) := NX.out (by rw [C.out, if_neg hl, F0.out]; simp [flr]; omega)
          have i10 : ¬ (a : Int) < 10 := by omega
          have i10' : (10 : Int) ≤ (a : Int) := by omega
          clear C PL PH RB NX HA em ga a16 hkM
          generalize ps M n k = R at *
          go_wp2
          go_roundw
          case rel => exact ⟨k + 1, by omega, by omega, by go_num, by rw [HP.out], NX1.out, hbw⟩
          case measure => simp [intOf]; omega
    · obtain rfl : k = 16 := by omega
      have RG := read_good f M n ml.out Hn.out h4 h12 HA.out
      have HG : Hid (readR f M = (ps M n 16, 0)) := (by rw [RG, ps_end M n ml.out] : readR f M = (ps M n 16, 0))
      clear HA RG mt ml
      generalize ps M n 16 = R at *
      go_wp2
      exact bodyPost_ret (v := .tuple #[.string R, .int .i64 0]) (by simp [results, Try.results11, go_sem]) rfl ⟨by rw [HG.out], keepB B0 hbw⟩
set_option maxRecDepth 100000 in
set_option maxHeartbeats 1600000 in
theorem bad_known (f : Int) (b q : ByteArray) (sb : b.size ≤ maxLen) (hk : kn f = false) (w : World) :
    Calls Try.prog 11 #[.int .i64 f, .string b, .string q] w fun e w' => e = .returned (.tuple #[.string none8, .int .i64 61]) ∧ Below w.heap.size w w' := by
  have KN := fun u => known_ref f u
  rw [hk] at KN
  go_enter Try.func11, Try.ntmps11
  go_wp2_with fail
  refine (KN _).mono ?_
  rintro e u ⟨rfl, hu⟩
  rw [hu]
  clear hu u
  go_wp2
  exact bodyPost_ret (v := .tuple #[.string none8, .int .i64 61]) (by simp [results, Try.results11, go_sem, none8]) rfl ⟨by simp, Below.refl _ _⟩
set_option maxRecDepth 100000 in
set_option maxHeartbeats 1600000 in
theorem bad_size (f : Int) (b q : ByteArray) (sb : b.size ≤ maxLen) (hk : kn f = true) (h8 : ((b.size : Int) != 8) = true) (w : World) :
    Calls Try.prog 11 #[.int .i64 f, .string b, .string q] w fun e w' => e = .returned (.tuple #[.string none8, .int .i64 61]) ∧ Below w.heap.size w w' := by
  have KN := fun u => known_ref f u
  rw [hk] at KN
  unfold maxLen at sb
  go_enter Try.func11, Try.ntmps11
  go_wp2_with fail
  refine (KN _).mono ?_
  rintro e u ⟨rfl, hu⟩
  rw [hu]
  clear hu u
  go_wp2
  exact bodyPost_ret (v := .tuple #[.string none8, .int .i64 61]) (by simp [results, Try.results11, go_sem, none8]) rfl ⟨by simp, Below.refl _ _⟩
set_option maxRecDepth 100000 in
set_option maxHeartbeats 1600000 in
theorem bad_head (f : Int) (b q : ByteArray) (sb : b.size ≤ maxLen) (hk : kn f = true) (h8 : ((b.size : Int) != 8) = false) (x0 : (0 : Int) < (b.size : Int)) (hh : (((b.data.toList.getD 0 0).toNat / 16 : Nat) : Int) ≠ f) (w : World) :
    Calls Try.prog 11 #[.int .i64 f, .string b, .string q] w fun e w' => e = .returned (.tuple #[.string none8, .int .i64 61]) ∧ Below w.heap.size w w' := by
  have KN := fun u => known_ref f u
  rw [hk] at KN
  have x00 : 0 < b.size := by omega
  have g0 := gb_eq b 0 x00
  have x1 : ((b[0]'x00).toNat : Int) < 256 := Lib0.toNat_lt _
  have x3 : IntKind.i64.wrap ((b[0]'x00).toNat : Int) = ((b[0]'x00).toNat : Int) := by rw [IntKind.wrap_i64]; omega
  obtain ⟨A, HA⟩ : ∃ A : Nat, Hid ((b[0]'x00).toNat / 16 = A) := ⟨(b[0]'x00).toNat / 16, rfl⟩
  have x2 : Int.tdiv ((b[0]'x00).toNat : Int) 16 = (A : Int) := by rw [Int.tdiv_eq_ediv_of_nonneg (by omega), ← HA.out]; omega
  have x4 : ((b[0]'x00).toNat : Int) / 16 = (A : Int) := by rw [← HA.out]; omega
  have x5 : IntKind.i64.wrap (A : Int) = (A : Int) := by have := HA.out; rw [IntKind.wrap_i64]; omega
  have x7 : ¬ (A : Int) = f := by intro h; rw [← h, ← HA.out, g0] at hh; exact hh rfl
  have x6 : ((A : Int) != f) = true := by rw [bne_iff_ne]; exact x7
  have x8 : ((A : Int) == f) = false := by rw [beq_eq_false_iff_ne]; exact x7
  clear hh g0 x7 x8
  go_enter Try.func11, Try.ntmps11
  go_wp2_with fail
  refine (KN _).mono ?_
  rintro e u ⟨rfl, hu⟩
  rw [hu]
  clear hu u
  go_wp2
  exact bodyPost_ret (v := .tuple #[.string none8, .int .i64 61]) (by simp [results, Try.results11, go_sem, none8]) rfl ⟨by simp, Below.refl _ _⟩
set_option maxRecDepth 100000 in
set_option maxHeartbeats 1600000 in
theorem bad_pan6 (f : Int) (b q : ByteArray) (sq : q.size ≤ maxLen) (hk : kn f = true) (h8 : ((b.size : Int) != 8) = false) (x0 : (0 : Int) < (b.size : Int)) (hh : (((b.data.toList.getD 0 0).toNat / 16 : Nat) : Int) = f) (c1 : (f != 1) = true) (hq : panB q = false) (w : World) :
    Calls Try.prog 11 #[.int .i64 f, .string b, .string q] w fun e w' => e = .returned (.tuple #[.string none8, .int .i64 50]) ∧ Below w.heap.size w w' := by
  have KN := fun u => known_ref f u
  have IQ := fun u => isPANr_any q u sq
  rw [hk] at KN
  rw [hq] at IQ
  have x00 : 0 < b.size := by omega
  have g0 := gb_eq b 0 x00
  have x1 : ((b[0]'x00).toNat : Int) < 256 := Lib0.toNat_lt _
  have x3 : IntKind.i64.wrap ((b[0]'x00).toNat : Int) = ((b[0]'x00).toNat : Int) := by rw [IntKind.wrap_i64]; omega
  have x2 : Int.tdiv ((b[0]'x00).toNat : Int) 16 = f := by rw [Int.tdiv_eq_ediv_of_nonneg (by omega), g0, ← hh]; omega
  have x4 : ((b[0]'x00).toNat : Int) / 16 = f := by rw [g0, ← hh]; omega
  have x5 : IntKind.i64.wrap f = f := by have := (kn_iff f).1 hk; rw [IntKind.wrap_i64]; omega
  clear hh g0 hk hq
  go_enter Try.func11, Try.ntmps11
  go_wp2_with fail
  refine (KN _).mono ?_
  rintro e u ⟨rfl, hu⟩
  rw [hu]
  clear hu u
  go_wp2_with fail
  refine (IQ _).mono ?_
  rintro e u ⟨rfl, hu⟩
  rw [hu]
  clear hu u
  go_wp2
  exact bodyPost_ret (v := .tuple #[.string none8, .int .i64 50]) (by simp [results, Try.results11, go_sem, none8]) rfl ⟨by simp, Below.refl _ _⟩
set_option maxRecDepth 100000 in
set_option maxHeartbeats 1600000 in
theorem short_tlo (f : Int) (b q : ByteArray) (sq : q.size ≤ maxLen) (hk : kn f = true) (h8 : Hid (b.size = 8)) (hh : (((b.data.toList.getD 0 0).toNat / 16 : Nat) : Int) = f) (hq : qB f q = true) (c1 : (f != 1) = true) (h2 : panB q = true) (n : Nat) (M : List Nat) (HM : Hid (mix f (nb b.data.toList) q = M)) (Hn : Hid (M.getD 1 0 = n)) (hn : (n : Int) < 4) (w : World) :
    Calls Try.prog 11 #[.int .i64 f, .string b, .string q] w fun e w' => e = .returned (.tuple #[.string none8, .int .i64 60]) ∧ Below w.heap.size w w' := by
  have KN := fun u => known_ref f u
  have IQ := fun u => isPANr_any q u sq
  rw [hk] at KN
  rw [h2] at IQ
  have HA := fun u => halves_ref b 16 (by show 2 * b.size = 16; rw [h8.out]) (by rw [h8.out]; decide) (by rw [h8.out]; decide) u
  have nl : Hid ((nb b.data.toList).length = 16) := (by rw [nb_len, sz, h8.out] : (nb b.data.toList).length = 16)
  have nt : Hid (∀ m ∈ nb b.data.toList, m < 16) := nb_lt _
  have MI := fun g cap u hg hr => mixed_ref f (nb b.data.toList) g cap q hq nl nt u hg hr
  rw [HM.out] at MI
  have ml : Hid (M.length = 16) := (by rw [← HM.out]; exact mix_len f _ q hq nl.out : M.length = 16)
  have e8 := h8.out
  have x8 : ((b.size : Int) != 8) = false := by rw [e8]; rfl
  have x0 : (0 : Int) < (b.size : Int) := by omega
  have x00 : 0 < b.size := by omega
  have g0 := gb_eq b 0 x00
  have x1 : ((b[0]'x00).toNat : Int) < 256 := Lib0.toNat_lt _
  have x3 : IntKind.i64.wrap ((b[0]'x00).toNat : Int) = ((b[0]'x00).toNat : Int) := by rw [IntKind.wrap_i64]; omega
  have x2 : Int.tdiv ((b[0]'x00).toNat : Int) 16 = f := by rw [Int.tdiv_eq_ediv_of_nonneg (by omega), g0, ← hh]; omega
  have x4 : ((b[0]'x00).toNat : Int) / 16 = f := by rw [g0, ← hh]; omega
  have x5 : IntKind.i64.wrap f = f := by have := (kn_iff f).1 hk; rw [IntKind.wrap_i64]; omega
  clear e8 g0 hh hq HM nl nt hk h2
  go_enter Try.func11, Try.ntmps11
  go_wp2_with fail
  refine (KN _).mono ?_
  rintro e u ⟨rfl, hu⟩
  rw [hu]
  clear hu u
  go_wp2_with fail
  refine (IQ _).mono ?_
  rintro e u ⟨rfl, hu⟩
  rw [hu]
  clear hu u
  clear KN IQ
  go_wp2_with fail
  refine (HA _).mono ?_
  rintro e y ⟨g0, c0, rfl, hB0, hg0, hc0, hr0, hy⟩
  go_wp2_with fail
  refine (MI g0 c0 y hg0 hr0).mono ?_
  rintro e z ⟨g, cg, rfl, hg, hr, hz⟩
  have B0 := keepB hy hz
  clear hy hz hr0 MI HA hB0 hc0
  have m1 : 1 < M.length := by rw [ml.out]; decide
  have d1 := range_cell hr 1 m1
  rw [Nat.zero_add, show M[1] = n by rw [← Hn.out, List.getD_eq_getElem?_getD, List.getElem?_eq_getElem m1]; rfl] at d1
  go_wp2
  exact bodyPost_ret (v := .tuple #[.string none8, .int .i64 60]) (by simp [results, Try.results11, go_sem, none8]) rfl ⟨by simp, B0⟩
set_option maxRecDepth 100000 in
set_option maxHeartbeats 1600000 in
theorem short_thi (f : Int) (b q : ByteArray) (sq : q.size ≤ maxLen) (hk : kn f = true) (h8 : Hid (b.size = 8)) (hh : (((b.data.toList.getD 0 0).toNat / 16 : Nat) : Int) = f) (hq : qB f q = true) (c1 : (f != 1) = true) (h2 : panB q = true) (n : Nat) (M : List Nat) (HM : Hid (mix f (nb b.data.toList) q = M)) (Hn : Hid (M.getD 1 0 = n)) (hn : (12 : Int) < (n : Int)) (w : World) :
    Calls Try.prog 11 #[.int .i64 f, .string b, .string q] w fun e w' => e = .returned (.tuple #[.string none8, .int .i64 60]) ∧ Below w.heap.size w w' := by
  have KN := fun u => known_ref f u
  have IQ := fun u => isPANr_any q u sq
  rw [hk] at KN
  rw [h2] at IQ
  have HA := fun u => halves_ref b 16 (by show 2 * b.size = 16; rw [h8.out]) (by rw [h8.out]; decide) (by rw [h8.out]; decide) u
  have nl : Hid ((nb b.data.toList).length = 16) := (by rw [nb_len, sz, h8.out] : (nb b.data.toList).length = 16)
  have nt : Hid (∀ m ∈ nb b.data.toList, m < 16) := nb_lt _
  have MI := fun g cap u hg hr => mixed_ref f (nb b.data.toList) g cap q hq nl nt u hg hr
  rw [HM.out] at MI
  have ml : Hid (M.length = 16) := (by rw [← HM.out]; exact mix_len f _ q hq nl.out : M.length = 16)
  have e8 := h8.out
  have x8 : ((b.size : Int) != 8) = false := by rw [e8]; rfl
  have x0 : (0 : Int) < (b.size : Int) := by omega
  have x00 : 0 < b.size := by omega
  have g0 := gb_eq b 0 x00
  have x1 : ((b[0]'x00).toNat : Int) < 256 := Lib0.toNat_lt _
  have x3 : IntKind.i64.wrap ((b[0]'x00).toNat : Int) = ((b[0]'x00).toNat : Int) := by rw [IntKind.wrap_i64]; omega
  have x2 : Int.tdiv ((b[0]'x00).toNat : Int) 16 = f := by rw [Int.tdiv_eq_ediv_of_nonneg (by omega), g0, ← hh]; omega
  have x4 : ((b[0]'x00).toNat : Int) / 16 = f := by rw [g0, ← hh]; omega
  have x5 : IntKind.i64.wrap f = f := by have := (kn_iff f).1 hk; rw [IntKind.wrap_i64]; omega
  clear e8 g0 hh hq HM nl nt hk h2
  go_enter Try.func11, Try.ntmps11
  go_wp2_with fail
  refine (KN _).mono ?_
  rintro e u ⟨rfl, hu⟩
  rw [hu]
  clear hu u
  go_wp2_with fail
  refine (IQ _).mono ?_
  rintro e u ⟨rfl, hu⟩
  rw [hu]
  clear hu u
  clear KN IQ
  go_wp2_with fail
  refine (HA _).mono ?_
  rintro e y ⟨g0, c0, rfl, hB0, hg0, hc0, hr0, hy⟩
  go_wp2_with fail
  refine (MI g0 c0 y hg0 hr0).mono ?_
  rintro e z ⟨g, cg, rfl, hg, hr, hz⟩
  have B0 := keepB hy hz
  clear hy hz hr0 MI HA hB0 hc0
  have m1 : 1 < M.length := by rw [ml.out]; decide
  have d1 := range_cell hr 1 m1
  rw [Nat.zero_add, show M[1] = n by rw [← Hn.out, List.getD_eq_getElem?_getD, List.getElem?_eq_getElem m1]; rfl] at d1
  go_wp2
  exact bodyPost_ret (v := .tuple #[.string none8, .int .i64 60]) (by simp [results, Try.results11, go_sem, none8]) rfl ⟨by simp, B0⟩
set_option maxRecDepth 100000 in
set_option maxHeartbeats 1600000 in
theorem short_flo (f : Int) (b q : ByteArray) (sq : q.size ≤ maxLen) (hk : kn f = true) (h8 : Hid (b.size = 8)) (hh : (((b.data.toList.getD 0 0).toNat / 16 : Nat) : Int) = f) (hq : qB f q = true) (c1 : (f != 1) = false) (n : Nat) (M : List Nat) (HM : Hid (mix f (nb b.data.toList) q = M)) (Hn : Hid (M.getD 1 0 = n)) (hn : (n : Int) < 4) (w : World) :
    Calls Try.prog 11 #[.int .i64 f, .string b, .string q] w fun e w' => e = .returned (.tuple #[.string none8, .int .i64 60]) ∧ Below w.heap.size w w' := by
  have KN := fun u => known_ref f u
  have IQ := fun u => isPANr_any q u sq
  rw [hk] at KN
  have HA := fun u => halves_ref b 16 (by show 2 * b.size = 16; rw [h8.out]) (by rw [h8.out]; decide) (by rw [h8.out]; decide) u
  have nl : Hid ((nb b.data.toList).length = 16) := (by rw [nb_len, sz, h8.out] : (nb b.data.toList).length = 16)
  have nt : Hid (∀ m ∈ nb b.data.toList, m < 16) := nb_lt _
  have MI := fun g cap u hg hr => mixed_ref f (nb b.data.toList) g cap q hq nl nt u hg hr
  rw [HM.out] at MI
  have ml : Hid (M.length = 16) := (by rw [← HM.out]; exact mix_len f _ q hq nl.out : M.length = 16)
  have e8 := h8.out
  have x8 : ((b.size : Int) != 8) = false := by rw [e8]; rfl
  have x0 : (0 : Int) < (b.size : Int) := by omega
  have x00 : 0 < b.size := by omega
  have g0 := gb_eq b 0 x00
  have x1 : ((b[0]'x00).toNat : Int) < 256 := Lib0.toNat_lt _
  have x3 : IntKind.i64.wrap ((b[0]'x00).toNat : Int) = ((b[0]'x00).toNat : Int) := by rw [IntKind.wrap_i64]; omega
  have x2 : Int.tdiv ((b[0]'x00).toNat : Int) 16 = f := by rw [Int.tdiv_eq_ediv_of_nonneg (by omega), g0, ← hh]; omega
  have x4 : ((b[0]'x00).toNat : Int) / 16 = f := by rw [g0, ← hh]; omega
  have x5 : IntKind.i64.wrap f = f := by have := (kn_iff f).1 hk; rw [IntKind.wrap_i64]; omega
  clear e8 g0 hh hq HM nl nt hk
  go_enter Try.func11, Try.ntmps11
  go_wp2_with fail
  refine (KN _).mono ?_
  rintro e u ⟨rfl, hu⟩
  rw [hu]
  clear hu u
  go_wp2_with fail
  refine (IQ _).mono ?_
  rintro e u ⟨rfl, hu⟩
  rw [hu]
  clear hu u
  clear KN IQ
  go_wp2_with fail
  refine (HA _).mono ?_
  rintro e y ⟨g0, c0, rfl, hB0, hg0, hc0, hr0, hy⟩
  go_wp2_with fail
  refine (MI g0 c0 y hg0 hr0).mono ?_
  rintro e z ⟨g, cg, rfl, hg, hr, hz⟩
  have B0 := keepB hy hz
  clear hy hz hr0 MI HA hB0 hc0
  have m1 : 1 < M.length := by rw [ml.out]; decide
  have d1 := range_cell hr 1 m1
  rw [Nat.zero_add, show M[1] = n by rw [← Hn.out, List.getD_eq_getElem?_getD, List.getElem?_eq_getElem m1]; rfl] at d1
  go_wp2
  exact bodyPost_ret (v := .tuple #[.string none8, .int .i64 60]) (by simp [results, Try.results11, go_sem, none8]) rfl ⟨by simp, B0⟩
set_option maxRecDepth 100000 in
set_option maxHeartbeats 1600000 in
theorem short_fhi (f : Int) (b q : ByteArray) (sq : q.size ≤ maxLen) (hk : kn f = true) (h8 : Hid (b.size = 8)) (hh : (((b.data.toList.getD 0 0).toNat / 16 : Nat) : Int) = f) (hq : qB f q = true) (c1 : (f != 1) = false) (n : Nat) (M : List Nat) (HM : Hid (mix f (nb b.data.toList) q = M)) (Hn : Hid (M.getD 1 0 = n)) (hn : (12 : Int) < (n : Int)) (w : World) :
    Calls Try.prog 11 #[.int .i64 f, .string b, .string q] w fun e w' => e = .returned (.tuple #[.string none8, .int .i64 60]) ∧ Below w.heap.size w w' := by
  have KN := fun u => known_ref f u
  have IQ := fun u => isPANr_any q u sq
  rw [hk] at KN
  have HA := fun u => halves_ref b 16 (by show 2 * b.size = 16; rw [h8.out]) (by rw [h8.out]; decide) (by rw [h8.out]; decide) u
  have nl : Hid ((nb b.data.toList).length = 16) := (by rw [nb_len, sz, h8.out] : (nb b.data.toList).length = 16)
  have nt : Hid (∀ m ∈ nb b.data.toList, m < 16) := nb_lt _
  have MI := fun g cap u hg hr => mixed_ref f (nb b.data.toList) g cap q hq nl nt u hg hr
  rw [HM.out] at MI
  have ml : Hid (M.length = 16) := (by rw [← HM.out]; exact mix_len f _ q hq nl.out : M.length = 16)
  have e8 := h8.out
  have x8 : ((b.size : Int) != 8) = false := by rw [e8]; rfl
  have x0 : (0 : Int) < (b.size : Int) := by omega
  have x00 : 0 < b.size := by omega
  have g0 := gb_eq b 0 x00
  have x1 : ((b[0]'x00).toNat : Int) < 256 := Lib0.toNat_lt _
  have x3 : IntKind.i64.wrap ((b[0]'x00).toNat : Int) = ((b[0]'x00).toNat : Int) := by rw [IntKind.wrap_i64]; omega
  have x2 : Int.tdiv ((b[0]'x00).toNat : Int) 16 = f := by rw [Int.tdiv_eq_ediv_of_nonneg (by omega), g0, ← hh]; omega
  have x4 : ((b[0]'x00).toNat : Int) / 16 = f := by rw [g0, ← hh]; omega
  have x5 : IntKind.i64.wrap f = f := by have := (kn_iff f).1 hk; rw [IntKind.wrap_i64]; omega
  clear e8 g0 hh hq HM nl nt hk
  go_enter Try.func11, Try.ntmps11
  go_wp2_with fail
  refine (KN _).mono ?_
  rintro e u ⟨rfl, hu⟩
  rw [hu]
  clear hu u
  go_wp2_with fail
  refine (IQ _).mono ?_
  rintro e u ⟨rfl, hu⟩
  rw [hu]
  clear hu u
  clear KN IQ
  go_wp2_with fail
  refine (HA _).mono ?_
  rintro e y ⟨g0, c0, rfl, hB0, hg0, hc0, hr0, hy⟩
  go_wp2_with fail
  refine (MI g0 c0 y hg0 hr0).mono ?_
  rintro e z ⟨g, cg, rfl, hg, hr, hz⟩
  have B0 := keepB hy hz
  clear hy hz hr0 MI HA hB0 hc0
  have m1 : 1 < M.length := by rw [ml.out]; decide
  have d1 := range_cell hr 1 m1
  rw [Nat.zero_add, show M[1] = n by rw [← Hn.out, List.getD_eq_getElem?_getD, List.getElem?_eq_getElem m1]; rfl] at d1
  go_wp2
  exact bodyPost_ret (v := .tuple #[.string none8, .int .i64 60]) (by simp [results, Try.results11, go_sem, none8]) rfl ⟨by simp, B0⟩
theorem open_ref (f : Int) (b q : ByteArray) (sb : b.size ≤ maxLen) (sq : q.size ≤ maxLen) (w : World) :
    Calls Try.prog 11 #[.int .i64 f, .string b, .string q] w (Post (openR f b q) w) := by
  cases hk : kn f
  · have e : openR f b q = (none8, 61) := by unfold openR; rw [if_pos (Or.inl hk)]
    rw [e]
    exact bad_known f b q sb hk w
  · by_cases h8 : b.size = 8
    · have h8' : ((b.size : Int) != 8) = false := by simp [h8]
      have h0 : (0 : Int) < (b.size : Int) := by omega
      by_cases hh : (((b.data.toList.getD 0 0).toNat / 16 : Nat) : Int) = f
      · have n1 : ¬ (kn f = false ∨ b.size ≠ 8 ∨ (((b.data.toList.getD 0 0).toNat / 16 : Nat) : Int) ≠ f) := by
          rintro (h | h | h)
          · rw [hk] at h; cases h
          · exact h h8
          · exact h hh
        cases hq : qB f q
        · have e : openR f b q = (none8, 50) := by unfold openR; rw [if_neg n1, if_pos hq]
          rw [e]
          have h2 : f ≠ 1 ∧ panB q = false := by simpa [qB] using hq
          exact bad_pan6 f b q sq hk h8' h0 hh (by simpa using h2.1) h2.2 w
        · have e : openR f b q = readR f (mix f (nb b.data.toList) q) := by unfold openR; rw [if_neg n1, if_neg (by simp [hq])]
          rw [e]
          obtain ⟨M, HM⟩ : ∃ M, Hid (mix f (nb b.data.toList) q = M) := ⟨_, rfl⟩
          obtain ⟨n, Hn⟩ : ∃ n, Hid (M.getD 1 0 = n) := ⟨_, rfl⟩
          rw [HM.out]
          by_cases hlo : n < 4
          · have er : readR f M = (none8, 60) := by unfold readR; rw [Hn.out, if_pos (Or.inl hlo)]
            rw [er]
            by_cases h1 : f = 1
            · exact short_flo f b q sq hk h8 hh hq (by simpa using h1) n M HM Hn (by omega) w
            · exact short_tlo f b q sq hk h8 hh hq (by simpa using h1) (by simpa [qB, h1] using hq) n M HM Hn (by omega) w
          · by_cases hhi : 12 < n
            · have er : readR f M = (none8, 60) := by unfold readR; rw [Hn.out, if_pos (Or.inr hhi)]
              rw [er]
              by_cases h1 : f = 1
              · exact short_fhi f b q sq hk h8 hh hq (by simpa using h1) n M HM Hn (by omega) w
              · exact short_thi f b q sq hk h8 hh hq (by simpa using h1) (by simpa [qB, h1] using hq) n M HM Hn (by omega) w
            · rcases (kn_iff f).1 hk with rfl | rfl | rfl
              · exact walk0 0 b q sb sq hk h8 hh hq rfl rfl rfl rfl (by simpa [qB] using hq) n M HM Hn (by omega) (by omega) w
              · exact walk1 1 b q sb sq hk h8 hh hq rfl rfl rfl rfl n M HM Hn (by omega) (by omega) w
              · exact walk3 3 b q sb sq hk h8 hh hq rfl rfl rfl rfl (by simpa [qB] using hq) n M HM Hn (by omega) (by omega) w
      · have e : openR f b q = (none8, 61) := by unfold openR; rw [if_pos (Or.inr (Or.inr hh))]
        rw [e]
        exact bad_head f b q sb hk h8' h0 hh w
    · have h8' : ((b.size : Int) != 8) = true := by simp only [bne_iff_ne, ne_eq]; omega
      have e : openR f b q = (none8, 61) := by unfold openR; rw [if_pos (Or.inr (Or.inl h8))]
      rw [e]
      exact bad_size f b q sb hk h8' w
end Go.Proofs.Ytciblmdpngnakaa.Rq
