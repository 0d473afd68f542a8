/- Near, Last: the document's. -/
import Derived.Test.YtpocbaaogkabeaaDoorRo
import Derived.Test.YtpocbaaogkabeaaDoorNer
namespace Go.Proofs.YtpocbaaogkabeaaDoor.Rn
set_option linter.unusedVariables false
set_option linter.unusedSimpArgs false
open Go.RowKit Lib0 Kb Ca Ld De Oe Hx Rd Ro Sg Sm Sn Nr Ner
set_option maxRecDepth 100000 in
set_option maxHeartbeats 400000 in
theorem number_any (s : ByteArray) (k : Nat) (w : World) (hs : s.size ≤ 140737488351232) (h2 : k + 2 ≤ s.size) (hd : ad s = true) :
    Calls Tryd.prog 43 #[.string s, .int .i64 (k : Int)] w fun e w' => e = .returned (.int .i64 (tw s.data.toList k)) ∧ ∃ m, w' = w.drewN m := by
  have a0 := ad_at hd k (by omega)
  have a1 := ad_at hd (k + 1) (by omega)
  have e0 := getD_at s k (by omega)
  have e1 := getD_at s (k + 1) (by omega)
  have et : tw s.data.toList k = (10 : Int) * (((s[k]'(by omega)).toNat : Int) - (48 : Int)) + (((s[k + 1]'(by omega)).toNat : Int) - (48 : Int)) := by
    unfold tw; rw [e0, e1]
  rw [et]
  clear et e0 e1 hd
  obtain ⟨a, ha⟩ : ∃ a : Nat, (s[k]'(by omega)).toNat = a := ⟨_, rfl⟩
  obtain ⟨b, hb⟩ : ∃ a : Nat, (s[k + 1]'(by omega)).toNat = a := ⟨_, rfl⟩
  rw [ha, hb]
  rw [ha] at a0
  rw [hb] at a1
  have q1 : (48 : Int) ≤ (a : Int) := by omega
  have q2 : (a : Int) ≤ 57 := by omega
  have q3 : (48 : Int) ≤ (b : Int) := by omega
  have q4 : (b : Int) ≤ 57 := by omega
  have q5 : (k : Int) + 1 < (s.size : Int) := by omega
  have q6 : (k : Int) < (s.size : Int) := by omega
  have q7 : (0 : Int) ≤ (k : Int) := by omega
  have q8 : (0 : Int) ≤ (k : Int) + 1 := by omega
  have q9 : ((k : Int) + 1).toNat = k + 1 := by omega
  go_enter Tryd.func43, Tryd.ntmps43
  go_wp2
  go_quiet (fail)
  go_wp2
  all_goals (go_ret; exact ⟨Ld.ret_int (by omega), _, rfl⟩)
set_option maxRecDepth 100000 in
set_option maxHeartbeats 400000 in
theorem far_any (a b : Int) (a0 : -1 ≤ a) (a1 : a ≤ 3155759999) (b0 : -1 ≤ b) (b1 : b ≤ 3155759999) (w : World) : Calls Tryd.prog 44 #[.int .i64 a, .int .i64 b] w fun e w' => e = .returned (.int .i64 (fr a b)) ∧ w' = w := by
  unfold fr
  go_enter Tryd.func44, Tryd.ntmps44
  by_cases h : a < b
  · rw [if_pos h]
    go_wp2
    go_ret
    exact ⟨rfl, rfl⟩
  · rw [if_neg h]
    go_wp2
    go_ret
    exact ⟨rfl, rfl⟩
set_option maxRecDepth 100000 in
set_option maxHeartbeats 1600000 in
theorem nearr_date (s : ByteArray) (n : Int) (hn : decide (0 ≤ n ∧ n ≤ 3155759999) = false) (w : World) : Calls Tryd.prog 25 #[.string s, .int .i64 n] w fun e w' => e = .returned (.tuple #[.int .i64 0, .int .i64 80]) ∧ Below w.heap.size w w' := by
  have hk := of_decide_eq_false hn
  clear hn
  go_enter Tryd.func25, Tryd.ntmps25
  by_cases h : n < 0
  · go_wp2_with fail
    go_ret2
    exact ⟨rfl, Below.refl _ _⟩
  · have h2 : 3155759999 < n := by omega
    go_wp2_with fail
    go_ret2
    exact ⟨rfl, Below.refl _ _⟩
set_option maxRecDepth 100000 in
set_option maxHeartbeats 1600000 in
theorem nearr_bad (s : ByteArray) (hs : s.size ≤ 140737488351232) (n : Int) (h0 : 0 ≤ n) (h1 : n ≤ 3155759999) (h : ten s = false) (w : World) : Calls Tryd.prog 25 #[.string s, .int .i64 n] w fun e w' => e = .returned (.tuple #[.int .i64 0, .int .i64 81]) ∧ Below w.heap.size w w' := by
  by_cases h2 : s.size = 10
  · have h3 : Hid (ad s = false) := by show ad s = false; simpa [ten, h2] using h
    have q : ((s.size : Int) == 10) = true := by rw [h2]; rfl
    clear h
    go_enter Tryd.func25, Tryd.ntmps25
    go_wp2_with fail
    go_loop [6] (fun i => ∃ k : Nat, k ≤ 10 ∧ i = .int .i64 k ∧ Hid ((s.data.toList.take k).all dig = true)) (fun i => 10 - (intOf i).toNat)
    case atStart => exact ⟨0, Nat.zero_le _, rfl, rfl⟩
    case round =>
      obtain ⟨k, hk, rfl, Hal⟩ := hrel
      by_cases hlt : k < 10
      · have hlt' : k < s.size := by omega
        have z1 : (k : Int) < 10 := by omega
        by_cases c1 : (s[k].toNat : Int) < 48
        · go_wp2
          all_goals (go_ret2; exact ⟨rfl, Below.refl _ _⟩)
        by_cases c2 : 57 < (s[k].toNat : Int)
        · go_wp2
          all_goals (go_ret2; exact ⟨rfl, Below.refl _ _⟩)
        · have hp : Hid (dig s[k] = true) := dig_iff.2 (by omega)
          go_wp2
          go_round
          case rel => exact ⟨k + 1, by omega, by go_num, all_snoc dig s k hlt' Hal.out hp.out⟩
          case measure => simp [intOf]; omega
      · have : ad s = true := by have := Hal.out; rw [take_all s k (by omega)] at this; exact this
        rw [h3.out] at this; cases this
  · have q : ((s.size : Int) == 10) = false := by rw [beq_eq_false_iff_ne]; omega
    go_enter Tryd.func25, Tryd.ntmps25
    go_wp2_with fail
    all_goals (go_ret2; exact ⟨rfl, Below.refl _ _⟩)
def nbV (b : Int) : Int := if b < 0 then 0 else b
def nbE (b : Int) : Int := if b < 0 then 81 else 0
set_option maxRecDepth 100000 in
set_option maxHeartbeats 3200000 in
theorem nearr_ten (s : ByteArray) (hs : s.size ≤ 140737488351232) (n : Int) (h0 : 0 ≤ n) (h1 : n ≤ 3155759999) (h : ten s = true) (w : World) : Calls Tryd.prog 25 #[.string s, .int .i64 n] w fun e w' => (∃ b, IsNear s n b ∧ e = .returned (.tuple #[.int .i64 (nbV b), .int .i64 (nbE b)])) ∧ Below w.heap.size w w' := by
  simp only [ten, Bool.and_eq_true, decide_eq_true_eq] at h
  obtain ⟨h2, h3⟩ := h
  have q : ((s.size : Int) == 10) = true := by rw [h2]; rfl
  have t0 : ∀ y, Calls Tryd.prog 43 #[.string s, .int .i64 0] y fun e w' => e = .returned (.int .i64 (tw s.data.toList 0)) ∧ ∃ m, w' = y.drewN m := fun y => number_any s 0 y hs (by omega) h3
  have t2 : ∀ y, Calls Tryd.prog 43 #[.string s, .int .i64 2] y fun e w' => e = .returned (.int .i64 (tw s.data.toList 2)) ∧ ∃ m, w' = y.drewN m := fun y => number_any s 2 y hs (by omega) h3
  have t4 : ∀ y, Calls Tryd.prog 43 #[.string s, .int .i64 4] y fun e w' => e = .returned (.int .i64 (tw s.data.toList 4)) ∧ ∃ m, w' = y.drewN m := fun y => number_any s 4 y hs (by omega) h3
  have t6 : ∀ y, Calls Tryd.prog 43 #[.string s, .int .i64 6] y fun e w' => e = .returned (.int .i64 (tw s.data.toList 6)) ∧ ∃ m, w' = y.drewN m := fun y => number_any s 6 y hs (by omega) h3
  have t8 : ∀ y, Calls Tryd.prog 43 #[.string s, .int .i64 8] y fun e w' => e = .returned (.int .i64 (tw s.data.toList 8)) ∧ ∃ m, w' = y.drewN m := fun y => number_any s 8 y hs (by omega) h3
  unfold IsNear
  generalize tw s.data.toList 0 = M at *
  generalize tw s.data.toList 2 = D at *
  generalize tw s.data.toList 4 = H at *
  generalize tw s.data.toList 6 = I at *
  generalize tw s.data.toList 8 = S at *
  go_enter Tryd.func25, Tryd.ntmps25
  go_wp2_with fail
  go_loop [6] (fun i => ∃ k : Nat, k ≤ 10 ∧ i = .int .i64 k) (fun i => 10 - (intOf i).toNat)
  case atStart => exact ⟨0, Nat.zero_le _, rfl⟩
  case round =>
    obtain ⟨k, hk, rfl⟩ := hrel
    by_cases hlt : k < 10
    · have hlt' : k < s.size := by omega
      have z1 : (k : Int) < 10 := by omega
      have a0 := ad_at h3 k hlt'
      have c1 : ¬ (s[k].toNat : Int) < 48 := by omega
      have c2 : ¬ 57 < (s[k].toNat : Int) := by omega
      clear t0 t2 t4 t6 t8
      go_wp2
      go_round
      case rel => exact ⟨k + 1, by omega, by go_num⟩
      case measure => simp [intOf]; omega
    · obtain rfl : k = 10 := by omega
      clear hk hlt
      go_wp2_with fail
      go_loopw [7, 8] (fun c y wr => ∃ K b : Int, c = .int .i64 b ∧ y = .int .i64 K ∧ 2000 ≤ K ∧ K ≤ 2100 ∧ Hid (Best (okS M D H I S) (sk M D H I S) n 2000 K b) ∧ Below w.heap.size w wr) (fun _ y _ => (2100 - intOf y).toNat)
      case atStart => exact ⟨2000, -1, rfl, rfl, by omega, by omega, Best.start _ _ _ _, Below.refl _ _⟩
      case round =>
        obtain ⟨K, b, rfl, rfl, k0, k1, HB, B⟩ := hrel
        have bb := best_bd HB.out
        by_cases hlt : K ≤ 2099
        · have cO : ∀ x : World, Calls _ _ _ x _ := fun x => ofr_any K M D H I S x
          unfold dt at cO
          have BN : ∀ m (y : World), Below (wr.drewN m).heap.size (wr.drewN m) y → Below w.heap.size w y := fun m y hy => keepB (below_drewN B m) hy
          cases ho : okS M D H I S K
          · rw [(ofV_no ho).1, (ofV_no ho).2] at cO
            have HB2 : Hid (Best (okS M D H I S) (sk M D H I S) n 2000 (K + 1) b) := HB.out.skip ho
            go_wp2_with fail
            refine (t0 _).mono ?_
            rintro e y ⟨rfl, m0, rfl⟩
            go_wp2_with fail
            refine (t2 _).mono ?_
            rintro e y ⟨rfl, m2, rfl⟩
            go_wp2_with fail
            refine (t4 _).mono ?_
            rintro e y ⟨rfl, m4, rfl⟩
            go_wp2_with fail
            refine (t6 _).mono ?_
            rintro e y ⟨rfl, m6, rfl⟩
            go_wp2_with fail
            refine (t8 _).mono ?_
            rintro e y ⟨rfl, m8, rfl⟩
            go_wp2_with fail
            refine (cO _).mono ?_
            rintro e y ⟨rfl, hy⟩
            have B1 := BN _ y hy
            clear cO t0 t2 t4 t6 t8 BN hy
            go_wp2_with fail
            go_round
            case rel => exact ⟨K + 1, b, rfl, by go_num, by omega, by omega, HB2, B1⟩
            case measure => simp [intOf]; omega
          · rw [(ofV_ok ho).1, (ofV_ok ho).2] at cO
            have hat' : 0 ≤ sk M D H I S K ∧ sk M D H I S K ≤ 3155759999 := mom_bd (show isD K M D H I S = true from ho)
            by_cases hbn : b < 0
            · have HB2 : Hid (Best (okS M D H I S) (sk M D H I S) n 2000 (K + 1) (sk M D H I S K)) := HB.out.take k0 ho (fun y hy => (mom_bd (show isD y M D H I S = true from hy)).1) (.inl hbn)
              generalize sk M D H I S K = V at *
              go_wp2_with fail
              refine (t0 _).mono ?_
              rintro e y ⟨rfl, m0, rfl⟩
              go_wp2_with fail
              refine (t2 _).mono ?_
              rintro e y ⟨rfl, m2, rfl⟩
              go_wp2_with fail
              refine (t4 _).mono ?_
              rintro e y ⟨rfl, m4, rfl⟩
              go_wp2_with fail
              refine (t6 _).mono ?_
              rintro e y ⟨rfl, m6, rfl⟩
              go_wp2_with fail
              refine (t8 _).mono ?_
              rintro e y ⟨rfl, m8, rfl⟩
              go_wp2_with fail
              refine (cO _).mono ?_
              rintro e y ⟨rfl, hy⟩
              have B1 := BN _ y hy
              clear cO t0 t2 t4 t6 t8 BN hy
              go_wp2_with fail
              go_round
              case rel => exact ⟨K + 1, V, rfl, by go_num, by omega, by omega, HB2, B1⟩
              case measure => simp [intOf]; omega
            · have cV := fun z => far_any (sk M D H I S K) n (by omega) (by omega) (by omega) (by omega) z
              have cB := fun z => far_any b n (by omega) (by omega) (by omega) (by omega) z
              by_cases hf : fr (sk M D H I S K) n < fr b n
              · have HB2 : Hid (Best (okS M D H I S) (sk M D H I S) n 2000 (K + 1) (sk M D H I S K)) := HB.out.take k0 ho (fun y hy => (mom_bd (show isD y M D H I S = true from hy)).1) (.inr hf)
                generalize sk M D H I S K = V at *
                generalize fr V n = F1 at *
                generalize fr b n = F2 at *
                go_wp2_with fail
                refine (t0 _).mono ?_
                rintro e y ⟨rfl, m0, rfl⟩
                go_wp2_with fail
                refine (t2 _).mono ?_
                rintro e y ⟨rfl, m2, rfl⟩
                go_wp2_with fail
                refine (t4 _).mono ?_
                rintro e y ⟨rfl, m4, rfl⟩
                go_wp2_with fail
                refine (t6 _).mono ?_
                rintro e y ⟨rfl, m6, rfl⟩
                go_wp2_with fail
                refine (t8 _).mono ?_
                rintro e y ⟨rfl, m8, rfl⟩
                go_wp2_with fail
                refine (cO _).mono ?_
                rintro e y ⟨rfl, hy⟩
                have B1 := BN _ y hy
                clear cO t0 t2 t4 t6 t8 BN hy
                go_wp2_with fail
                refine (cV _).mono ?_
                rintro e y ⟨rfl, rfl⟩
                go_wp2_with fail
                refine (cB _).mono ?_
                rintro e y ⟨rfl, rfl⟩
                go_wp2_with fail
                go_round
                case rel => exact ⟨K + 1, V, rfl, by go_num, by omega, by omega, HB2, B1⟩
                case measure => simp [intOf]; omega
              · have HB2 : Hid (Best (okS M D H I S) (sk M D H I S) n 2000 (K + 1) b) := HB.out.leave (by omega) (by omega)
                generalize sk M D H I S K = V at *
                generalize fr V n = F1 at *
                generalize fr b n = F2 at *
                go_wp2_with fail
                refine (t0 _).mono ?_
                rintro e y ⟨rfl, m0, rfl⟩
                go_wp2_with fail
                refine (t2 _).mono ?_
                rintro e y ⟨rfl, m2, rfl⟩
                go_wp2_with fail
                refine (t4 _).mono ?_
                rintro e y ⟨rfl, m4, rfl⟩
                go_wp2_with fail
                refine (t6 _).mono ?_
                rintro e y ⟨rfl, m6, rfl⟩
                go_wp2_with fail
                refine (t8 _).mono ?_
                rintro e y ⟨rfl, m8, rfl⟩
                go_wp2_with fail
                refine (cO _).mono ?_
                rintro e y ⟨rfl, hy⟩
                have B1 := BN _ y hy
                clear cO t0 t2 t4 t6 t8 BN hy
                go_wp2_with fail
                refine (cV _).mono ?_
                rintro e y ⟨rfl, rfl⟩
                go_wp2_with fail
                refine (cB _).mono ?_
                rintro e y ⟨rfl, rfl⟩
                go_wp2_with fail
                go_round
                case rel => exact ⟨K + 1, b, rfl, by go_num, by omega, by omega, HB2, B1⟩
                case measure => simp [intOf]; omega
        · obtain rfl : K = 2100 := by omega
          clear t0 t2 t4 t6 t8
          by_cases hbn : b < 0
          · go_wp2_with fail
            go_ret2
            exact ⟨⟨b, HB.out, by rw [show nbV b = 0 from if_pos hbn, show nbE b = 81 from if_pos hbn]; rfl⟩, B⟩
          · go_wp2_with fail
            go_ret2
            exact ⟨⟨b, HB.out, by rw [show nbV b = b from if_neg (by omega), show nbE b = 0 from if_neg (by omega)]; rfl⟩, B⟩
theorem nearr_stamp (s : ByteArray) (hs : s.size ≤ 140737488351232) (n : Int) (h0 : 0 ≤ n) (h1 : n ≤ 3155759999) (h : isSt s = false) (w : World) : Calls Tryd.prog 25 #[.string s, .int .i64 n] w fun e w' => e = .returned (.tuple #[.int .i64 0, .int .i64 81]) ∧ Below w.heap.size w w' := by
  cases h4 : ten s
  · exact nearr_bad s hs n h0 h1 h4 w
  · refine (nearr_ten s hs n h0 h1 h4 w).mono ?_
    rintro e x ⟨⟨b, hb, rfl⟩, hx⟩
    have hd : isD 2000 (tw s.data.toList 0) (tw s.data.toList 2) (tw s.data.toList 4) (tw s.data.toList 6) (tw s.data.toList 8) = false := by simpa [isSt, h4] using h
    have e : b = -1 := by
      rcases hb with ⟨e, _⟩ | ⟨y, y0, y1, ho, _, _⟩
      · exact e
      · have := isD_leap (Z := 2000) ho (by omega) (by omega) (by omega)
        rw [hd] at this; cases this
    subst e
    exact ⟨rfl, hx⟩
theorem nearr_good (s : ByteArray) (hs : s.size ≤ 140737488351232) (n : Int) (h0 : 0 ≤ n) (h1 : n ≤ 3155759999) (h : isSt s = true) (w : World) : Calls Tryd.prog 25 #[.string s, .int .i64 n] w fun e w' => (∃ b, IsNear s n b ∧ e = .returned (.tuple #[.int .i64 b, .int .i64 0])) ∧ Below w.heap.size w w' := by
  simp only [isSt, Bool.and_eq_true] at h
  refine (nearr_ten s hs n h0 h1 h.1 w).mono ?_
  rintro e x ⟨⟨b, hb, rfl⟩, hx⟩
  have hp : ¬ b < 0 := by
    rcases hb with ⟨_, hn⟩ | ⟨y, y0, y1, ho, e, _⟩
    · have := hn 2000 (by omega) (by omega)
      rw [show okS _ _ _ _ _ 2000 = true from h.2] at this; cases this
    · have := (mom_bd (show isD y _ _ _ _ _ = true from ho)).1
      rw [e]
      show ¬ mom y _ _ _ _ _ < 0
      omega
  rw [show nbV b = b from if_neg hp, show nbE b = 0 from if_neg hp]
  exact ⟨⟨b, hb, rfl⟩, hx⟩
theorem la_mom {s : ByteArray} : mom (2000 + tw s.data.toList 0) (tw s.data.toList 2) (dm (2000 + tw s.data.toList 0) (tw s.data.toList 2)) 23 59 59 = laV s := by
  unfold mom laV dm
  omega
set_option maxRecDepth 100000 in
set_option maxHeartbeats 1600000 in
theorem lastr_four (s : ByteArray) (hs : s.size ≤ 140737488351232) (h : four s = false) (w : World) : Calls Tryd.prog 27 #[.string s] w fun e w' => e = .returned (.tuple #[.int .i64 0, .int .i64 53]) ∧ Below w.heap.size w w' := by
  by_cases h2 : s.size = 4
  · have h3 : Hid (ad s = false) := by show ad s = false; simpa [four, h2] using h
    have q : ((s.size : Int) == 4) = true := by rw [h2]; rfl
    clear h
    go_enter Tryd.func27, Tryd.ntmps27
    go_wp2_with fail
    go_loop [4] (fun i => ∃ k : Nat, k ≤ 4 ∧ i = .int .i64 k ∧ Hid ((s.data.toList.take k).all dig = true)) (fun i => 4 - (intOf i).toNat)
    case atStart => exact ⟨0, Nat.zero_le _, rfl, rfl⟩
    case round =>
      obtain ⟨k, hk, rfl, Hal⟩ := hrel
      by_cases hlt : k < 4
      · have hlt' : k < s.size := by omega
        have z1 : (k : Int) < 4 := by omega
        by_cases c1 : (s[k].toNat : Int) < 48
        · go_wp2
          all_goals (go_ret2; exact ⟨rfl, Below.refl _ _⟩)
        by_cases c2 : 57 < (s[k].toNat : Int)
        · go_wp2
          all_goals (go_ret2; exact ⟨rfl, Below.refl _ _⟩)
        · have hp : Hid (dig s[k] = true) := dig_iff.2 (by omega)
          go_wp2
          go_round
          case rel => exact ⟨k + 1, by omega, by go_num, all_snoc dig s k hlt' Hal.out hp.out⟩
          case measure => simp [intOf]; omega
      · have : ad s = true := by have := Hal.out; rw [take_all s k (by omega)] at this; exact this
        rw [h3.out] at this; cases this
  · have q : ((s.size : Int) == 4) = false := by rw [beq_eq_false_iff_ne]; omega
    go_enter Tryd.func27, Tryd.ntmps27
    go_wp2_with fail
    all_goals (go_ret2; exact ⟨rfl, Below.refl _ _⟩)
def laV' (s : ByteArray) : Int := if isMo s = true then laV s else 0
def laE (s : ByteArray) : Int := if isMo s = true then 0 else 53
set_option maxRecDepth 100000 in
set_option maxHeartbeats 1600000 in
theorem lastr_ok (s : ByteArray) (hs : s.size ≤ 140737488351232) (h : four s = true) (w : World) : Calls Tryd.prog 27 #[.string s] w fun e w' => e = .returned (.tuple #[.int .i64 (laV' s), .int .i64 (laE s)]) ∧ Below w.heap.size w w' := by
  have hmo : isMo s = decide (1 ≤ tw s.data.toList 2 ∧ tw s.data.toList 2 ≤ 12) := by simp [isMo, h]
  simp only [four, Bool.and_eq_true, decide_eq_true_eq] at h
  obtain ⟨h2, h3⟩ := h
  have q : ((s.size : Int) == 4) = true := by rw [h2]; rfl
  have t0 : ∀ y, Calls Tryd.prog 43 #[.string s, .int .i64 0] y fun e w' => e = .returned (.int .i64 (tw s.data.toList 0)) ∧ ∃ m, w' = y.drewN m := fun y => number_any s 0 y hs (by omega) h3
  have t2 : ∀ y, Calls Tryd.prog 43 #[.string s, .int .i64 2] y fun e w' => e = .returned (.int .i64 (tw s.data.toList 2)) ∧ ∃ m, w' = y.drewN m := fun y => number_any s 2 y hs (by omega) h3
  have b0 := tw_bd h3 0 (by omega)
  have b2 := tw_bd h3 2 (by omega)
  have lm := la_mom (s := s)
  unfold laV' laE
  rw [hmo, ← lm]
  clear lm hmo
  generalize tw s.data.toList 0 = Y at *
  generalize tw s.data.toList 2 = M at *
  by_cases hM : 1 ≤ M ∧ M ≤ 12
  · rw [decide_eq_true hM]
    simp only [if_true]
    have cD := fun x => days_any (2000 + Y) M x
    have e1 := dd_eq (2000 + Y) (m := M) (by omega) (by omega)
    have db := dm_bd (2000 + Y) (m := M) (by omega) (by omega)
    rw [e1] at cD
    have cO : ∀ x : World, Calls _ _ _ x _ := fun x => ofr_any (2000 + Y) M (dm (2000 + Y) M) 23 59 59 x
    have hok : isD (2000 + Y) M (dm (2000 + Y) M) 23 59 59 = true := decide_eq_true (by omega)
    rw [show ofV (2000 + Y) M (dm (2000 + Y) M) 23 59 59 = mom (2000 + Y) M (dm (2000 + Y) M) 23 59 59 by simp [ofV, hok], show ofE (2000 + Y) M (dm (2000 + Y) M) 23 59 59 = 0 by simp [ofE, hok]] at cO
    unfold dt at cO
    clear hok e1
    generalize mom (2000 + Y) M (dm (2000 + Y) M) 23 59 59 = V at *
    generalize dm (2000 + Y) M = E at *
    obtain ⟨g0, g1⟩ := hM
    go_enter Tryd.func27, Tryd.ntmps27
    go_wp2_with fail
    go_loop [4] (fun i => ∃ k : Nat, k ≤ 4 ∧ i = .int .i64 k) (fun i => 4 - (intOf i).toNat)
    case atStart => exact ⟨0, Nat.zero_le _, rfl⟩
    case round =>
      obtain ⟨k, hk, rfl⟩ := hrel
      by_cases hlt : k < 4
      · have hlt' : k < s.size := by omega
        have z1 : (k : Int) < 4 := by omega
        have a0 := ad_at h3 k hlt'
        have c1 : ¬ (s[k].toNat : Int) < 48 := by omega
        have c2 : ¬ 57 < (s[k].toNat : Int) := by omega
        clear t0 t2 cD cO
        go_wp2
        go_round
        case rel => exact ⟨k + 1, by omega, by go_num⟩
        case measure => simp [intOf]; omega
      · obtain rfl : k = 4 := by omega
        clear hk hlt
        go_wp2_with fail
        refine (t0 _).mono ?_
        rintro e y ⟨rfl, m0, rfl⟩
        go_wp2_with fail
        refine (t2 _).mono ?_
        rintro e y ⟨rfl, m2, rfl⟩
        clear t0 t2
        go_wp2_with fail
        refine (cD _).mono ?_
        rintro e y ⟨rfl, rfl⟩
        go_wp2_with fail
        refine (cO _).mono ?_
        rintro e y ⟨rfl, hy⟩
        have hy2 := keepB (below_drewN (Below.refl _ w) _) hy
        clear cO cD hy
        go_wp2
        go_ret2
        exact ⟨rfl, hy2⟩
  · rw [decide_eq_false hM]
    simp only [Bool.false_eq_true, if_false]
    go_enter Tryd.func27, Tryd.ntmps27
    go_wp2_with fail
    go_loop [4] (fun i => ∃ k : Nat, k ≤ 4 ∧ i = .int .i64 k) (fun i => 4 - (intOf i).toNat)
    case atStart => exact ⟨0, Nat.zero_le _, rfl⟩
    case round =>
      obtain ⟨k, hk, rfl⟩ := hrel
      by_cases hlt : k < 4
      · have hlt' : k < s.size := by omega
        have z1 : (k : Int) < 4 := by omega
        have a0 := ad_at h3 k hlt'
        have c1 : ¬ (s[k].toNat : Int) < 48 := by omega
        have c2 : ¬ 57 < (s[k].toNat : Int) := by omega
        clear t0 t2
        go_wp2
        go_round
        case rel => exact ⟨k + 1, by omega, by go_num⟩
        case measure => simp [intOf]; omega
      · obtain rfl : k = 4 := by omega
        clear hk hlt
        go_wp2_with fail
        refine (t0 _).mono ?_
        rintro e y ⟨rfl, m0, rfl⟩
        go_wp2_with fail
        refine (t2 _).mono ?_
        rintro e y ⟨rfl, m2, rfl⟩
        clear t0 t2
        by_cases c1 : M < 1
        · go_wp2
          go_ret2
          exact ⟨rfl, below_drewN (Below.refl _ w) _⟩
        · have c2 : 12 < M := by omega
          go_wp2
          go_ret2
          exact ⟨rfl, below_drewN (Below.refl _ w) _⟩
end Go.Proofs.YtpocbaaogkabeaaDoor.Rn
