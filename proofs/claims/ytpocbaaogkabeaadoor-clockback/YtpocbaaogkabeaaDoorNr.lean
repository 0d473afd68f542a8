/- Last, Near: the program's. -/
import Derived.Test.YtpocbaaogkabeaaDoorSn
namespace Go.Proofs.YtpocbaaogkabeaaDoor.Nr
set_option linter.unusedVariables false
set_option linter.unusedSimpArgs false
open Go.RowKit Kb Ca Ld De Oe Hx Dy Dz Sg Sm Sn
/-- is it a month? -/
def isMo (s : ByteArray) : Bool := four s && decide (1 ≤ tw s.data.toList 2 ∧ tw s.data.toList 2 ≤ 12)
/-- the last moment of a month -/
def laV (s : ByteArray) : Int := (ay (2000 + tw s.data.toList 0) + am (2000 + tw s.data.toList 0) (tw s.data.toList 2 + 1)) * 86400 - 1
set_option maxRecDepth 100000 in
set_option maxHeartbeats 1600000 in
theorem last_bad (s : ByteArray) (hs : s.size ≤ 140737488351232) (h : isMo s = false) (w : World) : Calls Tryd.prog 26 #[.string s] w fun e w' => e = .returned (.tuple #[.int .i64 0, .int .i64 53]) ∧ Below w.heap.size w w' := by
  cases h4 : four s
  · have c := fun x => month_bad s hs h4 x
    clear h h4
    go_enter Tryd.func26, Tryd.ntmps26
    go_wp2_with fail
    refine (c _).mono ?_
    rintro e x ⟨rfl, hb⟩
    go_wp2
    go_ret2
    exact ⟨rfl, hb⟩
  · have c := fun x => month_good s hs h4 x
    rw [show decide (1 ≤ tw s.data.toList 2 ∧ tw s.data.toList 2 ≤ 12) = false by simpa [isMo, h4] using h] at c
    clear h h4
    generalize tw s.data.toList 0 = Y at *
    generalize tw s.data.toList 2 = M at *
    go_enter Tryd.func26, Tryd.ntmps26
    go_wp2_with fail
    refine (c _).mono ?_
    rintro e x ⟨rfl, hb⟩
    go_wp2
    go_ret2
    exact ⟨rfl, hb⟩
set_option maxRecDepth 100000 in
set_option maxHeartbeats 1600000 in
theorem last_good (s : ByteArray) (hs : s.size ≤ 140737488351232) (h : isMo s = true) (w : World) (hT : Tab w) : Calls Tryd.prog 26 #[.string s] w fun e w' => e = .returned (.tuple #[.int .i64 (laV s), .int .i64 0]) ∧ Below w.heap.size w w' := by
  simp only [isMo, Bool.and_eq_true, decide_eq_true_eq] at h
  obtain ⟨h4, hm⟩ := h
  have c := fun x => month_good s hs h4 x
  rw [decide_eq_true hm] at c
  have h4' := h4
  simp only [four, Bool.and_eq_true, decide_eq_true_eq] at h4'
  have b0 := tw_bd h4'.2 0 (by omega)
  unfold laV
  clear h4 h4'
  generalize tw s.data.toList 0 = Y at *
  generalize tw s.data.toList 2 = M at *
  have cY := fun x => year_any (2000 + Y) (by omega) (by omega) x
  have cM := fun x => month_any (2000 + Y) (M + 1) (by omega) (by omega) x
  have eY := ay_eq (y := 2000 + Y) (by omega)
  have y0 : 0 ≤ ay (2000 + Y) := by omega
  have y1 : ay (2000 + Y) ≤ 40000 := by omega
  have eM := am_bd (2000 + Y) (m := M + 1) (by omega) (by omega)
  clear eY
  generalize ay (2000 + Y) = A at *
  generalize am (2000 + Y) (M + 1) = B at *
  go_enter Tryd.func26, Tryd.ntmps26
  go_wp2_with fail
  refine (c _).mono ?_
  rintro e x ⟨rfl, hb⟩
  have hTx := hT.next hb
  go_wp2_with fail
  refine (cY _).mono ?_
  rintro e x ⟨rfl, rfl⟩
  go_wp2_with fail
  refine (cM _ hTx).mono ?_
  rintro e x ⟨rfl, rfl⟩
  go_wp2
  go_ret2
  exact ⟨rfl, hb⟩
set_option maxRecDepth 100000 in
set_option maxHeartbeats 1600000 in
theorem away_any (a b : Int) (a0 : -1 ≤ a) (a1 : a ≤ 3155759999) (b0 : -1 ≤ b) (b1 : b ≤ 3155759999) (w : World) : Calls Tryd.prog 51 #[.int .i64 a, .int .i64 b] w fun e w' => e = .returned (.int .i64 (fr a b)) ∧ w' = w := by
  rw [← fr_max]
  go_enter Tryd.func51, Tryd.ntmps51
  go_wp2
  all_goals (go_ret; exact ⟨Ld.ret_int (by omega), rfl⟩)
/-- numbers of a date that are laid -/
structure Small (M D h mi s : Int) : Prop where
  m : 0 ≤ M ∧ M ≤ 99
  d : 0 ≤ D ∧ D ≤ 99
  h : 0 ≤ h ∧ h ≤ 99
  i : 0 ≤ mi ∧ mi ≤ 99
  s : 0 ≤ s ∧ s ≤ 99
theorem ofV_ok {Y M D h mi s : Int} (hd : okS M D h mi s Y = true) : ofV Y M D h mi s = sk M D h mi s Y ∧ ofE Y M D h mi s = 0 := by
  have hd' : isD Y M D h mi s = true := hd
  simp [ofV, ofE, hd', sk]
theorem ofV_no {Y M D h mi s : Int} (hd : okS M D h mi s Y = false) : ofV Y M D h mi s = 0 ∧ ofE Y M D h mi s = 80 := by
  have hd' : isD Y M D h mi s = false := hd
  simp [ofV, ofE, hd']
theorem best_bd {M D h mi s x lo hi b : Int} (hb : Best (okS M D h mi s) (sk M D h mi s) x lo hi b) : -1 ≤ b ∧ b ≤ 3155759999 := by
  rcases hb with ⟨rfl, _⟩ | ⟨y, _, _, ho, rfl, _⟩
  · omega
  · have := mom_bd (show isD y M D h mi s = true from ho)
    show -1 ≤ mom y M D h mi s ∧ mom y M D h mi s ≤ _
    omega
set_option maxRecDepth 100000 in
set_option maxHeartbeats 1600000 in
theorem nearest_any (M D h mi s Y x : Int) (y0 : 2000 ≤ Y) (y1 : Y ≤ 2099) (x0 : 0 ≤ x) (x1 : x ≤ 3155759999) (Z : Int) (w : World) (hT : Tab w) :
    Calls Tryd.prog 42 #[dt Z M D h mi s, .int .i64 Y, .int .i64 x] w fun e w' => (∃ b, Best (okS M D h mi s) (sk M D h mi s) x (Y - 4) (Y + 5) b ∧ e = .returned (.int .i64 b)) ∧ Below w.heap.size w w' := by
  unfold dt
  go_enter Tryd.func42, Tryd.ntmps42
  go_wp2_with fail
  go_loopw [7] (fun c wr => ∃ K b : Int, c = .int .i64 b ∧ Y - 4 ≤ K ∧ K ≤ Y + 5 ∧ Hid (Best (okS M D h mi s) (sk M D h mi s) x (Y - 4) K b) ∧ Six wr w.heap.size K M D h mi s ∧ Below w.heap.size w wr) (fun _ wr => (Y + 5 - numAt wr w.heap.size 0).toNat)
  case atStart => exact ⟨Y - 4, -1, rfl, by omega, by omega, Best.start _ _ _ _, h1_0 w _, below_one w _⟩
  case round =>
    obtain ⟨K, b, rfl, k0, k1, HB, S1, B⟩ := hrel
    obtain ⟨r0, r1, r2, r3, r4, r5⟩ := S1.at
    have bb := best_bd HB.out
    have cO : Calls _ _ _ wr _ := of_any K M D h mi s wr (hT.next B)
    unfold dt at cO
    have ym : numAt wr w.heap.size 0 = K := by unfold numAt; rw [r0]; rfl
    by_cases hlt : K ≤ Y + 4
    · have hso : ∀ (y : World), Below wr.heap.size wr y → Six (y.setCell ⟨w.heap.size, 0, none⟩ (.int .i64 (K + 1))) w.heap.size (K + 1) M D h mi s ∧ Below w.heap.size w (y.setCell ⟨w.heap.size, 0, none⟩ (.int .i64 (K + 1))) ∧ numAt (y.setCell ⟨w.heap.size, 0, none⟩ (.int .i64 (K + 1))) w.heap.size 0 = K + 1 := fun y hb => by
        have s1 := (S1.next hb).set0 (K + 1)
        refine ⟨s1, below_setCell (keepB B hb) (Nat.le_refl _) _ _, ?_⟩
        unfold numAt; rw [s1.at.1]; rfl
      cases ho : okS M D h mi s K
      · rw [(ofV_no ho).1, (ofV_no ho).2] at cO
        have HB2 : Hid (Best (okS M D h mi s) (sk M D h mi s) x (Y - 4) (K + 1) b) := HB.out.skip ho
        go_wp2_with fail
        refine cO.mono ?_
        rintro e y ⟨rfl, hb⟩
        obtain ⟨t0, t1, t2⟩ := hso y hb
        obtain ⟨q0, q1, q2, q3, q4, q5⟩ := (S1.next hb).at
        obtain ⟨f0, -, -, -, -, -⟩ := (S1.next hb).free
        clear hso cO r0 r1 r2 r3 r4 r5
        go_wp2_with fail
        go_round
        case rel => exact ⟨K + 1, b, rfl, by omega, by omega, HB2, t0, t1⟩
        case measure => rw [ym, t2]; omega
      · rw [(ofV_ok ho).1, (ofV_ok ho).2] at cO
        have hat := mom_bd (show isD K M D h mi s = true from ho)
        have hat' : 0 ≤ sk M D h mi s K ∧ sk M D h mi s K ≤ 3155759999 := hat
        clear hat
        by_cases hbn : b < 0
        · have HB2 : Hid (Best (okS M D h mi s) (sk M D h mi s) x (Y - 4) (K + 1) (sk M D h mi s K)) := HB.out.take k0 ho (fun y hy => (mom_bd (show isD y M D h mi s = true from hy)).1) (.inl hbn)
          generalize sk M D h mi s K = V at *
          go_wp2_with fail
          refine cO.mono ?_
          rintro e y ⟨rfl, hb⟩
          obtain ⟨t0, t1, t2⟩ := hso y hb
          obtain ⟨q0, q1, q2, q3, q4, q5⟩ := (S1.next hb).at
          obtain ⟨f0, -, -, -, -, -⟩ := (S1.next hb).free
          clear hso cO r0 r1 r2 r3 r4 r5
          go_wp2_with fail
          go_round
          case rel => exact ⟨K + 1, V, rfl, by omega, by omega, HB2, t0, t1⟩
          case measure => rw [ym, t2]; omega
        · have cV := fun z => away_any (sk M D h mi s K) x (by omega) (by omega) (by omega) (by omega) z
          have cB := fun z => away_any b x (by omega) (by omega) (by omega) (by omega) z
          by_cases hf : fr (sk M D h mi s K) x < fr b x
          · have HB2 : Hid (Best (okS M D h mi s) (sk M D h mi s) x (Y - 4) (K + 1) (sk M D h mi s K)) := HB.out.take k0 ho (fun y hy => (mom_bd (show isD y M D h mi s = true from hy)).1) (.inr hf)
            generalize sk M D h mi s K = V at *
            generalize fr V x = F1 at *
            generalize fr b x = F2 at *
            go_wp2_with fail
            refine cO.mono ?_
            rintro e y ⟨rfl, hb⟩
            obtain ⟨t0, t1, t2⟩ := hso y hb
            obtain ⟨q0, q1, q2, q3, q4, q5⟩ := (S1.next hb).at
            obtain ⟨f0, -, -, -, -, -⟩ := (S1.next hb).free
            clear hso cO r0 r1 r2 r3 r4 r5
            go_wp2_with fail
            refine (cV _).mono ?_
            rintro e y ⟨rfl, rfl⟩
            go_wp2_with fail
            refine (cB _).mono ?_
            rintro e y ⟨rfl, rfl⟩
            go_wp2_with fail
            go_round
            case rel => exact ⟨K + 1, V, rfl, by omega, by omega, HB2, t0, t1⟩
            case measure => rw [ym, t2]; omega
          · have HB2 : Hid (Best (okS M D h mi s) (sk M D h mi s) x (Y - 4) (K + 1) b) := HB.out.leave (by omega) (by omega)
            generalize sk M D h mi s K = V at *
            generalize fr V x = F1 at *
            generalize fr b x = F2 at *
            go_wp2_with fail
            refine cO.mono ?_
            rintro e y ⟨rfl, hb⟩
            obtain ⟨t0, t1, t2⟩ := hso y hb
            obtain ⟨q0, q1, q2, q3, q4, q5⟩ := (S1.next hb).at
            obtain ⟨f0, -, -, -, -, -⟩ := (S1.next hb).free
            clear hso cO r0 r1 r2 r3 r4 r5
            go_wp2_with fail
            refine (cV _).mono ?_
            rintro e y ⟨rfl, rfl⟩
            go_wp2_with fail
            refine (cB _).mono ?_
            rintro e y ⟨rfl, rfl⟩
            go_wp2_with fail
            go_round
            case rel => exact ⟨K + 1, b, rfl, by omega, by omega, HB2, t0, t1⟩
            case measure => rw [ym, t2]; omega
    · obtain rfl : K = Y + 5 := by omega
      go_wp2_with fail
      go_ret
      exact ⟨⟨b, HB.out, rfl⟩, B⟩
end Go.Proofs.YtpocbaaogkabeaaDoor.Nr
