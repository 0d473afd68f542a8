import Derived.Test.YtmnoplaepjaokaaGreatDoorQs14
import Derived.Test.YtmnoplaepjaokaaGreatDoorQs28
import Derived.Test.YtmnoplaepjaokaaGreatDoorQs13
import Derived.Lib.LaidTab
import Derived.Deep.DeepHandedRow
import Derived.Stop.LaidErr
/- StanTells: its walk. -/
namespace Go.Proofs.YtmnoplaepjaokaaGreatDoor.Uf
set_option linter.unusedVariables false
set_option linter.unusedSimpArgs false
open Go.RowKit Lib0 Kb Xp Num Ca Ld De Oe Hx Dy Dz Pa Te Rt Rj Yg Ub Ue
theorem bnd {x : Int} (h : (Lit.int .i64 x).wf = true) : -9223372036854775808 ≤ x ∧ x ≤ 9223372036854775807 := by
  simp [Lit.wf, IntKind.min, IntKind.max, IntKind.signed, IntKind.bits] at h; omega
set_option maxRecDepth 100000 in
theorem two_any (s : ByteArray) (hs : s.size = 12) (A B : Nat) (hA : (s[4]'(by omega)).toNat = 48 + A) (hB : (s[5]'(by omega)).toNat = 48 + B) (a1 : A ≤ 9) (b1 : B ≤ 9) (w : World) : Calls Tryz.prog 28 #[.string s, .int .i64 4] w fun e w' => e = .returned (.int .i64 (10 * (A : Int) + (B : Int))) ∧ ∃ m, w' = w.drewN m := by
  have h4 : 4 < s.size := by omega
  have h5 : 5 < s.size := by omega
  have q4 : ((s[4]'h4).toNat : Int) = 48 + (A : Int) := by omega
  have q5 : ((s[5]'h5).toNat : Int) = 48 + (B : Int) := by omega
  have r4 : (4 : Int) < (s.size : Int) := by omega
  have r5 : (5 : Int) < (s.size : Int) := by omega
  have g1 : (0 : Int) ≤ (A : Int) := by omega
  have g2 : (A : Int) ≤ 9 := by omega
  have g3 : (0 : Int) ≤ (B : Int) := by omega
  have g4 : (B : Int) ≤ 9 := by omega
  have w1 : IntKind.i64.wrap (48 + (A : Int)) = 48 + (A : Int) := wrap_i64 _ (by omega) (by omega)
  have w2 : IntKind.i64.wrap (48 + (A : Int) - 48) = (A : Int) := by rw [show (48 + (A : Int) - 48) = (A : Int) by omega]; exact wrap_i64 _ (by omega) (by omega)
  have w3 : IntKind.i64.wrap (10 * (A : Int)) = 10 * (A : Int) := wrap_i64 _ (by omega) (by omega)
  have w4 : IntKind.i64.wrap (48 + (B : Int)) = 48 + (B : Int) := wrap_i64 _ (by omega) (by omega)
  have w5 : IntKind.i64.wrap (10 * (A : Int) + (48 + (B : Int))) = 10 * (A : Int) + (48 + (B : Int)) := wrap_i64 _ (by omega) (by omega)
  have w6 : IntKind.i64.wrap (10 * (A : Int) + (48 + (B : Int)) - 48) = 10 * (A : Int) + (B : Int) := by rw [show (10 * (A : Int) + (48 + (B : Int)) - 48) = 10 * (A : Int) + (B : Int) by omega]; exact wrap_i64 _ (by omega) (by omega)
  clear hs hA hB a1 b1
  generalize (A : Int) = x at *
  generalize (B : Int) = y at *
  go_enter Tryz.func28, Tryz.ntmps28
  go_wp2_with fail
  go_quiet (fail)
  go_wp2_with fail
  go_ret
  exact ⟨rfl, _, rfl⟩
theorem two_tx {t : Int} {n : Nat} {s : ByteArray} {Y M D : Int} (h : Tx t n s Y M D) (w : World) : Calls Tryz.prog 28 #[.string s, .int .i64 4] w fun e w' => e = .returned (.int .i64 ((hr t : Nat) : Int)) ∧ ∃ m, w' = w.drewN m := by
  have hs := h.size
  have h4 : 4 < s.size := by omega
  have h5 : 5 < s.size := by omega
  obtain ⟨e4, e5⟩ := h.hour h4 h5
  have hl := hr_lt t
  have := two_any s hs (hr t / 10 % 10) (hr t % 10) e4 e5 (by omega) (by omega) w
  rw [show (10 * ((hr t / 10 % 10 : Nat) : Int) + ((hr t % 10 : Nat) : Int)) = ((hr t : Nat) : Int) by omega] at this
  exact this
theorem post_tx {w x : World} {t : Int} {n : Nat} {e : Ending} (h : PostF w t n e x) (hm : isMom t = true) (hn : Yc.isNum (n : Int) = true) : ∃ s Y M D, Tx t n s Y M D ∧ e = .returned (.tuple #[.string s, .int .i64 0]) ∧ Below w.heap.size w x := by
  rcases h.1 with ⟨a, b⟩ | ⟨a, c, b⟩ | ⟨a, c, Y, M, D, d, b⟩
  · rw [hm] at a; cases a
  · rw [hn] at c; cases c
  · refine ⟨_, Y, M, D, ⟨d, rfl⟩, ?_, h.2⟩
    rw [b]; rfl
set_option maxRecDepth 100000 in
set_option maxHeartbeats 3200000 in
theorem walk (a0 a1 : Int) (w : World) (w0 : (Lit.int .i64 a0).wf = true) (w1 : (Lit.int .i64 a1).wf = true) (hT : Tb w) (hA : Tab w) :
    Calls Tryz.prog 7 #[.int .i64 a0, .int .i64 a1] w fun e w' => e = .returned (.bool true) ∧ Below w.heap.size w w' := by
  have HT : Hid (Tb w) := hT
  have HA : Hid (Tab w) := hA
  have b0 := bnd w0
  have b1 := bnd w1
  have HP0 : Hid (∀ x, Calls Tryz.prog 12 #[.int .i64 a0, .int .i64 3155756400] x fun e w' => e = .returned (.int .i64 (Pick.pickOf a0 3155756400)) ∧ w' = x) := fun x => Pick.pick_any a0 3155756400 x b0.1 b0.2 (by decide) (by decide)
  have HP1 : Hid (∀ x, Calls Tryz.prog 12 #[.int .i64 a1, .int .i64 999999] x fun e w' => e = .returned (.int .i64 (Pick.pickOf a1 999999)) ∧ w' = x) := fun x => Pick.pick_any a1 999999 x b1.1 b1.2 (by decide) (by decide)
  have p0 := Pick.pick_lo a0 3155756400 (by decide)
  have p1 := Pick.pick_hi a0 3155756400 (by decide)
  have p2 := Pick.pick_lo a1 999999 (by decide)
  have p3 := Pick.pick_hi a1 999999 (by decide)
  generalize Pick.pickOf a0 3155756400 = t at *
  generalize Pick.pickOf a1 999999 = n0 at *
  obtain ⟨n, hn⟩ : ∃ n : Nat, 1 + n0 = (n : Int) := ⟨(1 + n0).toNat, by omega⟩
  have HNB : Hid (1 ≤ n ∧ n ≤ 999999) := by show 1 ≤ n ∧ n ≤ 999999; omega
  have HTB : Hid (0 ≤ t ∧ t < 3155756400) := ⟨p0, p1⟩
  have HM1 : Hid (isMom t = true) := by show decide _ = true; simp; omega
  have HM2 : Hid (isMom (t + 3600) = true) := by show decide _ = true; simp; omega
  have HNU : Hid (Yc.isNum (n : Int) = true) := by have := HNB.out; show Yc.isNum (n : Int) = true; simp [Yc.isNum]; omega
  clear w0 w1 b0 b1 hT hA
  go_enter Tryz.func7, Tryz.ntmps7
  go_wp2_with fail
  refine (Zk.known_any w HT.out).mono ?_
  rintro e y0 ⟨rfl, hy0⟩
  have HY0 : Hid (Below w.heap.size w y0) := hy0
  clear hy0
  go_wp2_with fail
  refine (HP1.out _).mono ?_
  rintro e x ⟨rfl, hx⟩
  rw [hx]
  clear hx x HP1
  go_wp2_with fail
  refine (HP0.out _).mono ?_
  rintro e x ⟨rfl, hx⟩
  rw [hx]
  clear hx x HP0
  go_wp2_with fail
  try rw [hn]
  obtain ⟨f, HF, hf⟩ : ∃ s : ByteArray, Hid (⟨(dgs 6 n).toArray⟩ = s) ∧ s.size = 6 := ⟨_, rfl, by show (dgs 6 n).toArray.size = 6; simp [dgs_length]⟩
  have HFI : Hid (∀ y, Tb y → Calls Tryz.prog 14 #[.int .i64 (n : Int)] y fun e w' => e = .returned (.tuple #[.string f, .int .i64 0]) ∧ Below y.heap.size y w') := fun y hy => by
    have := field_any (n : Int) y hy
    have e : fieldR (n : Int) = (dgs 6 n, 0) := by rw [fieldR, HNU.out]; simp
    rw [e] at this
    dsimp only at this
    rw [HF.out] at this
    exact this
  have HFS : Hid (f.size = 6) := hf
  clear hf
  refine (HFI.out y0 (HT.out.next HY0.out)).mono ?_
  rintro e y1 ⟨rfl, hy⟩
  have HY1 : Hid (Below w.heap.size w y1) := keepB HY0.out hy
  clear hy HY0 HFI
  go_wp2_with fail
  refine (reference_any t n y1 (HT.out.next HY1.out) (HA.out.next HY1.out)).mono ?_
  rintro e y2 hp
  obtain ⟨a, Y, M, D, hTx, rfl, hb⟩ := post_tx hp HM1.out HNU.out
  have HTA : Hid (Tx t n a Y M D) := hTx
  have HY2 : Hid (Below w.heap.size w y2) := keepB HY1.out hb
  clear hp hTx hb HY1
  have q1 : t + 3600 ≤ 3155760000 := by omega
  have q0 : 0 ≤ t := p0
  go_wp2_with fail
  refine (reference_any (t + 3600) n y2 (HT.out.next HY2.out) (HA.out.next HY2.out)).mono ?_
  rintro e y3 hp
  obtain ⟨b, Y', M', D', hTx, rfl, hb⟩ := post_tx hp HM2.out HNU.out
  have HTX : Hid (Tx (t + 3600) n b Y' M' D') := hTx
  have HY3 : Hid (Below w.heap.size w y3) := keepB HY2.out hb
  clear hp hTx hb HY2
  have sa : a.size = 12 := HTA.out.size
  have sb : b.size = 12 := HTX.out.size
  have sf : f.size = 6 := HFS.out
  have sa' : (a.size : Int) = 12 := by omega
  have sb' : (b.size : Int) = 12 := by omega
  have sf' : (f.size : Int) = 6 := by omega
  go_wp2_with fail
  have HSZ : Hid (a.size = 12 ∧ b.size = 12 ∧ f.size = 6) := ⟨sa, sb, sf⟩
  clear sa sb sf sa' sb' sf' hn p0 p1 p2 p3
  go_loopw [14] (fun iv wr => ∃ i : Nat, iv = .int .i64 (i : Int) ∧ i ≤ 12 ∧ wr = y3) (fun iv _ => 13 - (intOf iv).toNat)
  case atStart => exact ⟨0, rfl, by omega, rfl⟩
  case round =>
    obtain ⟨i, rfl, hi, rfl⟩ := hrel
    have r0 : (0 : Int) ≤ (i : Int) := by omega
    by_cases hlt : i < 12
    · as_aux_lemma =>
        have ha : i < a.size := by have := HSZ.out; omega
        have hb : i < b.size := by have := HSZ.out; omega
        have d1 := HTA.out.digit i ha
        have d2 := HTX.out.digit i hb
        have r1 : (i : Int) < 12 := by omega
        have r2 : (i : Int) < (a.size : Int) := by omega
        have r3 : (i : Int) < (b.size : Int) := by omega
        have g1 : ¬ ((a[i]'ha).toNat : Int) < 48 := by omega
        have g2 : ¬ 57 < ((a[i]'ha).toNat : Int) := by omega
        have g3 : ¬ ((b[i]'hb).toNat : Int) < 48 := by omega
        have g4 : ¬ 57 < ((b[i]'hb).toNat : Int) := by omega
        have HI : Hid (i < 12) := hlt
        clear d1 d2 hi hlt
        go_wp2_with fail
        have := HI.out
        refine ⟨⟨i + 1, by simp, by omega, trivial⟩, ?_⟩
        simp only [intOf]
        omega
    · obtain rfl : i = 12 := by omega
      rw [show ((12 : Nat) : Int) = 12 from rfl]
      clear hi hlt r0
      have HN0 : Hid ((0 : Int) = ((n / 10 ^ 6 : Nat) : Int)) := by
        have := HNB.out
        have : n / 10 ^ 6 = 0 := Nat.div_eq_of_lt (by omega)
        show (0 : Int) = _
        rw [this]; rfl
      obtain ⟨y4, hy4⟩ : ∃ y, wr = y := ⟨_, rfl⟩
      subst hy4
      go_wp2_with fail
      go_loopw [15, 16] (fun kv iv wr2 => ∃ i : Nat, iv = .int .i64 (i : Int) ∧ i ≤ 6 ∧ kv = .int .i64 ((n / 10 ^ (6 - i) : Nat) : Int) ∧ wr2 = wr) (fun _ iv _ => 7 - (intOf iv).toNat)
      case atStart => exact ⟨0, rfl, by omega, by rw [HN0.out], rfl⟩
      case round =>
        obtain ⟨i, rfl, hi, rfl, rfl⟩ := hrel
        have r0 : (0 : Int) ≤ (i : Int) := by omega
        by_cases hlt : i < 6
        · as_aux_lemma =>
            have hf : i < f.size := by have := HSZ.out; omega
            have hbt : (f[i]'hf).toNat = 48 + n / 10 ^ (6 - 1 - i) % 10 := by
              rw [byte_at HF.out i hf (dgs_get 6 n i hlt), dig_nat]
            have r1 : (i : Int) < 6 := by omega
            have r2 : (i : Int) < (f.size : Int) := by omega
            have HST : Hid (10 * (n / 10 ^ (6 - i)) + n / 10 ^ (6 - 1 - i) % 10 = n / 10 ^ (6 - (i + 1))) := fold_step n i hlt
            obtain ⟨c, hc⟩ : ∃ c : Int, ((f[i]'hf).toNat : Int) = c := ⟨_, rfl⟩
            have HC : Hid (c = 48 + ((n / 10 ^ (6 - 1 - i) % 10 : Nat) : Int)) := by rw [← hc, hbt]; show ((48 + n / 10 ^ (6 - 1 - i) % 10 : Nat) : Int) = _; omega
            have c0 : 48 ≤ c := by have := HC.out; omega
            have c1 : c ≤ 57 := by have := HC.out; have := Nat.mod_lt (n / 10 ^ (6 - 1 - i)) (show 10 > 0 by decide); omega
            have HKB : Hid (n / 10 ^ (6 - i) ≤ 999999) := Nat.le_trans (Nat.div_le_self _ _) HNB.out.2
            obtain ⟨K, HK⟩ : ∃ K : Nat, Hid (n / 10 ^ (6 - i) = K) := ⟨_, rfl⟩
            rw [HK.out] at HST HKB
            rw [HK.out]
            have k0 : (0 : Int) ≤ (K : Int) := by omega
            have k1 : (K : Int) ≤ 999999 := by have := HKB.out; omega
            have HNX : Hid (10 * (K : Int) + c - 48 = ((n / 10 ^ (6 - (i + 1)) : Nat) : Int)) := by have := HST.out; have := HC.out; show 10 * (K : Int) + c - 48 = _; omega
            have HI : Hid (i < 6) := hlt
            clear hbt hi hlt
            go_wp2_with fail
            have := HI.out
            refine ⟨⟨i + 1, by simp, by omega, by rw [HNX.out], trivial⟩, ?_⟩
            simp only [intOf]
            omega
        · obtain rfl : i = 6 := by omega
          rw [show ((6 : Nat) : Int) = 6 from rfl, show n / 10 ^ (6 - 6) = n by simp]
          clear hi hlt r0
          go_wp2_with fail
          refine (two_tx HTA.out _).mono ?_
          rintro e y5 ⟨rfl, m, hy5⟩
          have HY5 : Hid (Below w.heap.size w y5) := hy5 ▸ Kb.below_drewN HY3.out m
          clear hy5
          have HT2 : Hid (∀ j, Calls Tryz.prog 28 #[.string b, .int .i64 4] (y5.drewN j) fun e w' => e = .returned (.int .i64 ((hr (t + 3600) : Nat) : Int)) ∧ ∃ m, w' = (y5.drewN j).drewN m) := fun j => two_tx HTX.out _
          have hx := hr_next t HTB.out.1
          have hh : t / 3600 % 24 = ((hr t : Nat) : Int) := by have := HTB.out; unfold hr; omega
          have hl := hr_lt t
          rw [hx.1] at HT2
          have e6 : a.extract 6 a.size = f := by rw [HSZ.out.1, HTA.out.tail, HF.out]
          have e7 : b.extract 6 b.size = f := by rw [HSZ.out.2.1, HTX.out.tail, HF.out]
          have z1 : (6 : Int) ≤ (a.size : Int) := by have := HSZ.out; omega
          have z2 : (6 : Int) ≤ (b.size : Int) := by have := HSZ.out; omega
          have z3 : (4 : Int) ≤ (a.size : Int) := by omega
          have z4 : (4 : Int) ≤ (b.size : Int) := by omega
          have q3 : (((hr t : Nat) : Int) + 1) % 24 = (((hr t + 1) % 24 : Nat) : Int) := by omega
          obtain ⟨Q, hQ⟩ : ∃ Q, t / 3600 = Q := ⟨_, rfl⟩
          have t0 := HTB.out.1
          have t1 : t.tdiv 3600 = Q := by rw [Int.tdiv_eq_ediv_of_nonneg t0, hQ]
          have t2 : IntKind.i64.wrap Q = Q := wrap_i64 _ (by omega) (by have := HTB.out; omega)
          obtain ⟨H, hH⟩ : ∃ H : Int, ((hr t : Nat) : Int) = H := ⟨_, rfl⟩
          obtain ⟨H2, hH2⟩ : ∃ H : Int, (((hr t + 1) % 24 : Nat) : Int) = H := ⟨_, rfl⟩
          have t3 : Q.tmod 24 = H := by rw [Int.tmod_eq_emod_of_nonneg (by omega), ← hQ, hh, hH]
          have t4 : IntKind.i64.wrap H = H := wrap_i64 _ (by omega) (by omega)
          have t5 : IntKind.i64.wrap (H + 1) = H + 1 := wrap_i64 _ (by omega) (by omega)
          have t6 : (H + 1).tmod 24 = H2 := by rw [Int.tmod_eq_emod_of_nonneg (by omega), ← hH, q3, hH2]
          have t7 : IntKind.i64.wrap H2 = H2 := wrap_i64 _ (by omega) (by omega)
          rw [hH2] at HT2
          rw [hH]
          obtain ⟨xa, hxa⟩ : ∃ x, a.extract 0 4 = x := ⟨_, rfl⟩
          obtain ⟨xb, hxb⟩ : ∃ x, b.extract 0 4 = x := ⟨_, rfl⟩
          have HDA := HTA.out.day
          have HDB := HTX.out.day
          have HHA := HTA.out.head
          have HHB := HTX.out.head
          have v0 : 0 ≤ H := by omega
          have v1 : H ≤ 23 := by omega
          by_cases h23 : hr t = 23
          · rw [hx.2.1 h23] at HDB
            have hne := ju_next HDA HDB
            have hxx : (xa.toList == xb.toList) = false := by
              rw [← hxa, ← hxb, HHA, HHB]
              have : (⟨(juL Y M D).toArray⟩ : ByteArray).toList ≠ (⟨(juL Y' M' D').toArray⟩ : ByteArray).toList := fun e => hne (by simpa [ByteArray.toList_eq] using e)
              simpa using this
            have e23 : (H == 23) = true := by simp; omega
            clear HDA HDB HHA HHB hne h23 hx hh hl hH hH2 q3 hQ t0 z3 z4
            as_aux_lemma =>
              go_wp2_with fail
              go_quiet ((go_at_call 28; exact Calls.quiet_of (HT2.out _)))
              go_wp2_with fail
              go_ret
              exact ⟨rfl, Kb.below_drewN HY5.out _⟩
          · rw [hx.2.2 h23] at HDB
            obtain ⟨rfl, rfl, rfl⟩ := HDA.one HDB
            have hxx : xa = xb := by rw [← hxa, ← hxb, HHA, HHB]
            subst hxx
            have e23 : (H == 23) = false := by simp; omega
            clear HDA HDB HHA HHB h23 hx hh hl hH hH2 q3 hQ t0 z3 z4
            as_aux_lemma =>
              go_wp2_with fail
              go_quiet ((go_at_call 28; exact Calls.quiet_of (HT2.out _)))
              go_wp2_with fail
              go_ret
              exact ⟨rfl, Kb.below_drewN HY5.out _⟩
end Go.Proofs.YtmnoplaepjaokaaGreatDoor.Uf
/- The tables, out of what is laid. -/
namespace Go.Proofs.YtmnoplaepjaokaaGreatDoor.Yy
set_option linter.unusedVariables false
open Go.RowKit
theorem gP : Tryz.prog.globalNamed "internal/strconv.uint64pow10" = some 2 := by kernel_rfl
theorem gPT : (Tryz.prog.globals[2]?).map (·.type) = some 208 := by kernel_rfl
theorem cellsP : Tryz.prog.cellsOf 208 = 20 := by kernel_rfl
theorem cellsU : Tryz.prog.cellsOf 104 = 1 := by kernel_rfl
theorem gZ : Tryz.prog.globalNamed "math/bits.deBruijn64tab" = some 1 := by kernel_rfl
theorem gZT : (Tryz.prog.globals[1]?).map (·.type) = some 158 := by kernel_rfl
theorem cellsZ : Tryz.prog.cellsOf 158 = 64 := by kernel_rfl
theorem cellsB : Tryz.prog.cellsOf 5 = 1 := by kernel_rfl
theorem tl {P : Program} {W : World} {a : String × DataW Unit} {r : List (String × DataW Unit)} (h : laidMet P (a :: r) W) : laidMet P r W := h.tail
/-- the two tables of a row that lays them second and third -/
theorem tabs {W : World} {a : String × DataW Unit} {r : List (String × DataW Unit)} (h : laidMet Tryz.prog (a :: ("math/bits.deBruijn64tab", Lib.tabData .u8 Tz.zs) :: ("internal/strconv.uint64pow10", Lib.tabData .u64 Lib.pow10Tab) :: r) W) : Yg.Tb W :=
  ⟨Lib.tabIs_of_head (rest := r) gP gPT Tryz.underlying208 Tryz.underlying104 cellsU cellsP (tl (tl h)),
   Tz.Tab.of_var gZ (Lib.tabIs_of_head (rest := ("internal/strconv.uint64pow10", Lib.tabData .u64 Lib.pow10Tab) :: r) gZ gZT Tryz.underlying158 Tryz.underlying5 cellsB cellsZ (tl h))⟩
end Go.Proofs.YtmnoplaepjaokaaGreatDoor.Yy
