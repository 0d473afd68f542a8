/- DigitsMeasured: the walk. -/
import Derived.Test.YtmgnmkolijaidaaDoorMea
import Derived.Test.YtmgnmkolijaidaaDoorPick
import Derived.Test.YtmgnmkolijaidaaDoorLen
import Derived.Test.YtmgnmkolijaidaaDoorBak
namespace Go.Proofs.YtmgnmkolijaidaaDoor.Mw
set_option linter.unusedVariables false
open Go.RowKit Lib0 Chars Ebc Frm Spl Pck Rdd Num Unp Pre Len Bck Bak Mea
theorem gTab : Tryd.prog.globalNamed "turnstile/digits.ebcdic" = some 0 := by kernel_rfl
theorem gP : Tryd.prog.globalNamed "internal/strconv.uint64pow10" = some 1 := by kernel_rfl
theorem pow_next {w w' : World} (h : Pre.Pow w) (hb : Below w.heap.size w w') (h0 : 1 < w.heap.size) : Pre.Pow w' := var?_below hb gP h0 h
theorem four (w : World) (pk : Nat) (h : pk < 4) : ∃ E : Int, (E = 1 ∨ E = 2 ∨ E = 4 ∨ E = 5) ∧ (w.alloc (.cells #[.int .i64 1, .int .i64 2, .int .i64 4, .int .i64 5] 3)).cell? ⟨w.heap.size, pk, Option.none⟩ = some (.int .i64 E) := by
  have hh : (w.alloc (.cells #[.int .i64 1, .int .i64 2, .int .i64 4, .int .i64 5] 3)).heap[w.heap.size]? = some (.cells #[.int .i64 1, .int .i64 2, .int .i64 4, .int .i64 5] 3) := by
    show (w.heap.push _)[w.heap.size]? = _
    simp
  rcases (by omega : pk = 0 ∨ pk = 1 ∨ pk = 2 ∨ pk = 3) with rfl | rfl | rfl | rfl
  · exact ⟨1, by omega, by rw [cell_of_row _ _ 0 _ _ _ hh]; rfl⟩
  · exact ⟨2, by omega, by rw [cell_of_row _ _ 1 _ _ _ hh]; rfl⟩
  · exact ⟨4, by omega, by rw [cell_of_row _ _ 2 _ _ _ hh]; rfl⟩
  · exact ⟨5, by omega, by rw [cell_of_row _ _ 3 _ _ _ hh]; rfl⟩
set_option maxRecDepth 100000 in
set_option maxHeartbeats 1600000 in
theorem walk (a0 a1 a2 : Int) (a3 : ByteArray) (w : World) (b0 : -9223372036854775808 ≤ a0 ∧ a0 ≤ 9223372036854775807) (b1 : -9223372036854775808 ≤ a1 ∧ a1 ≤ 9223372036854775807) (b2 : -9223372036854775808 ≤ a2 ∧ a2 ≤ 9223372036854775807)
    (w3 : a3.size ≤ maxLen) (k3 : a3.size ≤ 140737488351232) (hT : Hid (Ebc.Tab w)) (hP : Hid (Pre.Pow w)) :
    Calls Tryd.prog 3 #[.int .i64 a0, .int .i64 a1, .int .i64 a2, .string a3] w fun e w' => e = .returned (.bool true) ∧ Below w.heap.size w w' := by
  have hz : 1 < w.heap.size := World.block_lt_of_cell? w ⟨1, 0, Option.none⟩ (hP.out.cell gP 0 (by decide))
  have PK0 := fun y => Pick.pick_any a0 4 y b0.1 b0.2 (by omega) (by omega)
  have PK1 := fun y => Pick.pick_any a1 4 y b1.1 b1.2 (by omega) (by omega)
  obtain ⟨pk, hpk, hpk4⟩ : ∃ pk : Nat, Pick.pickOf a0 4 = (pk : Int) ∧ pk < 4 := ⟨(Pick.pickOf a0 4).toNat, by have := Pick.pick_lo a0 4 (by omega); omega, by have := Pick.pick_lo a0 4 (by omega); have := Pick.pick_hi a0 4 (by omega); omega⟩
  obtain ⟨kp, hkp, hkp4⟩ : ∃ kp : Nat, Pick.pickOf a1 4 = (kp : Int) ∧ kp < 4 := ⟨(Pick.pickOf a1 4).toNat, by have := Pick.pick_lo a1 4 (by omega); omega, by have := Pick.pick_lo a1 4 (by omega); have := Pick.pick_hi a1 4 (by omega); omega⟩
  rw [hpk] at PK0
  rw [hkp] at PK1
  obtain ⟨E, hE, cE⟩ := four w pk hpk4
  have HE : Hid (E = 1 ∨ E = 2 ∨ E = 4 ∨ E = 5) := hE
  have q0 : (0 : Int) ≤ (pk : Int) := by omega
  have q1 : (pk : Int) < 4 := by omega
  have r0 : (0 : Int) ≤ (kp : Int) := by omega
  have r1 : (kp : Int) < 4 := by omega
  clear hpk hkp hE b0 b1 hpk4
  go_enter Tryd.func3, Tryd.ntmps3
  go_wp2_with fail
  refine (PK0 _).mono ?_
  rintro e x0 ⟨rfl, hx0⟩
  rw [hx0]
  clear hx0 x0 PK0
  go_wp2_with fail
  refine (PK1 _).mono ?_
  rintro e x0 ⟨rfl, hx0⟩
  rw [hx0]
  clear hx0 x0 PK1
  have hb1 : Below w.heap.size w (w.alloc (.cells #[.int .i64 1, .int .i64 2, .int .i64 4, .int .i64 5] 3)) := (Below.refl _ _).alloc (Nat.le_refl _) _
  generalize w.alloc (.cells #[.int .i64 1, .int .i64 2, .int .i64 4, .int .i64 5] 3) = x1 at *
  clear cE
  go_wp2_with fail
  obtain ⟨kk, hkk, k1, k2⟩ : ∃ kk : Nat, 1 + (kp : Int) = (kk : Int) ∧ 1 ≤ kk ∧ kk ≤ 4 := ⟨1 + kp, by omega, by omega, by omega⟩
  rw [hkk]
  clear r0 r1 q0 q1 hkk hkp4
  go_loopw [11, 12] (fun p i wr => ∃ (q : Nat) (V : Int), q ≤ kk ∧ i = .int .i64 (q : Int) ∧ p = .int .i64 V ∧ Hid (V = ((10 ^ q : Nat) : Int)) ∧ wr = x1) (fun _ i _ => kk + 1 - (intOf i).toNat)
  case atStart => exact ⟨0, 1, Nat.zero_le _, rfl, rfl, (rfl : (1 : Int) = _), rfl⟩
  case round =>
    obtain ⟨q, V, hq, rfl, rfl, HV, rfl⟩ := hrel
    by_cases hlt : q < kk
    · have v0 : (0 : Int) ≤ V := by rw [HV.out]; exact Int.natCast_nonneg _
      have v1 : V ≤ 1000 := by
        rw [HV.out]
        have : 10 ^ q ≤ 1000 := Nat.le_trans (Nat.pow_le_pow_right (by omega) (show q ≤ 3 by omega)) (by decide)
        omega
      have hq2 : (q : Int) < (kk : Int) := by omega
      have h10 : Hid (V * 10 = ((10 ^ (q + 1) : Nat) : Int)) := by show _ = _; rw [HV.out, Nat.pow_succ]; omega
      have HQ : Hid (q < kk) := hlt
      have hk4 : (kk : Int) ≤ 4 := by omega
      have hq0 : (0 : Int) ≤ (q : Int) := by omega
      clear hlt hq k1 k2 b2
      go_wp2
      have hlt := HQ.out
      exact ⟨⟨q + 1, V * 10, by omega, by simp, rfl, h10, trivial⟩, by simp only [intOf]; omega⟩
    · obtain rfl : q = kk := by omega
      have ql : ¬ (q : Int) < (q : Int) := by omega
      obtain ⟨P, hP10, p1, p2⟩ : ∃ P : Nat, 10 ^ q = P ∧ 1 ≤ P ∧ P ≤ 10000 := ⟨10 ^ q, rfl, Nat.pos_of_ne_zero (by simp), pow4 q k2⟩
      have HPw : Hid (10 ^ q = P) := hP10
      rw [hP10] at HV
      obtain rfl : V = (P : Int) := HV.out
      have PK2 := fun y => Pick.pick_any a2 (P : Int) y b2.1 b2.2 (by omega) (by omega)
      have PK3 := fun y => Pick.pick_any a2 14 y b2.1 b2.2 (by omega) (by omega)
      obtain ⟨mm, hmm1, hmm⟩ : ∃ mm : Nat, Pick.pickOf a2 (P : Int) = (mm : Int) ∧ mm < P := ⟨(Pick.pickOf a2 (P : Int)).toNat, by have := Pick.pick_lo a2 (P : Int) (by omega); omega, by have := Pick.pick_lo a2 (P : Int) (by omega); have := Pick.pick_hi a2 (P : Int) (by omega); omega⟩
      obtain ⟨ww, hww1, hww⟩ : ∃ ww : Nat, Pick.pickOf a2 14 = (ww : Int) ∧ ww < 14 := ⟨(Pick.pickOf a2 14).toNat, by have := Pick.pick_lo a2 14 (by omega); omega, by have := Pick.pick_lo a2 14 (by omega); have := Pick.pick_hi a2 14 (by omega); omega⟩
      rw [hmm1] at PK2
      rw [hww1] at PK3
      obtain ⟨wd, hwd, wd1, wd2⟩ : ∃ wd : Nat, 1 + (ww : Int) + 4 = (wd : Int) ∧ 5 ≤ wd ∧ wd ≤ 18 := ⟨1 + ww + 4, by omega, by omega, by omega⟩
      have Hwd : Hid (1 + (ww : Int) + 4 = (wd : Int)) := hwd
      have hmw : mm < 10 ^ wd := Nat.lt_of_lt_of_le hmm (by rw [← hP10]; exact Nat.pow_le_pow_right (by omega) (by omega))
      have WR := fun y h => write_any (mm : Int) (wd : Int) y (by omega) h
      rw [w_yes mm wd (by omega) (by omega) hmw] at WR
      dsimp only at WR
      have hnd := num_dgs wd mm (by omega) (by omega) hmw
      obtain ⟨d, hd, hdl, hds⟩ : ∃ d, ByteArray.mk (dgs wd mm).toArray = d ∧ d.data.toList = dgs wd mm ∧ d.size ≤ 18 := ⟨_, rfl, mk_list _, by rw [mk_size, dgs_length]; exact wd2⟩
      rw [hd] at WR
      have NB := fun y => number_any d y (by unfold maxLen; omega)
      rw [hdl, hnd] at NB
      dsimp only at NB
      obtain ⟨t, hpr, htl, hlr⟩ := len_prefix E q mm a3.data.toList HE.out k1 k2 (by rw [hP10]; exact hmm)
      have PR := fun y h1 h2 => prefix_any E (q : Int) (mm : Int) y (by omega) h1 h2
      unfold PPost at PR
      rw [hpr] at PR
      dsimp only at PR
      obtain ⟨s, hs, hsl, hss⟩ : ∃ s, ByteArray.mk t.toArray = s ∧ s.data.toList = t ∧ s.size ≤ 4 := ⟨_, rfl, mk_list _, by rw [mk_size]; exact htl⟩
      rw [hs] at PR
      have hsum : (s ++ a3).size ≤ maxLen := by rw [ByteArray.size_append]; unfold maxLen; omega
      have LG := fun y h1 h2 => length_any E (q : Int) (s ++ a3) y hsum h1 h2
      unfold LPost at LG
      rw [show lengthR E (q : Int) (s ++ a3).data.toList = ((mm : Int), 0, (s.size : Int)) by
        rw [show (s ++ a3).data.toList = s.data.toList ++ a3.data.toList by simp, ← len_eq s, hsl]; exact hlr] at LG
      have OV := fun y h1 h2 => prefix_any E (q : Int) ((P : Int) + (mm : Int)) y (by omega) h1 h2
      unfold PPost at OV
      rw [show prefixR E (q : Int) ((P : Int) + (mm : Int)) = ([], 13) from over_prefix E q (P + mm) HE.out k1 k2 (by rw [hP10]; omega)] at OV
      have LB := fun y h1 h2 => length_any E (q : Int) a3 y w3 h1 h2
      unfold LPost at LB
      have PB := fun (u : Nat) (hu : (u : Int) ≤ 9223372036854775807) y h1 h2 => prefix_any E (q : Int) (u : Int) y hu h1 h2
      have len_b := fun l v => len_back E q a3.data.toList l v HE.out k1 k2
      have len_e := fun l er v => len_err E (q : Int) a3.data.toList l er v
      have LBK : Hid (∀ l v, lengthR E (q : Int) a3.data.toList = (l, 0, v) → _) := len_b
      have LBE : Hid (∀ l er v, er ≠ 0 → lengthR E (q : Int) a3.data.toList = (l, er, v) → l = 0) := len_e
      have m0 : (0 : Int) ≤ (mm : Int) := by omega
      have m1 : (mm : Int) ≤ 10000 := by omega
      have u0 : (0 : Int) ≤ (P : Int) := by omega
      have u1 : (P : Int) ≤ 10000 := by omega
      have w0' : (0 : Int) ≤ (ww : Int) := by omega
      have w1' : (ww : Int) < 14 := by omega
      have cc : ¬ 9223372036854775807 < s.size + a3.size := by omega
      have HQ : Hid (mm < P ∧ P ≤ 10000) := ⟨hmm, p2⟩
      clear len_b len_e HV hP10 hmm1 hww1 hwd hnd hd hdl hds hpr htl hlr hs hsl hss hmw hsum b2 k1 k2 p1 p2 wd1 wd2 hww hmm hq hlt
      go_wp2_with fail
      refine (PK2 _).mono ?_
      rintro e x0 ⟨rfl, hx0⟩
      rw [hx0]
      clear hx0 x0 PK2
      go_wp2_with fail
      refine (PR _ (pow_next hP.out hb1 hz) (hT.out.next hb1)).mono ?_
      rintro e x3 ⟨rfl, h⟩
      replace hb1 := hb1.trans (h.mono hb1.size)
      clear h PR
      go_wp2_with fail
      refine (LG _ (pow_next hP.out hb1 hz) (hT.out.next hb1)).mono ?_
      rintro e x4 ⟨rfl, h⟩
      replace hb1 := hb1.trans (h.mono hb1.size)
      clear h LG
      unfold vI3
      go_wp2_with fail
      refine (OV _ (pow_next hP.out hb1 hz) (hT.out.next hb1)).mono ?_
      rintro e x5 ⟨rfl, h⟩
      replace hb1 := hb1.trans (h.mono hb1.size)
      clear h OV
      go_wp2_with fail
      refine (PK3 _).mono ?_
      rintro e x0 ⟨rfl, hx0⟩
      rw [hx0]
      clear hx0 x0 PK3
      go_wp2_with fail
      rw [Hwd.out]
      refine (WR _ (pow_next hP.out hb1 hz)).mono ?_
      rintro e x6 ⟨rfl, h⟩
      replace hb1 := hb1.trans (h.mono hb1.size)
      clear h WR
      go_wp2_with fail
      refine (NB _).mono ?_
      rintro e x0 ⟨rfl, hx0⟩
      rw [hx0]
      clear hx0 x0 NB
      go_wp2_with fail
      refine (LB _ (pow_next hP.out hb1 hz) (hT.out.next hb1)).mono ?_
      rintro e x7 ⟨rfl, h⟩
      replace hb1 := hb1.trans (h.mono hb1.size)
      clear h LB
      obtain ⟨r, hr⟩ : ∃ r, lengthR E (q : Int) a3.data.toList = r := ⟨_, rfl⟩
      rw [hr]
      unfold vI3
      obtain ⟨l, er, v⟩ := r
      by_cases h0 : er = 0
      · subst h0
        obtain ⟨V, u, rfl, hV, rfl, hu, hpf⟩ := LBK.out l v hr
        rw [len_eq] at hV
        rw [HPw.out] at hu
        obtain ⟨m2, p2⟩ := HQ.out
        have PB' := fun y h1 h2 => PB u (by omega) y h1 h2
        unfold PPost at PB'
        rw [hpf] at PB'
        dsimp only at PB'
        obtain ⟨c, Hc, hcl, hcs⟩ : ∃ c, Hid (a3.extract 0 V = c) ∧ ByteArray.mk (a3.data.toList.take V).toArray = c ∧ c.size = V := ⟨_, rfl, by rw [← ext_list], ext_size a3 V hV⟩
        rw [hcl] at PB'
        have hu2 : (u : Int) < (P : Int) := by omega
        have hu0 : (0 : Int) ≤ (u : Int) := by omega
        have hq1 : ((V : Int) == (c.size : Int)) = true := by rw [hcs]; exact beq_self_eq_true _
        have hV2 : (V : Int) ≤ (a3.size : Int) := by omega
        clear hr hpf hu hcl hcs hV m2 p2 PB LBK LBE HQ
        go_wp2_with fail
        refine (PB' _ (pow_next hP.out hb1 hz) (hT.out.next hb1)).mono ?_
        rintro e x9 ⟨rfl, h⟩
        replace hb1 := hb1.trans (h.mono hb1.size)
        clear h PB'
        go_wp2
        rw [Hc.out]
        go_ret
        exact ⟨by simp, hb1⟩
      · obtain rfl := LBE.out l er v h0 hr
        have q0 : (er == 0) = false := beq_eq_false_iff_ne.mpr h0
        have q1 : (er != 0) = true := by simp [h0]
        clear h0 hr PB LBK LBE HQ
        go_wp2
        go_ret
        exact ⟨by simp, hb1⟩
end Go.Proofs.YtmgnmkolijaidaaDoor.Mw
