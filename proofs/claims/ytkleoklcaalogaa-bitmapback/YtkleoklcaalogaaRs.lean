/- A half, read: readSixteenths. -/
import Derived.Test.YtkleoklcaalogaaRd
namespace Go.Proofs.Ytkleoklcaalogaa.Rs
set_option linter.unusedVariables false
open Go.RowKit Pla Bm Br Bv Bw Bx Hf Wr Wt Rd
/-- the worth of the byte at a place -/
def wl (enc : Int) (s : ByteArray) (i : Nat) : Int := wv enc (s.data[i]!).toNat
/-- what is wrong first, from a place on: its error and place; none: nothing -/
def scan (enc : Int) (s : ByteArray) : Nat → Nat → Option (Int × Nat)
  | 0, _ => none
  | k + 1, i => if i = s.size then some (10, i) else if wl enc s i < 0 then some (11, i) else scan enc s k (i + 1)
def nb (enc : Int) (s : ByteArray) (i : Nat) : Nat := (wl enc s i).toNat
def hU (enc : Int) (s : ByteArray) (i : Nat) : Nat → Nat := fun k => if 2 * k + 1 < i then 16 * nb enc s (2 * k) + nb enc s (2 * k + 1) else if 2 * k < i then nb enc s (2 * k) else 0
theorem nb_lt (enc : Int) (s : ByteArray) (i : Nat) : nb enc s i < 16 := by have := wv_bd enc (s.data[i]!).toNat; unfold nb wl; omega
theorem hU_zero (enc : Int) (s : ByteArray) : byC 8 (fun _ => 0) = byC 8 (hU enc s 0) := byC_ext fun i _ => by simp [hU]
theorem shl_or (x y : Nat) (hx : x < 16) (hy : y < 16) : bits .or .u8 ((x : Int) * 16) (y : Int) = ((16 * x + y : Nat) : Int) := by
  have h := u8_or_nat (16 * x) y (by omega) (by omega)
  have e : 16 * x ||| y = 16 * x + y := (@Nat.two_pow_add_eq_or_of_lt 4 y hy x).symm
  rw [e] at h
  rw [← h]
  congr 1
  omega
theorem hU_step (enc : Int) (s : ByteArray) (i : Nat) (hi : i < 16) : (byC 8 (hU enc s i)).setIfInBounds (i / 2) (.int .u8 ((16 * hU enc s i (i / 2) + nb enc s i : Nat) : Int)) = byC 8 (hU enc s (i + 1)) := by
  rw [byC_set _ _ _ _ (by omega)]
  refine byC_ext fun k hk => ?_
  simp only [updN, hU]
  by_cases e : k = i / 2
  · subst e
    rw [if_pos rfl]
    rcases Nat.mod_two_eq_zero_or_one i with h | h
    · rw [if_neg (by omega), if_neg (by omega), if_neg (by omega), if_pos (by omega), show 2 * (i / 2) = i by omega]; omega
    · rw [if_neg (by omega), if_pos (by omega), if_pos (by omega), show 2 * (i / 2) + 1 = i by omega]
  · rw [if_neg e]
    by_cases e2 : 2 * k + 1 < i
    · rw [if_pos e2, if_pos (by omega)]
    · rw [if_neg e2, if_neg (show ¬ 2 * k < i by omega), if_neg (show ¬ 2 * k + 1 < i + 1 by omega), if_neg (by omega)]
theorem hU_lt (enc : Int) (s : ByteArray) (i : Nat) (hi : i < 16) : hU enc s i (i / 2) < 16 := by
  unfold hU
  rw [if_neg (by omega)]; split
  · exact nb_lt _ _ _
  · decide
theorem zbuilt8 : Try.prog.built 59 [] = some (byC 8 fun _ => 0) := by kernel_rfl
theorem wpList_z8 {ops : Array Oper} {rest : List Oper} {o : Oper} {a : Act} {w : World} {Q : Exit → Act → World → Prop} (hg : o.guard = none) (ho : o.op = .build 59 #[])
    (h : wpList Try.prog ops Q rest (a.put o.dst (.agg (byC 8 fun _ => 0))) w) : wpList Try.prog ops Q (o :: rest) a w := by
  refine wpList_build hg 59 #[] ho (by rw [Array.map_empty, zbuilt8]; rfl) ?_
  rw [Array.map_empty, zbuilt8]
  exact h
theorem res_row_tmp2 {P : Program} {fn : Func} {p u u2 : Tmp} {ty : TypeId} (h : fn.results = #[.cell p ty, .tmp u, .tmp u2]) (tmps : Array Value) (w : World) (g : Nat) (t : TypeId) (cs : Array Value) (fr : Nat × Nat) (d : TypeDesc)
    (hp : tmps.getD p undef = .pointer (some ⟨g, 0, none⟩)) (hg : w.heap[g]? = some (.cells cs t fr))
    (hu : P.underlying ty = some d) (hd : (match d with | .struct _ | .array _ _ => true | _ => false) = true) (hi : (P.info? ty).map (·.size) = some cs.size) :
    (results fn tmps).run P w = .ok (.tuple #[.agg cs, tmps.getD u undef, tmps.getD u2 undef]) w := by
  have hl := run_loadVar_row (P := P) w g t ty cs fr d hg hu hd hi
  simp only [results, h]
  simp only [Array.getD_eq_getD_getElem?] at hp
  simp [Result.andThen, hp, asAddr, hl]
theorem byte_at (s : ByteArray) (i : Nat) (h : i < s.size) : s.data[i]! = s[i]'h := by
  rw [getElem!_pos s.data i h]; rfl
/-- readSixteenths' answer -/
def rsV (enc : Int) (s : ByteArray) : (Nat → Nat) × Int × Nat := match scan enc s 16 0 with
  | some (e, i) => (fun _ => 0, e, i)
  | none => (hU enc s 16, 0, 0)
set_option maxRecDepth 100000 in
set_option maxHeartbeats 1600000 in
theorem readSix_any (enc : Int) (s : ByteArray) (hs : s.size ≤ maxLen) (w : World) :
    Calls Try.prog 41 #[.agg (byC 16 (chr enc)), .string s] w fun e w' => e = .returned (.tuple #[.agg (byC 8 (rsV enc s).1), .int .i64 (rsV enc s).2.1, .int .i64 ((rsV enc s).2.2 : Int)]) ∧ Below w.heap.size w w' := by
  have hz := (zero_of_info z8).1
  unfold maxLen at hs
  go_enter Try.func41, Try.ntmps41
  go_wp2_with fail
  go_loopw [10] (fun ii wr => ∃ i : Nat, i ≤ 16 ∧ i ≤ s.size ∧ ii = .int .i64 (i : Int) ∧ Hid (scan enc s 16 0 = scan enc s (16 - i) i) ∧ Hid (wr.heap[w.heap.size]? = some (.cells (byC 16 (chr enc)) 67 (0, 0))) ∧ Hid (wr.heap[w.heap.size + 1]? = some (.cells (byC 8 fun _ => 0) 59 (0, 0))) ∧ Hid (wr.heap[w.heap.size + 1 + 1]? = some (.cells (byC 8 (hU enc s i)) 59 (0, 0))) ∧ Below w.heap.size w wr) (fun ii _ => 17 - (intOf ii).toNat)
  case atStart => exact ⟨0, by omega, by omega, rfl, rfl, h3_0 w _ _ _, h3_1 w _ _ _, by rw [← hU_zero]; exact h3_2 w _ _ _, below_three w _ _ _⟩
  case round =>
    obtain ⟨i, hi, his, rfl, HS, G0, G1, G2, hb⟩ := hrel
    by_cases hi2 : i < 16
    · have q : (i : Int) < 16 := by omega
      by_cases his2 : i = s.size
      · have qs : ((i : Int) == (s.size : Int)) = true := beq_iff_eq.mpr (by omega)
        have HR : Hid (rsV enc s = (fun _ => 0, 10, i)) := by
          show _ = _
          unfold rsV
          rw [HS.out, show 16 - i = (15 - i) + 1 by omega, scan, if_pos his2]
        clear hi his hi2 his2 HS
        go_wp2_with (first
          | (refine wpList_z8 rfl rfl ?_)
          | (refine wpList_store_row rfl 59 _ _ rfl (w.heap.size + 1) (byC 8 fun _ => 0) rfl rfl _ _ G1.out (h8 _) rfl (byC_one _ _) ?_))
        exact bodyPost_ret (v := .tuple #[.agg (byC 8 fun _ => 0), .int .i64 10, .int .i64 (i : Int)]) (res_row_tmp2 (fn := Try.f41) (p := 4) (u := 5) (u2 := 6) rfl _ _ (w.heap.size + 1) _ _ _ _ rfl (setRow_at G1.out _) Try.underlying59 rfl (h8 _)) rfl ⟨by rw [HR.out], below_setRow hb (by simp) _⟩
      · have qs : ((i : Int) == (s.size : Int)) = false := beq_eq_false_iff_ne.mpr (by omega)
        have lt : i < s.size := by omega
        have lt2 : (i : Int) < (s.size : Int) := by omega
        obtain ⟨c, hc⟩ : ∃ c, c = s.data[i]! := ⟨_, rfl⟩
        have hix : ∀ w, (Instr.index 9 (.string s) (.int .i64 (i : Int))).run Try.prog w = .ok (.int .u8 (c.toNat : Int)) w := fun w => by
          rw [run_index_string w _ _ _ _ Try.underlying9, dif_pos ⟨by omega, by omega⟩, hc]
          rw [byte_at s i lt]
          rfl
        have HC : Hid (c = s.data[i]!) := hc
        clear hc
        have hu := Try.underlying67
        have hsz : (Try.prog.info? 67).map (·.size) = some (byC 16 (chr enc)).toList.length := by rw [Array.length_toList]; exact h16 _
        have hln : (byC 16 (chr enc)).toList.length = 16 := by rw [Array.length_toList, byC_size]
        have hone : ∀ v ∈ (byC 16 (chr enc)).toList, v.oneCell' = true := fun v hv => by
          have := byC_one 16 (chr enc)
          rw [Array.all_eq_true_iff_forall_mem] at this
          exact this v (by simpa using hv)
        have hr0 : wr.rangeAt w.heap.size 0 (byC 16 (chr enc)).toList := fun j v hv => by
          rw [Nat.zero_add, cell_of_row wr _ j _ _ _ G0.out]; simpa using hv
        go_wp2_with fail
        go_region_held3 (fun w' => w'.rangeAt w.heap.size 0 (byC 16 (chr enc)).toList ∧ Below wr.heap.size wr w') (refine ⟨?_, ?_⟩ <;> first | assumption | exact (Below.refl _ _).drew | (go_keep_ranges; done))
          (first | (go_at_call 42; refine (worth_any enc c _).mono ?_; rintro e y ⟨rfl, hcy⟩; have hy : Below wr.heap.size wr y := keepB (And.right (by assumption)) hcy; have y0 : y.rangeAt w.heap.size 0 (byC 16 (chr enc)).toList := (fun j v hv => (by rw [Nat.zero_add, cell_of_row y _ j _ _ _ (kept hy G0.out)]; simpa using hv))))
        clear hone hsz hln hr0 hix hu y0
        have hyb : Below w.heap.size w y := hb.trans (hy.mono hb.size)
        have K0 : Hid (y.heap[w.heap.size]? = some (.cells (byC 16 (chr enc)) 67 (0, 0))) := kept hy G0.out
        have K1 : Hid (y.heap[w.heap.size + 1]? = some (.cells (byC 8 fun _ => 0) 59 (0, 0))) := kept hy G1.out
        have K2 : Hid (y.heap[w.heap.size + 1 + 1]? = some (.cells (byC 8 (hU enc s i)) 59 (0, 0))) := kept hy G2.out
        have hwl : wl enc s i = wv enc c.toNat := by rw [wl, HC.out]
        have bd := wv_bd enc c.toNat
        have HW : Hid (wl enc s i = wv enc c.toNat) := hwl
        clear hwl
        generalize wv enc c.toNat = z at *
        by_cases hz0 : z < 0
        · have HR : Hid (rsV enc s = (fun _ => 0, 11, i)) := by
            show _ = _
            unfold rsV
            rw [HS.out, show 16 - i = (15 - i) + 1 by omega, scan, if_neg his2, HW.out, if_pos hz0]
          clear hi his hi2 his2 HS lt lt2 bd qs
          go_wp2_with (first
            | (refine wpList_z8 rfl rfl ?_)
            | (refine wpList_store_row rfl 59 _ _ rfl (w.heap.size + 1) (byC 8 fun _ => 0) rfl rfl _ _ K1.out (h8 _) rfl (byC_one _ _) ?_))
          exact bodyPost_ret (v := .tuple #[.agg (byC 8 fun _ => 0), .int .i64 11, .int .i64 (i : Int)]) (res_row_tmp2 (fn := Try.f41) (p := 4) (u := 5) (u2 := 6) rfl _ _ (w.heap.size + 1) _ _ _ _ rfl (setRow_at K1.out _) Try.underlying59 rfl (h8 _)) rfl ⟨by rw [HR.out], below_setRow hyb (by simp) _⟩
        · have hz1 : 0 ≤ z := by omega
          obtain ⟨n, hn⟩ : ∃ n : Nat, z = (n : Int) := ⟨z.toNat, by omega⟩
          have hn16 : n < 16 := by omega
          have hnb : nb enc s i = n := by unfold nb; rw [HW.out, hn]; simp
          have HS2 : Hid (scan enc s 16 0 = scan enc s (16 - (i + 1)) (i + 1)) := by
            show _ = _
            rw [HS.out, show 16 - i = (16 - (i + 1)) + 1 by omega, scan, if_neg his2, HW.out, if_neg hz0]
          have k1 : y.cell? ⟨w.heap.size + 1 + 1, i / 2, none⟩ = some (.int .u8 ((hU enc s i (i / 2) : Nat) : Int)) := by
            rw [cell_of_row y _ _ _ _ _ K2.out, byC_get _ _ _ (by omega)]
          have k2 : y.frozen? ⟨w.heap.size + 1 + 1, i / 2, none⟩ = false := frozen_of_row _ _ _ _ _ K2.out
          have hx16 := hU_lt enc s i hi2
          have HN : Hid ((y.setCell ⟨w.heap.size + 1 + 1, i / 2, none⟩ (.int .u8 ((16 * hU enc s i (i / 2) + n : Nat) : Int))).heap[w.heap.size + 1 + 1]? = some (.cells (byC 8 (hU enc s (i + 1))) 59 (0, 0))) := by
            show _ = _
            rw [heap_setCell_same y _ _ _ _ _ K2.out, ← hnb, hU_step enc s i hi2]
          have u1 := shl_or (hU enc s i (i / 2)) n hx16 hn16
          have hx15 : ((hU enc s i (i / 2) : Nat) : Int) ≤ 15 := by omega
          have hn15 : (n : Int) ≤ 15 := by omega
          subst hn
          generalize hU enc s i (i / 2) = x at *
          clear hi2 his2 HS qs bd hnb HW hz0 hx16 hn16
          go_wp2_with fail
          rw [show (16 * (x : Int) + (n : Int)) = ((16 * x + n : Nat) : Int) by simp]
          refine ⟨⟨i + 1, by omega, by omega, by simp, HS2, (setCell_ne _ (by omega)).trans K0.out, (setCell_ne _ (by omega)).trans K1.out, HN.out, hyb.setCell (by simp; omega) _⟩, by simp only [intOf]; omega⟩
    · obtain rfl : i = 16 := by omega
      have HR : Hid (rsV enc s = (hU enc s 16, 0, 0)) := by
        show _ = _
        unfold rsV
        rw [HS.out]; rfl
      clear hi his HS
      go_wp2_with (first
        | (refine wpList_load_row rfl 59 _ rfl (w.heap.size + 1 + 1) rfl _ _ _ _ G2.out Try.underlying59 rfl (h8 _) ?_)
        | (refine wpList_store_row rfl 59 _ _ rfl (w.heap.size + 1) (byC 8 (hU enc s 16)) rfl rfl _ _ G1.out (h8 _) (by rw [byC_size, byC_size]) (byC_one _ _) ?_))
      exact bodyPost_ret (v := .tuple #[.agg (byC 8 (hU enc s 16)), .int .i64 0, .int .i64 0]) (res_row_tmp2 (fn := Try.f41) (p := 4) (u := 5) (u2 := 6) rfl _ _ (w.heap.size + 1) _ _ _ _ rfl (setRow_at G1.out _) Try.underlying59 rfl (h8 _)) rfl ⟨by rw [HR.out]; rfl, below_setRow hb (by simp) _⟩
end Go.Proofs.Ytkleoklcaalogaa.Rs
