import Derived.Test.YtciblmdpngnakaaQv15
/- PINs: Open of the program. -/
namespace Go.Proofs.Ytciblmdpngnakaa.Po
set_option linter.unusedVariables false
set_option linter.unusedSimpArgs false
open Go.RowKit Lib0 Six Pp Pf Pg Ph Pz Cb
set_option maxRecDepth 100000 in
set_option maxHeartbeats 1600000 in
theorem open_none (f : Int) (b q : ByteArray) (h0 : (f == 0) = false) (h1 : (f == 1) = false) (h3 : (f == 3) = false) (w : World) :
    Calls Try.prog 10 #[.int .i64 f, .string b, .string q] w fun e w' => e = .returned (.tuple #[.string none8, .int .i64 61]) ∧ Below w.heap.size w w' := by
  go_enter Try.func10, Try.ntmps10
  go_wp2_with fail
  refine (layoutN f h0 h1 h3 _).mono ?_
  rintro e y ⟨rfl, hy⟩
  go_wp2
  exact bodyPost_ret (v := .tuple #[.string none8, .int .i64 61]) (by simp [results, Try.results10, go_sem, none8]) rfl ⟨by simp, keepB hy (below_one y _)⟩
set_option maxRecDepth 100000 in
set_option maxHeartbeats 1600000 in
theorem open_size (f : Int) (Bd G : Bool) (t : Nat) (b q : ByteArray) (LA : ∀ u, Calls Try.prog 24 #[.int .i64 f] u fun e w' => e = .returned (.tuple #[.agg #[.bool Bd, .bool G, .int .u8 (t : Int)], .bool true]) ∧ Below u.heap.size u w') (sb : b.size ≤ maxLen) (h8 : ((b.size : Int) != 8) = true) (w : World) :
    Calls Try.prog 10 #[.int .i64 f, .string b, .string q] w fun e w' => e = .returned (.tuple #[.string none8, .int .i64 61]) ∧ Below w.heap.size w w' := by
  go_enter Try.func10, Try.ntmps10
  go_wp2_with fail
  refine (LA _).mono ?_
  rintro e y ⟨rfl, hy⟩
  have B1 := keepB hy (below_one y (.cells #[.bool Bd, .bool G, .int .u8 (t : Int)] 48))
  have M1 := h1_0 y (.cells #[.bool Bd, .bool G, .int .u8 (t : Int)] 48)
  have hlt : y.heap.size < (y.alloc (.cells #[.bool Bd, .bool G, .int .u8 (t : Int)] 48)).heap.size := by simp
  clear hy LA
  go_wp2
  exact bodyPost_ret (v := .tuple #[.string none8, .int .i64 61]) (by simp [results, Try.results10, go_sem, none8]) rfl ⟨by simp, B1⟩
set_option maxRecDepth 100000 in
set_option maxHeartbeats 1600000 in
theorem open_head (f : Int) (Bd G : Bool) (t : Nat) (b q : ByteArray) (LA : ∀ u, Calls Try.prog 24 #[.int .i64 f] u fun e w' => e = .returned (.tuple #[.agg #[.bool Bd, .bool G, .int .u8 (t : Int)], .bool true]) ∧ Below u.heap.size u w') (h8 : ((b.size : Int) != 8) = false) (h0 : (0 : Int) < (b.size : Int)) (hh : (((b[0]'(by omega)).toNat : Int) / 16 != f) = true) (w : World) :
    Calls Try.prog 10 #[.int .i64 f, .string b, .string q] w fun e w' => e = .returned (.tuple #[.string none8, .int .i64 61]) ∧ Below w.heap.size w w' := by
  have x1 : ((b[0]'(by omega)).toNat : Int) < 256 := Lib0.toNat_lt _
  go_enter Try.func10, Try.ntmps10
  go_wp2_with fail
  refine (LA _).mono ?_
  rintro e y ⟨rfl, hy⟩
  have B1 := keepB hy (below_one y (.cells #[.bool Bd, .bool G, .int .u8 (t : Int)] 48))
  have M1 := h1_0 y (.cells #[.bool Bd, .bool G, .int .u8 (t : Int)] 48)
  have hlt : y.heap.size < (y.alloc (.cells #[.bool Bd, .bool G, .int .u8 (t : Int)] 48)).heap.size := by simp
  clear hy LA
  go_wp2
  exact bodyPost_ret (v := .tuple #[.string none8, .int .i64 61]) (by simp [results, Try.results10, go_sem, none8]) rfl ⟨by simp, B1⟩
set_option maxRecDepth 100000 in
set_option maxHeartbeats 1600000 in
theorem open_pan (f : Int) (G : Bool) (t : Nat) (b q : ByteArray) (LA : ∀ u, Calls Try.prog 24 #[.int .i64 f] u fun e w' => e = .returned (.tuple #[.agg #[.bool true, .bool G, .int .u8 (t : Int)], .bool true]) ∧ Below u.heap.size u w') (h8 : ((b.size : Int) != 8) = false) (h0 : (0 : Int) < (b.size : Int)) (hh : (((b[0]'(by omega)).toNat : Int) / 16 != f) = false) (sq : q.size ≤ maxLen) (hq : panB q = false) (w : World) :
    Calls Try.prog 10 #[.int .i64 f, .string b, .string q] w fun e w' => e = .returned (.tuple #[.string none8, .int .i64 50]) ∧ Below w.heap.size w w' := by
  have x1 : ((b[0]'(by omega)).toNat : Int) < 256 := Lib0.toNat_lt _
  have IQ := fun u => isPAN_any q u sq
  rw [hq] at IQ
  go_enter Try.func10, Try.ntmps10
  go_wp2_with fail
  refine (LA _).mono ?_
  rintro e y ⟨rfl, hy⟩
  have B1 := keepB hy (below_one y (.cells #[.bool true, .bool G, .int .u8 (t : Int)] 48))
  have M1 := h1_0 y (.cells #[.bool true, .bool G, .int .u8 (t : Int)] 48)
  have hlt : y.heap.size < (y.alloc (.cells #[.bool true, .bool G, .int .u8 (t : Int)] 48)).heap.size := by simp
  clear hy LA
  obtain ⟨c0, c1, c2⟩ := cells3 M1
  go_wp2_with fail
  refine (IQ _).mono ?_
  rintro e u ⟨rfl, rfl⟩
  go_wp2
  exact bodyPost_ret (v := .tuple #[.string none8, .int .i64 50]) (by simp [results, Try.results10, go_sem, none8]) rfl ⟨by simp, B1⟩
set_option maxRecDepth 100000 in
set_option maxHeartbeats 1600000 in
theorem open_good_true (f : Int) (G : Bool) (t : Nat) (b q Y Z R : ByteArray) (E : Int) (LA : ∀ u, Calls Try.prog 24 #[.int .i64 f] u fun e w' => e = .returned (.tuple #[.agg #[.bool true, .bool G, .int .u8 (t : Int)], .bool true]) ∧ Below u.heap.size u w') (h8 : ((b.size : Int) != 8) = false) (h0 : (0 : Int) < (b.size : Int)) (hh : (((b[0]'(by omega)).toNat : Int) / 16 != f) = false) (sq : q.size ≤ maxLen) (hq : panB q = true)
    (SU : ∀ u, Calls Try.prog 31 #[.agg #[.bool true, .bool G, .int .u8 (t : Int)], .string b, .string q] u fun e w' => e = .returned (.string Y) ∧ Below u.heap.size u w')
    (SP : ∀ u, Calls Try.prog 40 #[.string Y] u fun e w' => e = .returned (.string Z) ∧ Below u.heap.size u w')
    (RE : ∀ u, Calls Try.prog 39 #[.agg #[.bool true, .bool G, .int .u8 (t : Int)], .string Z] u fun e w' => e = .returned (.tuple #[.string R, .int .i64 E]) ∧ Below u.heap.size u w') (w : World) :
    Calls Try.prog 10 #[.int .i64 f, .string b, .string q] w fun e w' => e = .returned (.tuple #[.string R, .int .i64 E]) ∧ Below w.heap.size w w' := by
  have x1 : ((b[0]'(by omega)).toNat : Int) < 256 := Lib0.toNat_lt _
  have IQ := fun u => isPAN_any q u sq
  rw [hq] at IQ
  go_enter Try.func10, Try.ntmps10
  go_wp2_with fail
  refine (LA _).mono ?_
  rintro e y ⟨rfl, hy⟩
  have B1 := keepB hy (below_one y (.cells #[.bool true, .bool G, .int .u8 (t : Int)] 48))
  have M1 := h1_0 y (.cells #[.bool true, .bool G, .int .u8 (t : Int)] 48)
  have hlt : y.heap.size < (y.alloc (.cells #[.bool true, .bool G, .int .u8 (t : Int)] 48)).heap.size := by simp
  clear hy LA
  obtain ⟨c0, c1, c2⟩ := cells3 M1
  go_wp2_with fail
  refine (IQ _).mono ?_
  rintro e u ⟨rfl, rfl⟩
  go_wp2_with fail
  generalize y.alloc (.cells #[.bool true, .bool G, .int .u8 (t : Int)] 48) = y1 at *
  generalize y.heap.size = L at *
  clear y hlt c0 c1 c2
  refine Qv.region_cl (by kernel_rfl) (by kernel_rfl) ?_
  repeat (refine wpQuiet_step (fun K hK => ?_); first
    | (refine Qv.q_row (by rfl) 48 _ rfl L rfl _ _ _ _ M1 Try.underlying48 rfl (zL _ _ _) (hK _ ?_); clear hK K)
    | (go_simp; refine hK _ ?_; clear hK K)
    | (go_simp; refine ⟨_, fun _ _ => rfl, hK _ ?_⟩; clear hK K)
    | (go_simp; refine ⟨_, fun _ _ => ⟨rfl, rfl⟩, hK _ ?_⟩; clear hK K)
    | (go_simp; apply Exists.intro; refine ⟨fun y hy => ?_, hK _ ?_⟩; (first | (go_at_call 31; exact Qv.cl_of hy (SU y)) | (go_at_call 40; exact Qv.cl_of hy (SP y)) | (go_at_call 39; exact Qv.cl_of hy (RE y))); clear hK K))
  refine wpQuiet_nil ?_
  intro z1 hz1
  go_wp2
  exact bodyPost_ret (v := .tuple #[.string R, .int .i64 E]) (by simp [results, Try.results10, go_sem, none8]) rfl ⟨by simp, keepB B1 hz1⟩
set_option maxRecDepth 100000 in
set_option maxHeartbeats 1600000 in
theorem open_good_false (f : Int) (G : Bool) (t : Nat) (b q Y Z R : ByteArray) (E : Int) (LA : ∀ u, Calls Try.prog 24 #[.int .i64 f] u fun e w' => e = .returned (.tuple #[.agg #[.bool false, .bool G, .int .u8 (t : Int)], .bool true]) ∧ Below u.heap.size u w') (h8 : ((b.size : Int) != 8) = false) (h0 : (0 : Int) < (b.size : Int)) (hh : (((b[0]'(by omega)).toNat : Int) / 16 != f) = false) (sq : q.size ≤ maxLen)
    (SU : ∀ u, Calls Try.prog 31 #[.agg #[.bool false, .bool G, .int .u8 (t : Int)], .string b, .string q] u fun e w' => e = .returned (.string Y) ∧ Below u.heap.size u w')
    (SP : ∀ u, Calls Try.prog 40 #[.string Y] u fun e w' => e = .returned (.string Z) ∧ Below u.heap.size u w')
    (RE : ∀ u, Calls Try.prog 39 #[.agg #[.bool false, .bool G, .int .u8 (t : Int)], .string Z] u fun e w' => e = .returned (.tuple #[.string R, .int .i64 E]) ∧ Below u.heap.size u w') (w : World) :
    Calls Try.prog 10 #[.int .i64 f, .string b, .string q] w fun e w' => e = .returned (.tuple #[.string R, .int .i64 E]) ∧ Below w.heap.size w w' := by
  have x1 : ((b[0]'(by omega)).toNat : Int) < 256 := Lib0.toNat_lt _
  go_enter Try.func10, Try.ntmps10
  go_wp2_with fail
  refine (LA _).mono ?_
  rintro e y ⟨rfl, hy⟩
  have B1 := keepB hy (below_one y (.cells #[.bool false, .bool G, .int .u8 (t : Int)] 48))
  have M1 := h1_0 y (.cells #[.bool false, .bool G, .int .u8 (t : Int)] 48)
  have hlt : y.heap.size < (y.alloc (.cells #[.bool false, .bool G, .int .u8 (t : Int)] 48)).heap.size := by simp
  clear hy LA
  obtain ⟨c0, c1, c2⟩ := cells3 M1
  go_wp2_with fail
  generalize y.alloc (.cells #[.bool false, .bool G, .int .u8 (t : Int)] 48) = y1 at *
  generalize y.heap.size = L at *
  clear y hlt c0 c1 c2
  refine Qv.region_cl (by kernel_rfl) (by kernel_rfl) ?_
  repeat (refine wpQuiet_step (fun K hK => ?_); first
    | (refine Qv.q_row (by rfl) 48 _ rfl L rfl _ _ _ _ M1 Try.underlying48 rfl (zL _ _ _) (hK _ ?_); clear hK K)
    | (go_simp; refine hK _ ?_; clear hK K)
    | (go_simp; refine ⟨_, fun _ _ => rfl, hK _ ?_⟩; clear hK K)
    | (go_simp; refine ⟨_, fun _ _ => ⟨rfl, rfl⟩, hK _ ?_⟩; clear hK K)
    | (go_simp; apply Exists.intro; refine ⟨fun y hy => ?_, hK _ ?_⟩; (first | (go_at_call 31; exact Qv.cl_of hy (SU y)) | (go_at_call 40; exact Qv.cl_of hy (SP y)) | (go_at_call 39; exact Qv.cl_of hy (RE y))); clear hK K))
  refine wpQuiet_nil ?_
  intro z1 hz1
  go_wp2
  exact bodyPost_ret (v := .tuple #[.string R, .int .i64 E]) (by simp [results, Try.results10, go_sem, none8]) rfl ⟨by simp, keepB B1 hz1⟩
end Go.Proofs.Ytciblmdpngnakaa.Po
/- PINs: Block and Open of the program, whole. -/
namespace Go.Proofs.Ytciblmdpngnakaa.Pq
set_option linter.unusedVariables false
set_option linter.unusedSimpArgs false
open Go.RowKit Lib0 Six Pp Pf Pg Ph Pz Pj Po Cb
theorem fc_eq (f : Int) (c : UInt8) (h : isSix c = true) : geB (lst f) c = decide (flr f ≤ (six c).toNat) := by
  have h0 : 0 ≤ six c := by unfold isSix at h; simpa using h
  have hb := (six_bd c).2
  have := ge_hx f (six c).toNat (by omega)
  rw [hx_six c h0] at this
  exact this
theorem all_fc (f : Int) (l : List UInt8) : l.all (fc f) = (l.all isSix && l.all (geB (lst f))) := by
  rw [Bool.eq_iff_iff]
  simp only [Bool.and_eq_true, List.all_eq_true, fc]
  constructor
  · intro h
    exact ⟨fun c hc => (h c hc).1, fun c hc => by rw [fc_eq f c (h c hc).1]; exact (h c hc).2⟩
  · rintro ⟨h1, h2⟩ c hc
    exact ⟨h1 c hc, by rw [← fc_eq f c (h1 c hc)]; exact h2 c hc⟩
theorem fill_yes (f : Int) (h : f ≠ 0) (s : ByteArray) (n : Int) : fillB f s n = (decide ((s.size : Int) = n) && asx s && agB (lst f) s) := by
  unfold fillB asx agB
  rw [if_neg h, all_fc, Bool.and_assoc]
theorem packs (F : Nat) (hF : F < 16) (p FL : ByteArray) (hp : pinB p = true) (hl : p.size + FL.size = 14) (h6 : asx FL = true) (bk : Nat) (u : World) (hbk : bk < u.heap.size)
    (hc : ∀ (j : Nat) x, [⟨#[hx F]⟩, ⟨#[hx p.size]⟩, p, FL][j]? = some x → u.cell? ⟨bk, j, none⟩ = some (.string x)) :
    Calls Try.prog 28 #[.slice (some ⟨bk, 0, none⟩) 4 4] u fun e w' => e = .returned (.string ⟨(pk ([F, p.size] ++ dvL p.data.toList ++ svL FL.data.toList)).toArray⟩) ∧ Below u.heap.size u w' := by
  have hpp := (pinB_iff p).1 hp
  obtain ⟨D, HD⟩ : ∃ D : ByteArray, D.data.toList = [hx F, hx p.size] ++ p.data.toList ++ FL.data.toList := ⟨⟨([hx F, hx p.size] ++ p.data.toList ++ FL.data.toList).toArray⟩, rfl⟩
  have i1 : isSix (hx F) = true := by unfold isSix; rw [six_hx F hF]; simp
  have i2 : isSix (hx p.size) = true := by unfold isSix; rw [six_hx p.size (by omega)]; simp
  have h := pack_any [⟨#[hx F]⟩, ⟨#[hx p.size]⟩, p, FL] 4 bk 4 8 D
    (by show D.data.toList = _; rw [HD]; simp)
    (by show D.size = _; rw [← sz, HD]; simp only [List.length_append, sz, List.length_cons, List.length_nil]; omega)
    (by show asx D = _; unfold asx at *; rw [HD]; simp only [List.all_append, List.all_cons, List.all_nil, i1, i2, h6, all_six_dg _ hpp.2.2, Bool.and_self])
    (by decide) rfl (by decide) (by decide) u hbk hc
  rw [HD] at h
  have e : svL ([hx F, hx p.size] ++ p.data.toList ++ FL.data.toList) = [F, p.size] ++ dvL p.data.toList ++ svL FL.data.toList := by
    simp only [svL, List.map_append, List.map_cons, List.map_nil, six_hx F hF, six_hx p.size (show p.size < 16 by omega), Int.toNat_natCast]
    rw [show p.data.toList.map (fun c => (six c).toNat) = dvL p.data.toList from sv_dv _ hpp.2.2]
  rw [e] at h
  exact h
theorem sv_fF (n : Nat) : svL (fF n).data.toList = List.replicate n 15 := by
  unfold svL fF
  simp only [List.map_replicate]
  rfl
theorem asx_fF (n : Nat) : asx (fF n) = true := by
  unfold asx fF
  simp only [List.all_replicate]
  split
  · rfl
  · rfl
theorem fF_size (n : Nat) : (fF n).size = n := by
  rw [← sz]
  unfold fF
  simp
theorem kn_no {f : Int} (h : kn f = false) : (f == 0) = false ∧ (f == 1) = false ∧ (f == 3) = false := by
  have : ¬ (f = 0 ∨ f = 1 ∨ f = 3) := by rw [← kn_iff, h]; simp
  refine ⟨?_, ?_, ?_⟩ <;> (rw [beq_eq_false_iff_ne]; intro h'; exact this (by simp [h']))
theorem mk_list (l : List UInt8) : (⟨l.toArray⟩ : ByteArray).data.toList = l := rfl
theorem sum_lay (f : Int) (hf : f ≠ 1) (L : List Nat) (q : ByteArray) (hq : panB q = true) (hL : L.length = 16) (hl : ∀ n ∈ L, n < 16) :
    (⟨(Xo.xorL (pk L) (pk (bes q))).toArray⟩ : ByteArray) = ⟨(pk (mix f L q)).toArray⟩ := by
  unfold mix Xo.xorL
  rw [if_neg hf, xor_pk L (bes q) hl (bes_lt q hq) (by rw [hL, bes_len q hq])]
def Post (r : ByteArray × Int) (w : World) : Ending → World → Prop := fun e w' => e = .returned (.tuple #[.string r.1, .int .i64 r.2]) ∧ Below w.heap.size w w'
set_option maxHeartbeats 800000 in
theorem block_any (f : Int) (p q fill : ByteArray) (sp : p.size ≤ maxLen) (sq : q.size ≤ maxLen) (sf : fill.size ≤ maxLen) (w : World) :
    Calls Try.prog 8 #[.int .i64 f, .string p, .string q, .string fill] w (Post (blockR f p q fill) w) := by
  cases hk : kn f
  · obtain ⟨h0, h1, h3⟩ := kn_no hk
    have e : blockR f p q fill = (none8, 61) := by unfold blockR; rw [if_pos hk]
    rw [e]
    exact block_none f p q fill h0 h1 h3 w
  · have hk' := (kn_iff f).1 hk
    have LAx : ∃ Bd G : Bool, (Bd = true ↔ f ≠ 1) ∧ (G = true ↔ f ≠ 0) ∧ ∀ u, Calls Try.prog 24 #[.int .i64 f] u fun e w' => e = .returned (.tuple #[.agg #[.bool Bd, .bool G, .int .u8 (lst f : Int)], .bool true]) ∧ Below u.heap.size u w' := by
      rcases hk' with rfl | rfl | rfl
      · exact ⟨true, false, by simp, by simp, fun u => layout0 u⟩
      · exact ⟨false, true, by simp, by simp, fun u => layout1 u⟩
      · exact ⟨true, true, by simp, by simp, fun u => layout3 u⟩
    obtain ⟨Bd, G, hB, hG, LA⟩ := LAx
    cases hp : pinB p
    · have e : blockR f p q fill = (none8, 60) := by unfold blockR; rw [if_neg (by simp [hk]), if_pos hp]
      rw [e]
      exact block_pin f Bd G (lst f) p q fill LA sp hp w
    · have hpp := (pinB_iff p).1 hp
      cases hq : qB f q
      · have e : blockR f p q fill = (none8, 50) := by unfold blockR; rw [if_neg (by simp [hk]), if_neg (by simp [hp]), if_pos hq]
        rw [e]
        have h2 : f ≠ 1 ∧ panB q = false := by simpa [qB] using hq
        obtain rfl : Bd = true := hB.2 h2.1
        exact block_pan f G (lst f) p q fill LA sp sq hp h2.2 w
      · obtain ⟨k, hk14⟩ : ∃ k : Nat, p.size + k = 14 := ⟨14 - p.size, by omega⟩
        have ek : (14 : Int) - p.size = (k : Int) := by omega
        have TA : ∀ u, Calls Try.prog 27 #[.agg #[.bool Bd, .bool G, .int .u8 (lst f : Int)], .string fill, .int .i64 (k : Int)] u fun e w' => e = .returned (.bool (fillB f fill k)) ∧ Below u.heap.size u w' := by
          cases G
          · have f0 : f = 0 := by simpa using hG
            have e : fillB f fill k = emB fill := by unfold fillB emB; rw [if_pos f0]
            rw [e]
            exact fun u => takes_no Bd (lst f) (lst_lt f) fill k u sf
          · rw [fill_yes f (hG.1 rfl)]
            exact fun u => takes_yes Bd (lst f) (lst_lt f) fill k u sf
        cases hf : fillB f fill k
        · have e : blockR f p q fill = (none8, 62) := by unfold blockR; rw [if_neg (by simp [hk]), if_neg (by simp [hp]), if_neg (by simp [hq]), ek, if_pos hf]
          rw [e]
          rw [hf] at TA
          cases Bd
          · exact block_fill_false f G (lst f) k p q fill LA sp sq hp hk14 TA w
          · have h2 : panB q = true := by simpa [qB, hB.1 rfl] using hq
            exact block_fill_true f G (lst f) k p q fill LA sp sq hp h2 hk14 TA w
        · have e : blockR f p q fill = (⟨(pk (mix f (lay f p fill) q)).toArray⟩, 0) := by unfold blockR; rw [if_neg (by simp [hk]), if_neg (by simp [hp]), if_neg (by simp [hq]), ek, if_neg (by simp [hf])]
          rw [e]
          rw [hf] at TA
          have hl := lay_len f p fill hp (by rw [ek]; exact hf)
          have hlt := lay_lt f p fill hk hp
          obtain ⟨F, rfl⟩ : ∃ F : Nat, f = (F : Int) := ⟨f.toNat, by omega⟩
          have F16 : F < 16 := by omega
          obtain ⟨FL, FI, l14, l6, eL⟩ : ∃ FL : ByteArray, (∀ u, Calls Try.prog 30 #[.agg #[.bool Bd, .bool G, .int .u8 (lst (F : Int) : Int)], .string fill, .int .i64 (k : Int)] u fun e w' => e = .returned (.string FL) ∧ Below u.heap.size u w') ∧ p.size + FL.size = 14 ∧ asx FL = true ∧ [F, p.size] ++ dvL p.data.toList ++ svL FL.data.toList = lay (F : Int) p fill := by
            cases G
            · have f0 : (F : Int) = 0 := by simpa using hG
              refine ⟨fF k, fun u => filling_no Bd _ fill k (by omega) u, by rw [fF_size]; exact hk14, asx_fF k, ?_⟩
              unfold lay
              rw [if_pos f0, sv_fF, show 14 - p.size = k by omega]
              rfl
            · have fn := hG.1 rfl
              rw [fill_yes _ fn] at hf
              simp only [Bool.and_eq_true, decide_eq_true_eq] at hf
              refine ⟨fill, fun u => filling_yes Bd _ fill k u, by have := hf.1.1; omega, hf.1.2, ?_⟩
              unfold lay
              rw [if_neg fn]
              rfl
          have PA := fun bk u h1 h2 => packs F F16 p FL hp l14 l6 bk u h1 h2
          rw [eL] at PA
          cases Bd
          · have f1 : (F : Int) = 1 := by simpa using hB
            have em : mix (F : Int) (lay (F : Int) p fill) q = lay (F : Int) p fill := by unfold mix; rw [if_pos f1]
            rw [em]
            exact block_good_false F F16 G (lst (F : Int)) k p q fill FL _ _ LA sp sq hp hk14 TA FI PA (fun u => sum_no G _ _ q u) w
          · have f1 := hB.1 rfl
            have h2 : panB q = true := by simpa [qB, f1] using hq
            have SU := fun u => sum_yes G (lst (F : Int)) ⟨(pk (lay (F : Int) p fill)).toArray⟩ q (by show ByteArray.size _ = _; rw [← sz, mk_list, pk_len, hl]) h2 u
            rw [mk_list, sum_lay (F : Int) f1 _ q h2 hl hlt] at SU
            exact block_good_true F F16 G (lst (F : Int)) k p q fill FL _ _ LA sp sq hp h2 hk14 TA FI PA SU w
theorem first_get (b : ByteArray) (h : 0 < b.size) : b[0] = b.data.toList.getD 0 0 := gb_eq b 0 h
set_option maxHeartbeats 800000 in
theorem open_any (f : Int) (b q : ByteArray) (sb : b.size ≤ maxLen) (sq : q.size ≤ maxLen) (w : World) :
    Calls Try.prog 10 #[.int .i64 f, .string b, .string q] w (Post (openR f b q) w) := by
  cases hk : kn f
  · obtain ⟨h0, h1, h3⟩ := kn_no hk
    have e : openR f b q = (none8, 61) := by unfold openR; rw [if_pos (Or.inl hk)]
    rw [e]
    exact open_none f b q h0 h1 h3 w
  · have hk' := (kn_iff f).1 hk
    have LAx : ∃ Bd G : Bool, (Bd = true ↔ f ≠ 1) ∧ (G = true ↔ f ≠ 0) ∧ ∀ u, Calls Try.prog 24 #[.int .i64 f] u fun e w' => e = .returned (.tuple #[.agg #[.bool Bd, .bool G, .int .u8 (lst f : Int)], .bool true]) ∧ Below u.heap.size u w' := by
      rcases hk' with rfl | rfl | rfl
      · exact ⟨true, false, by simp, by simp, fun u => layout0 u⟩
      · exact ⟨false, true, by simp, by simp, fun u => layout1 u⟩
      · exact ⟨true, true, by simp, by simp, fun u => layout3 u⟩
    obtain ⟨Bd, G, hB, hG, LA⟩ := LAx
    by_cases h8 : b.size = 8
    · have h8' : ((b.size : Int) != 8) = false := by simp [h8]
      have h0 : (0 : Int) < (b.size : Int) := by omega
      have g0 := first_get b (by omega)
      by_cases hh : (((b.data.toList.getD 0 0).toNat / 16 : Nat) : Int) = f
      · have hh' : (((b[0]'(by omega)).toNat : Int) / 16 != f) = false := by rw [g0]; simp only [bne_eq_false_iff_eq]; rw [← hh]; omega
        have n1 : ¬ (kn f = false ∨ b.size ≠ 8 ∨ (((b.data.toList.getD 0 0).toNat / 16 : Nat) : Int) ≠ f) := by
          rintro (h | h | h)
          · rw [hk] at h; cases h
          · exact h h8
          · exact h hh
        cases hq : qB f q
        · have e : openR f b q = (none8, 50) := by unfold openR; rw [if_neg n1, if_pos hq]
          rw [e]
          have h2 : f ≠ 1 ∧ panB q = false := by simpa [qB] using hq
          obtain rfl : Bd = true := hB.2 h2.1
          exact open_pan f G (lst f) b q LA h8' h0 hh' sq h2.2 w
        · have e : openR f b q = readR f (mix f (nb b.data.toList) q) := by unfold openR; rw [if_neg n1, if_neg (by simp [hq])]
          rw [e]
          have nl : (nb b.data.toList).length = 16 := by rw [nb_len, sz, h8]
          have nt := nb_lt b.data.toList
          have ml := mix_len f _ q hq nl
          have mt := mix_lt f _ q hq nt
          have SP := fun u => spread_any ⟨(pk (mix f (nb b.data.toList) q)).toArray⟩ u (by rw [← sz, mk_list, pk_len, ml]; decide)
          rw [mk_list, hexL_nb, nb_pk _ (by rw [ml]) mt] at SP
          have RE := fun u => read_any Bd G f ⟨((mix f (nb b.data.toList) q).map hx).toArray⟩ _ ml mt rfl u
          cases Bd
          · have f1 : f = 1 := by simpa using hB
            have em : mix f (nb b.data.toList) q = nb b.data.toList := by unfold mix; rw [if_pos f1]
            have eb : (⟨(pk (mix f (nb b.data.toList) q)).toArray⟩ : ByteArray) = b := ba_ext (by rw [mk_list, em, pk_nb])
            rw [eb] at SP
            exact open_good_false f G (lst f) b q _ _ _ _ LA h8' h0 hh' sq (fun u => sum_no G _ b q u) SP RE w
          · have f1 := hB.1 rfl
            have h2 : panB q = true := by simpa [qB, f1] using hq
            have SU := fun u => sum_yes G (lst f) b q h8 h2 u
            have eb := sum_lay f f1 (nb b.data.toList) q h2 nl nt
            rw [pk_nb] at eb
            rw [eb] at SU
            exact open_good_true f G (lst f) b q _ _ _ _ LA h8' h0 hh' sq h2 SU SP RE w
      · have hh' : (((b[0]'(by omega)).toNat : Int) / 16 != f) = true := by rw [g0]; simp only [bne_iff_ne, ne_eq]; intro h'; exact hh (by rw [← h']; omega)
        have e : openR f b q = (none8, 61) := by unfold openR; rw [if_pos (Or.inr (Or.inr hh))]
        rw [e]
        exact open_head f Bd G (lst f) b q LA h8' h0 hh' w
    · have h8' : ((b.size : Int) != 8) = true := by simp only [bne_iff_ne, ne_eq]; omega
      have e : openR f b q = (none8, 61) := by unfold openR; rw [if_pos (Or.inr (Or.inl h8))]
      rw [e]
      exact open_size f Bd G (lst f) b q LA sb h8' w
end Go.Proofs.Ytciblmdpngnakaa.Pq
