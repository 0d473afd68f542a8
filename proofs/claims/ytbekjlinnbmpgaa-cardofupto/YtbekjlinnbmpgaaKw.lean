/- Tracks: the program's walk through its states. -/
import Derived.Test.YtbekjlinnbmpgaaKs
namespace Go.Proofs.Ytbekjlinnbmpgaa.Kw
set_option linter.unusedVariables false
open Go.RowKit Lib0 Kp Kb Kd Kt Ks
/-- the frame at a label -/
def Fr (s : ByteArray) (r e b : Nat) (a : Act) : Prop := ∃ u7 u8 u9 u10 u11 u12 u13 u14 u15 u16 u17 u18 u19 u20 u21 u22 u23 u24 u25 u26 u27 u28 u29 u30 u31 u32 u33 u34 u35 u36 u37 u38 u39 u40 u41 u42 u43 u44 u45 u46 u47 u48 u49 u50 u51 u52 u53 u54 u55 u56 u57 u58 u59 u60 u61 u62 u63 u64 : Value, a = { tmps := #[.string s, undef, .pointer (some ⟨r, 0, none⟩), .int .i64 0, .bool false, .pointer (some ⟨e, 0, none⟩), .pointer (some ⟨b, 0, none⟩), u7, u8, u9, u10, u11, u12, u13, u14, u15, u16, u17, u18, u19, u20, u21, u22, u23, u24, u25, u26, u27, u28, u29, u30, u31, u32, u33, u34, u35, u36, u37, u38, u39, u40, u41, u42, u43, u44, u45, u46, u47, u48, u49, u50, u51, u52, u53, u54, u55, u56, u57, u58, u59, u60, u61, u62, u63, u64], defers := [] }
structure Mem (w0 : World) (s : ByteArray) (r e b : Nat) (w : World) (k p x v : Nat) : Prop where
  hr : w.heap[r]? = some (Obj.cells #[.int .i64 0, .int .i64 0, .int .i64 0] 52)
  he : w.heap[e]? = some (Obj.cells #[.int .i64 (p : Int), .int .i64 (x : Int), .int .i64 (v : Int)] 52)
  hw : Wk w b s k
  hb : Below r w0 w
def St (s : ByteArray) (n l k p x v : Nat) : Prop := match l with
  | 0 => n = 1100 - k ∧ k ≤ 19 ∧ (s.data.toList.take k).all dig = true
  | 1 => n = 0 ∧ tr s = .error k
  | 2 => n = 700 ∧ tr s = svcS s p k
  | 3 => n = 800 ∧ tr s = nineS s p k
  | 4 => n = 800 ∧ tr s = threeS s p k
  | 5 => n = 600 ∧ tr s = endK s p x k k
  | 6 => n = 500 - k ∧ tr s = endK s p x v k
  | _ => False
def J (w0 : World) (s : ByteArray) (r e b : Nat) (n l : Nat) (a : Act) (w : World) : Prop := Fr s r e b a ∧ ∃ k p x v : Nat, k ≤ s.size ∧ Mem w0 s r e b w k p x v ∧ St s n l k p x v
def wkR (s : ByteArray) : Eds → Value
  | .ok (p, x, v) => .tuple #[.agg #[.int .i64 (p : Int), .int .i64 (x : Int), .int .i64 (v : Int)], .int .i64 (s.size : Int), .bool true]
  | .error k => .tuple #[.agg #[.int .i64 0, .int .i64 0, .int .i64 0], .int .i64 (k : Int), .bool false]
theorem Mem.take {w0 : World} {s : ByteArray} {r e b : Nat} {w y : World} {k k' p x v : Nat} (M : Mem w0 s r e b w k p x v) (hre : r < e) (heb : e < b) (hy : Wk y b s k') (h : Below b w y) : Mem w0 s r e b y k' p x v :=
  ⟨keptB h (by omega) M.hr, keptB h heb M.he, hy, M.hb.trans (h.mono (by omega))⟩
theorem held3 {x : World} {b : Nat} {u v z : Value} {t : TypeId} (hx : x.heap[b]? = some (Obj.cells #[u, v, z] t)) :
    x.cell? ⟨b, 0, none⟩ = some u ∧ x.cell? ⟨b, 1, none⟩ = some v ∧ x.cell? ⟨b, 2, none⟩ = some z ∧ x.frozen? ⟨b, 0, none⟩ = false ∧ x.frozen? ⟨b, 1, none⟩ = false ∧ x.frozen? ⟨b, 2, none⟩ = false := by
  refine ⟨?_, ?_, ?_, ?_, ?_, ?_⟩ <;> simp [World.cell?, World.frozen?, hx]
theorem res_row_tmp2 {P : Program} {fn : Func} {p u u2 : Tmp} {ty : TypeId} (h : fn.results = #[.cell p ty, .tmp u, .tmp u2]) (tmps : Array Value) (w : World) (g : Nat) (t : TypeId) (cs : Array Value) (fr : Nat × Nat) (d : TypeDesc)
    (hp : tmps.getD p undef = .pointer (some ⟨g, 0, none⟩)) (hg : w.heap[g]? = some (.cells cs t fr))
    (hu : P.underlying ty = some d) (hd : (match d with | .struct _ | .array _ _ => true | _ => false) = true) (hi : (P.info? ty).map (·.size) = some cs.size) :
    (results fn tmps).run P w = .ok (.tuple #[.agg cs, tmps.getD u undef, tmps.getD u2 undef]) w := by
  have hl := run_loadVar_row (P := P) w g t ty cs fr d hg hu hd hi
  simp only [results, h]
  simp only [Array.getD_eq_getD_getElem?] at hp
  simp [Result.andThen, hp, asAddr, hl]
theorem Mem.set {w0 : World} {s : ByteArray} {r e b : Nat} {w : World} {k p x v : Nat} (M : Mem w0 s r e b w k p x v) (hre : r < e) (heb : e < b) (o : Nat) (z : Value) {p' x' v' : Nat}
    (h : (#[Value.int .i64 (p : Int), .int .i64 (x : Int), .int .i64 (v : Int)] : Array Value).setIfInBounds o z = #[.int .i64 (p' : Int), .int .i64 (x' : Int), .int .i64 (v' : Int)]) : Mem w0 s r e b (w.setCell ⟨e, o, none⟩ z) k p' x' v' :=
  ⟨(setCell_ne (by omega) o z).trans M.hr, h ▸ setCell_heap M.he o z, (setCell_ne (by omega) o z).trans M.hw, below_setCell M.hb (by omega) o z⟩
theorem ends_size (a c d : Value) : (Try.prog.info? 52).map (·.size) = some (#[a, c, d] : Array Value).size := by kernel_rfl
theorem J_lt {w0 : World} {s : ByteArray} {r e b : Nat} (n l : Nat) (a : Act) (w : World) (h : J w0 s r e b n l a w) : l < 7 := by
  obtain ⟨_, k, p, x, v, _, _, hs⟩ := h
  rcases Nat.lt_or_ge l 7 with h | h
  · exact h
  · match l, h with
    | l + 7, _ => exact hs.elim
set_option maxRecDepth 100000 in
set_option maxHeartbeats 6400000 in
theorem walk_any (s : ByteArray) (w : World) (hs : s.size ≤ 37) :
    Calls Try.prog 26 #[.string s] w fun e w' => e = .returned (wkR s (tr s)) ∧ Below w.heap.size w w' := by
  obtain ⟨r, Hr⟩ : ∃ r, Hid (w.heap.size = r) := ⟨_, rfl⟩
  obtain ⟨e, He, hre⟩ : ∃ e, Hid (w.heap.size + 1 = e) ∧ r < e := ⟨_, rfl, by have := Hr.out; omega⟩
  obtain ⟨b, Hb, heb⟩ : ∃ b, Hid (w.heap.size + 1 + 1 = b) ∧ e < b := ⟨_, rfl, by have := He.out; omega⟩
  go_enter Try.func26, Try.ntmps26
  go_wp2
  refine wp_scope_seven (J w s r e b) 2000 J_lt ?hf ?p1 ?p6 ?p5 ?p2 ?p3 ?p4 ?p0 ?first
  case hf =>
    intro l hl
    match l, hl with
    | 0, _ => exact ⟨_, rfl⟩
    | 1, _ => exact ⟨_, rfl⟩
    | 2, _ => exact ⟨_, rfl⟩
    | 3, _ => exact ⟨_, rfl⟩
    | 4, _ => exact ⟨_, rfl⟩
    | 5, _ => exact ⟨_, rfl⟩
    | 6, _ => exact ⟨_, rfl⟩
  case p1 =>
    rintro n a y ⟨⟨u7, u8, u9, u10, u11, u12, u13, u14, u15, u16, u17, u18, u19, u20, u21, u22, u23, u24, u25, u26, u27, u28, u29, u30, u31, u32, u33, u34, u35, u36, u37, u38, u39, u40, u41, u42, u43, u44, u45, u46, u47, u48, u49, u50, u51, u52, u53, u54, u55, u56, u57, u58, u59, u60, u61, u62, u63, u64, rfl⟩, k, p, x, v, hk, M, hst⟩ rest hf
    cases hf
    obtain ⟨c0, c1, f0, f1⟩ := held2 (Below.refl _ _) M.hw
    obtain ⟨e0, e1, e2, e3, e4, e5⟩ := held3 M.he
    obtain ⟨r0, r1, r2, r3, r4, r5⟩ := held3 M.hr
    obtain ⟨hn, ht⟩ := hst
    have HT : Hid (tr s = .error k) := ht
    clear ht hn
    go_wp2
    go_region
    go_wp2
    have hb9 := (below_setCell (below_setCell (below_setCell M.hb (Nat.le_refl r) 0 (.int .i64 0)) (Nat.le_refl r) 1 (.int .i64 0)) (Nat.le_refl r) 2 (.int .i64 0)).drew
    have hg9 : ((((y.setCell ⟨r, 0, none⟩ (.int .i64 0)).setCell ⟨r, 1, none⟩ (.int .i64 0)).setCell ⟨r, 2, none⟩ (.int .i64 0)).drew).heap[r]? = some (Obj.cells #[.int .i64 0, .int .i64 0, .int .i64 0] 52) := setCell_heap (setCell_heap (setCell_heap M.hr 0 _) 1 _) 2 _
    refine jumps_ret (bodyPost_ret (v := .tuple #[.agg #[.int .i64 0, .int .i64 0, .int .i64 0], .int .i64 (k : Int), .bool false]) (res_row_tmp2 (fn := Try.f26) (p := 2) (u := 3) (u2 := 4) rfl _ _ r 52 _ _ _ rfl hg9 Try.underlying52 rfl (ends_size _ _ _)) rfl ⟨?_, ?_⟩)
    · rw [HT.out]; rfl
    · rw [Hr.out]; exact hb9
  case p6 =>
    intro h1
    rintro n a y ⟨⟨u7, u8, u9, u10, u11, u12, u13, u14, u15, u16, u17, u18, u19, u20, u21, u22, u23, u24, u25, u26, u27, u28, u29, u30, u31, u32, u33, u34, u35, u36, u37, u38, u39, u40, u41, u42, u43, u44, u45, u46, u47, u48, u49, u50, u51, u52, u53, u54, u55, u56, u57, u58, u59, u60, u61, u62, u63, u64, rfl⟩, k, p, x, v, hk, M, hst⟩ rest hf
    cases hf
    obtain ⟨hn, ht⟩ := hst
    have HT : Hid (tr s = endK s p x v k) := ht
    clear ht
    subst hn
    cases ht : tk dig s k
    · go_wp2_with fail
      refine (take_no mem_dig hs hk M.hw ht).mono ?_
      rintro ee y ⟨rfl, h2, h3⟩
      replace M := M.take hre heb h2 h3
      clear h2 h3
      obtain ⟨c0, c1, f0, f1⟩ := held2 (Below.refl _ _) M.hw
      obtain ⟨e0, e1, e2, e3, e4, e5⟩ := held3 M.he
      obtain ⟨r0, r1, r2, r3, r4, r5⟩ := held3 M.hr
      by_cases hl : k = s.size
      · have q1 : (s.size : Int) = (k : Int) := by omega
        have HT2 : Hid (tr s = .ok (p, x, v)) := by show _ = _; rw [HT.out, endK_stop hk ht, if_pos hl]
        have hle : s.size = k := hl.symm
        have HL : Hid (s.size = k) := hle
        clear hl hle hk HT ht
        go_wp2
        go_region
        go_wp2
        have hb9 := (below_setCell (below_setCell (below_setCell M.hb (Nat.le_refl r) 0 (.int .i64 (p : Int))) (Nat.le_refl r) 1 (.int .i64 (x : Int))) (Nat.le_refl r) 2 (.int .i64 (v : Int))).drew
        have hg9 : ((((y.setCell ⟨r, 0, none⟩ (.int .i64 (p : Int))).setCell ⟨r, 1, none⟩ (.int .i64 (x : Int))).setCell ⟨r, 2, none⟩ (.int .i64 (v : Int))).drew).heap[r]? = some (Obj.cells #[.int .i64 (p : Int), .int .i64 (x : Int), .int .i64 (v : Int)] 52) := setCell_heap (setCell_heap (setCell_heap M.hr 0 _) 1 _) 2 _
        refine jumps_ret (bodyPost_ret (v := .tuple #[.agg #[.int .i64 (p : Int), .int .i64 (x : Int), .int .i64 (v : Int)], .int .i64 (k : Int), .bool true]) (res_row_tmp2 (fn := Try.f26) (p := 2) (u := 3) (u2 := 4) rfl _ _ r 52 _ _ _ rfl hg9 Try.underlying52 rfl (ends_size _ _ _)) rfl ⟨?_, ?_⟩)
        · rw [HT2.out]; show _ = Ending.returned (.tuple #[_, .int .i64 (s.size : Int), _]); rw [HL.out]
        · rw [Hr.out]; exact hb9
      · have q1 : ((k : Int) == (s.size : Int)) = false := by simp; omega
        have HT2 : tr s = .error k := by rw [HT.out, endK_stop hk ht, if_neg hl]
        go_wp2
        go_step3
        rename_i K9 hK9
        refine hK9 _ _ ?_
        exact Code.wp_mono (jumps_less (by omega)) (h1 0 _ _ ⟨⟨_, _, _, _, _, _, _, _, _, _, _, _, _, _, _, _, _, _, _, _, _, _, _, _, _, _, _, _, _, _, _, _, _, _, _, _, _, _, _, _, _, _, _, _, _, _, _, _, _, _, _, _, _, _, _, _, _, _, rfl⟩, k, p, x, v, hk, M, rfl, HT2⟩ _ rfl)
    · go_wp2_with fail
      refine (take_yes mem_dig hs M.hw ht).mono ?_
      rintro ee y ⟨rfl, h2, h3⟩
      replace M := M.take hre heb h2 h3
      clear h2 h3
      go_wp2
      go_step3
      refine ⟨500 - (k + 1), by have := tk_lt ht; omega, ⟨_, _, _, _, _, _, _, _, _, _, _, _, _, _, _, _, _, _, _, _, _, _, _, _, _, _, _, _, _, _, _, _, _, _, _, _, _, _, _, _, _, _, _, _, _, _, _, _, _, _, _, _, _, _, _, _, _, _, rfl⟩, k + 1, p, x, v, tk_lt ht, M, rfl, HT.out.trans (endK_step ht)⟩
  case p5 =>
    intro h6
    rintro n a y ⟨⟨u7, u8, u9, u10, u11, u12, u13, u14, u15, u16, u17, u18, u19, u20, u21, u22, u23, u24, u25, u26, u27, u28, u29, u30, u31, u32, u33, u34, u35, u36, u37, u38, u39, u40, u41, u42, u43, u44, u45, u46, u47, u48, u49, u50, u51, u52, u53, u54, u55, u56, u57, u58, u59, u60, u61, u62, u63, u64, rfl⟩, k, p, x, v, hk, M, hst⟩ rest hf
    cases hf
    obtain ⟨c0, c1, f0, f1⟩ := held2 (Below.refl _ _) M.hw
    obtain ⟨e0, e1, e2, e3, e4, e5⟩ := held3 M.he
    obtain ⟨r0, r1, r2, r3, r4, r5⟩ := held3 M.hr
    obtain ⟨hn, ht⟩ := hst
    subst hn
    replace M := M.set hre heb 2 (.int .i64 (k : Int)) (p' := p) (x' := x) (v' := k) rfl
    go_wp2
    go_step3
    rename_i K9 hK9
    refine hK9 _ _ ?_
    exact Code.wp_mono (jumps_less (by omega)) (h6 (500 - k) _ _ ⟨⟨_, _, _, _, _, _, _, _, _, _, _, _, _, _, _, _, _, _, _, _, _, _, _, _, _, _, _, _, _, _, _, _, _, _, _, _, _, _, _, _, _, _, _, _, _, _, _, _, _, _, _, _, _, _, _, _, _, _, rfl⟩, k, p, x, k, hk, M, rfl, ht⟩ _ rfl)
  case p2 =>
    intro h5
    rintro n a y ⟨⟨u7, u8, u9, u10, u11, u12, u13, u14, u15, u16, u17, u18, u19, u20, u21, u22, u23, u24, u25, u26, u27, u28, u29, u30, u31, u32, u33, u34, u35, u36, u37, u38, u39, u40, u41, u42, u43, u44, u45, u46, u47, u48, u49, u50, u51, u52, u53, u54, u55, u56, u57, u58, u59, u60, u61, u62, u63, u64, rfl⟩, k, p, x, v, hk, M, hst⟩ rest hf
    cases hf
    obtain ⟨c0, c1, f0, f1⟩ := held2 (Below.refl _ _) M.hw
    obtain ⟨e0, e1, e2, e3, e4, e5⟩ := held3 M.he
    obtain ⟨r0, r1, r2, r3, r4, r5⟩ := held3 M.hr
    obtain ⟨hn, ht⟩ := hst
    subst hn
    have HT : Hid (tr s = svcS s p k) := ht
    clear ht
    replace M := M.set hre heb 1 (.int .i64 (k : Int)) (p' := p) (x' := k) (v' := v) rfl
    cases hp : tk eqs s k
    · go_wp2_with fail
      refine (take_no mem_eq hs hk M.hw hp).mono ?_
      rintro ee y ⟨rfl, h2, h3⟩
      replace M := M.take hre heb h2 h3
      clear h2 h3
      cases h1 : tk dig s k
      · go_wp2_with fail
        refine (take_no mem_dig hs hk M.hw h1).mono ?_
        rintro ee y ⟨rfl, h2, h3⟩
        replace M := M.take hre heb h2 h3
        clear h2 h3
        go_wp2
        go_step3
        refine ⟨0, by omega, ⟨_, _, _, _, _, _, _, _, _, _, _, _, _, _, _, _, _, _, _, _, _, _, _, _, _, _, _, _, _, _, _, _, _, _, _, _, _, _, _, _, _, _, _, _, _, _, _, _, _, _, _, _, _, _, _, _, _, _, rfl⟩, k, p, k, v, hk, M, rfl, by rw [HT.out, svcS, hp, h1]; rfl⟩
      · go_wp2_with fail
        refine (take_yes mem_dig hs M.hw h1).mono ?_
        rintro ee y ⟨rfl, h2, h3⟩
        replace M := M.take hre heb h2 h3
        clear h2 h3
        cases h2 : tk dig s (k + 1)
        · go_wp2_with fail
          refine (take_no mem_dig hs (tk_lt h1) M.hw h2).mono ?_
          rintro ee y ⟨rfl, h2, h3⟩
          replace M := M.take hre heb h2 h3
          clear h2 h3
          go_wp2
          go_step3
          refine ⟨0, by omega, ⟨_, _, _, _, _, _, _, _, _, _, _, _, _, _, _, _, _, _, _, _, _, _, _, _, _, _, _, _, _, _, _, _, _, _, _, _, _, _, _, _, _, _, _, _, _, _, _, _, _, _, _, _, _, _, _, _, _, _, rfl⟩, k + 1, p, k, v, tk_lt h1, M, rfl, by rw [HT.out, svcS, hp, h1, h2]; rfl⟩
        · go_wp2_with fail
          refine (take_yes mem_dig hs M.hw h2).mono ?_
          rintro ee y ⟨rfl, h2, h3⟩
          replace M := M.take hre heb h2 h3
          clear h2 h3
          cases h3 : tk dig s (k + 1 + 1)
          · go_wp2_with fail
            refine (take_no mem_dig hs (tk_lt h2) M.hw h3).mono ?_
            rintro ee y ⟨rfl, h2, h3⟩
            replace M := M.take hre heb h2 h3
            clear h2 h3
            go_wp2
            go_step3
            refine ⟨0, by omega, ⟨_, _, _, _, _, _, _, _, _, _, _, _, _, _, _, _, _, _, _, _, _, _, _, _, _, _, _, _, _, _, _, _, _, _, _, _, _, _, _, _, _, _, _, _, _, _, _, _, _, _, _, _, _, _, _, _, _, _, rfl⟩, k + 1 + 1, p, k, v, tk_lt h2, M, rfl, by rw [HT.out, svcS, hp, h1, h2, h3]; rfl⟩
          · go_wp2_with fail
            refine (take_yes mem_dig hs M.hw h3).mono ?_
            rintro ee y ⟨rfl, h2, h3⟩
            replace M := M.take hre heb h2 h3
            clear h2 h3
            go_wp2
            go_step3
            rename_i K9 hK9
            refine hK9 _ _ ?_
            exact Code.wp_mono (jumps_less (by omega)) (h5 600 _ _ ⟨⟨_, _, _, _, _, _, _, _, _, _, _, _, _, _, _, _, _, _, _, _, _, _, _, _, _, _, _, _, _, _, _, _, _, _, _, _, _, _, _, _, _, _, _, _, _, _, _, _, _, _, _, _, _, _, _, _, _, _, rfl⟩, k + 1 + 1 + 1, p, k, v, tk_lt h3, M, rfl, by rw [HT.out, svcS, hp, h1, h2, h3]; rfl⟩ _ rfl)
    · go_wp2_with fail
      refine (take_yes mem_eq hs M.hw hp).mono ?_
      rintro ee y ⟨rfl, h2, h3⟩
      replace M := M.take hre heb h2 h3
      clear h2 h3
      go_wp2
      go_step3
      refine ⟨600, by omega, ⟨_, _, _, _, _, _, _, _, _, _, _, _, _, _, _, _, _, _, _, _, _, _, _, _, _, _, _, _, _, _, _, _, _, _, _, _, _, _, _, _, _, _, _, _, _, _, _, _, _, _, _, _, _, _, _, _, _, _, rfl⟩, k + 1, p, k, v, tk_lt hp, M, rfl, by rw [HT.out, svcS, if_pos hp]⟩
  case p3 =>
    rintro n a y ⟨⟨u7, u8, u9, u10, u11, u12, u13, u14, u15, u16, u17, u18, u19, u20, u21, u22, u23, u24, u25, u26, u27, u28, u29, u30, u31, u32, u33, u34, u35, u36, u37, u38, u39, u40, u41, u42, u43, u44, u45, u46, u47, u48, u49, u50, u51, u52, u53, u54, u55, u56, u57, u58, u59, u60, u61, u62, u63, u64, rfl⟩, k, p, x, v, hk, M, hst⟩ rest hf
    cases hf
    obtain ⟨hn, ht⟩ := hst
    subst hn
    cases hp : tk d19 s k
    · go_wp2_with fail
      refine (take_no mem_19 hs hk M.hw hp).mono ?_
      rintro ee y ⟨rfl, h2, h3⟩
      replace M := M.take hre heb h2 h3
      clear h2 h3
      go_wp2
      go_step3
      refine ⟨0, by omega, ⟨_, _, _, _, _, _, _, _, _, _, _, _, _, _, _, _, _, _, _, _, _, _, _, _, _, _, _, _, _, _, _, _, _, _, _, _, _, _, _, _, _, _, _, _, _, _, _, _, _, _, _, _, _, _, _, _, _, _, rfl⟩, k, p, x, v, hk, M, rfl, by rw [ht, nineS, hp]; rfl⟩
    · go_wp2_with fail
      refine (take_yes mem_19 hs M.hw hp).mono ?_
      rintro ee y ⟨rfl, h2, h3⟩
      replace M := M.take hre heb h2 h3
      clear h2 h3
      go_wp2
      go_step3
      refine ⟨700, by omega, ⟨_, _, _, _, _, _, _, _, _, _, _, _, _, _, _, _, _, _, _, _, _, _, _, _, _, _, _, _, _, _, _, _, _, _, _, _, _, _, _, _, _, _, _, _, _, _, _, _, _, _, _, _, _, _, _, _, _, _, rfl⟩, k + 1, p, x, v, tk_lt hp, M, rfl, by rw [ht, nineS, if_pos hp]⟩
  case p4 =>
    rintro n a y ⟨⟨u7, u8, u9, u10, u11, u12, u13, u14, u15, u16, u17, u18, u19, u20, u21, u22, u23, u24, u25, u26, u27, u28, u29, u30, u31, u32, u33, u34, u35, u36, u37, u38, u39, u40, u41, u42, u43, u44, u45, u46, u47, u48, u49, u50, u51, u52, u53, u54, u55, u56, u57, u58, u59, u60, u61, u62, u63, u64, rfl⟩, k, p, x, v, hk, M, hst⟩ rest hf
    cases hf
    obtain ⟨hn, ht⟩ := hst
    subst hn
    cases hp : tk d02 s k
    · go_wp2_with fail
      refine (take_no mem_02 hs hk M.hw hp).mono ?_
      rintro ee y ⟨rfl, h2, h3⟩
      replace M := M.take hre heb h2 h3
      clear h2 h3
      go_wp2
      go_step3
      refine ⟨0, by omega, ⟨_, _, _, _, _, _, _, _, _, _, _, _, _, _, _, _, _, _, _, _, _, _, _, _, _, _, _, _, _, _, _, _, _, _, _, _, _, _, _, _, _, _, _, _, _, _, _, _, _, _, _, _, _, _, _, _, _, _, rfl⟩, k, p, x, v, hk, M, rfl, by rw [ht, threeS, hp]; rfl⟩
    · go_wp2_with fail
      refine (take_yes mem_02 hs M.hw hp).mono ?_
      rintro ee y ⟨rfl, h2, h3⟩
      replace M := M.take hre heb h2 h3
      clear h2 h3
      go_wp2
      go_step3
      refine ⟨700, by omega, ⟨_, _, _, _, _, _, _, _, _, _, _, _, _, _, _, _, _, _, _, _, _, _, _, _, _, _, _, _, _, _, _, _, _, _, _, _, _, _, _, _, _, _, _, _, _, _, _, _, _, _, _, _, _, _, _, _, _, _, rfl⟩, k + 1, p, x, v, tk_lt hp, M, rfl, by rw [ht, threeS, if_pos hp]⟩
  case p0 =>
    rintro n a y ⟨⟨u7, u8, u9, u10, u11, u12, u13, u14, u15, u16, u17, u18, u19, u20, u21, u22, u23, u24, u25, u26, u27, u28, u29, u30, u31, u32, u33, u34, u35, u36, u37, u38, u39, u40, u41, u42, u43, u44, u45, u46, u47, u48, u49, u50, u51, u52, u53, u54, u55, u56, u57, u58, u59, u60, u61, u62, u63, u64, rfl⟩, k, p, x, v, hk, M, hst⟩ rest hf
    cases hf
    obtain ⟨hn, h19, hal⟩ := hst
    have Hal : Hid ((s.data.toList.take k).all dig = true) := hal
    clear hal
    subst hn
    by_cases hk19 : (k : Int) < 19
    · obtain ⟨c0, c1, f0, f1⟩ := held2 (Below.refl _ _) M.hw
      cases hp : tk dig s k
      · have HP : Hid (pan s = k) := pan_stop hk h19 Hal.out (.inr hp)
        go_wp2_with fail
        refine (take_no mem_dig hs hk M.hw hp).mono ?_
        rintro ee y ⟨rfl, h2, h3⟩
        replace M := M.take hre heb h2 h3
        clear h2 h3
        obtain ⟨c0, c1, f0, f1⟩ := held2 (Below.refl _ _) M.hw
        obtain ⟨e0, e1, e2, e3, e4, e5⟩ := held3 M.he
        obtain ⟨r0, r1, r2, r3, r4, r5⟩ := held3 M.hr
        replace M := M.set hre heb 0 (.int .i64 (k : Int)) (p' := k) (x' := x) (v' := v) rfl
        obtain ⟨c0', c1', f0', f1'⟩ := held2 (Below.refl _ _) M.hw
        by_cases h0 : k = 0
        · subst h0
          go_wp2
          go_step3
          refine ⟨0, by omega, ⟨_, _, _, _, _, _, _, _, _, _, _, _, _, _, _, _, _, _, _, _, _, _, _, _, _, _, _, _, _, _, _, _, _, _, _, _, _, _, _, _, _, _, _, _, _, _, _, _, _, _, _, _, _, _, _, _, _, _, rfl⟩, 0, 0, x, v, Nat.zero_le _, M, rfl, by rw [tr, if_pos HP.out]⟩
        · have q0 : ((k : Int) == 0) = false := by simp; omega
          cases hq : tk eqs s k
          · go_wp2_with fail
            refine (take_no mem_eq hs hk M.hw hq).mono ?_
            rintro ee y ⟨rfl, h2, h3⟩
            replace M := M.take hre heb h2 h3
            clear h2 h3
            go_wp2
            go_step3
            refine ⟨0, by omega, ⟨_, _, _, _, _, _, _, _, _, _, _, _, _, _, _, _, _, _, _, _, _, _, _, _, _, _, _, _, _, _, _, _, _, _, _, _, _, _, _, _, _, _, _, _, _, _, _, _, _, _, _, _, _, _, _, _, _, _, rfl⟩, k, k, x, v, hk, M, rfl, by rw [tr, HP.out, if_neg h0, hq]; rfl⟩
          · have HT : Hid (tr s = expS s k) := by show _ = _; rw [tr, HP.out, if_neg h0, if_pos hq]
            go_wp2_with fail
            refine (take_yes mem_eq hs M.hw hq).mono ?_
            rintro ee y ⟨rfl, h2, h3⟩
            replace M := M.take hre heb h2 h3
            clear h2 h3
            clear c0 c1 f0 f1 e0 e1 e2 e3 e4 e5 r0 r1 r2 r3 r4 r5 c0' c1' f0' f1'
            cases hr : tk eqs s (k + 1)
            · go_wp2_with fail
              refine (take_no mem_eq hs (tk_lt hq) M.hw hr).mono ?_
              rintro ee y ⟨rfl, h2, h3⟩
              replace M := M.take hre heb h2 h3
              clear h2 h3
              cases h1 : tk dig s (k + 1)
              · go_wp2_with fail
                refine (take_no mem_dig hs (tk_lt hq) M.hw h1).mono ?_
                rintro ee y ⟨rfl, h2, h3⟩
                replace M := M.take hre heb h2 h3
                clear h2 h3
                go_wp2
                go_step3
                refine ⟨0, by omega, ⟨_, _, _, _, _, _, _, _, _, _, _, _, _, _, _, _, _, _, _, _, _, _, _, _, _, _, _, _, _, _, _, _, _, _, _, _, _, _, _, _, _, _, _, _, _, _, _, _, _, _, _, _, _, _, _, _, _, _, rfl⟩, k + 1, k, x, v, tk_lt hq, M, rfl, by rw [HT.out, expS, hr, h1]; rfl⟩
              · go_wp2_with fail
                refine (take_yes mem_dig hs M.hw h1).mono ?_
                rintro ee y ⟨rfl, h2, h3⟩
                replace M := M.take hre heb h2 h3
                clear h2 h3
                cases h2 : tk dig s (k + 1 + 1)
                · go_wp2_with fail
                  refine (take_no mem_dig hs (tk_lt h1) M.hw h2).mono ?_
                  rintro ee y ⟨rfl, h2, h3⟩
                  replace M := M.take hre heb h2 h3
                  clear h2 h3
                  go_wp2
                  go_step3
                  refine ⟨0, by omega, ⟨_, _, _, _, _, _, _, _, _, _, _, _, _, _, _, _, _, _, _, _, _, _, _, _, _, _, _, _, _, _, _, _, _, _, _, _, _, _, _, _, _, _, _, _, _, _, _, _, _, _, _, _, _, _, _, _, _, _, rfl⟩, k + 1 + 1, k, x, v, tk_lt h1, M, rfl, by rw [HT.out, expS, hr, h1, h2]; rfl⟩
                · go_wp2_with fail
                  refine (take_yes mem_dig hs M.hw h2).mono ?_
                  rintro ee y ⟨rfl, h2, h3⟩
                  replace M := M.take hre heb h2 h3
                  clear h2 h3
                  cases h3 : tk d0 s (k + 1 + 1 + 1)
                  · go_wp2_with fail
                    refine (take_no mem_0 hs (tk_lt h2) M.hw h3).mono ?_
                    rintro ee y ⟨rfl, h2, h3⟩
                    replace M := M.take hre heb h2 h3
                    clear h2 h3
                    cases h4 : tk d1 s (k + 1 + 1 + 1)
                    · go_wp2_with fail
                      refine (take_no mem_1 hs (tk_lt h2) M.hw h4).mono ?_
                      rintro ee y ⟨rfl, h2, h3⟩
                      replace M := M.take hre heb h2 h3
                      clear h2 h3
                      go_wp2
                      go_step3
                      refine ⟨0, by omega, ⟨_, _, _, _, _, _, _, _, _, _, _, _, _, _, _, _, _, _, _, _, _, _, _, _, _, _, _, _, _, _, _, _, _, _, _, _, _, _, _, _, _, _, _, _, _, _, _, _, _, _, _, _, _, _, _, _, _, _, rfl⟩, k + 1 + 1 + 1, k, x, v, tk_lt h2, M, rfl, by rw [HT.out, expS, hr, h1, h2, h3, h4]; rfl⟩
                    · go_wp2_with fail
                      refine (take_yes mem_1 hs M.hw h4).mono ?_
                      rintro ee y ⟨rfl, h2, h3⟩
                      replace M := M.take hre heb h2 h3
                      clear h2 h3
                      go_wp2
                      go_step3
                      refine ⟨800, by omega, ⟨_, _, _, _, _, _, _, _, _, _, _, _, _, _, _, _, _, _, _, _, _, _, _, _, _, _, _, _, _, _, _, _, _, _, _, _, _, _, _, _, _, _, _, _, _, _, _, _, _, _, _, _, _, _, _, _, _, _, rfl⟩, k + 1 + 1 + 1 + 1, k, x, v, tk_lt h4, M, rfl, by rw [HT.out, expS, hr, h1, h2, h3, h4]; rfl⟩
                  · go_wp2_with fail
                    refine (take_yes mem_0 hs M.hw h3).mono ?_
                    rintro ee y ⟨rfl, h2, h3⟩
                    replace M := M.take hre heb h2 h3
                    clear h2 h3
                    go_wp2
                    go_step3
                    refine ⟨800, by omega, ⟨_, _, _, _, _, _, _, _, _, _, _, _, _, _, _, _, _, _, _, _, _, _, _, _, _, _, _, _, _, _, _, _, _, _, _, _, _, _, _, _, _, _, _, _, _, _, _, _, _, _, _, _, _, _, _, _, _, _, rfl⟩, k + 1 + 1 + 1 + 1, k, x, v, tk_lt h3, M, rfl, by rw [HT.out, expS, hr, h1, h2, h3]; rfl⟩
            · go_wp2_with fail
              refine (take_yes mem_eq hs M.hw hr).mono ?_
              rintro ee y ⟨rfl, h2, h3⟩
              replace M := M.take hre heb h2 h3
              clear h2 h3
              go_wp2
              go_step3
              refine ⟨700, by omega, ⟨_, _, _, _, _, _, _, _, _, _, _, _, _, _, _, _, _, _, _, _, _, _, _, _, _, _, _, _, _, _, _, _, _, _, _, _, _, _, _, _, _, _, _, _, _, _, _, _, _, _, _, _, _, _, _, _, _, _, rfl⟩, k + 1 + 1, k, x, v, tk_lt hr, M, rfl, by rw [HT.out, expS, if_pos hr]⟩
      · go_wp2_with fail
        refine (take_yes mem_dig hs M.hw hp).mono ?_
        rintro ee y ⟨rfl, h2, h3⟩
        replace M := M.take hre heb h2 h3
        clear h2 h3
        go_wp2
        go_step3
        refine ⟨1100 - (k + 1), by omega, ⟨_, _, _, _, _, _, _, _, _, _, _, _, _, _, _, _, _, _, _, _, _, _, _, _, _, _, _, _, _, _, _, _, _, _, _, _, _, _, _, _, _, _, _, _, _, _, _, _, _, _, _, _, _, _, _, _, _, _, rfl⟩, k + 1, p, x, v, tk_lt hp, M, rfl, by omega, all_snoc dig s k (tk_lt hp) Hal.out (by rw [← tk_in dig s k (tk_lt hp)]; exact hp)⟩
    · have HP : Hid (pan s = k) := pan_stop hk h19 Hal.out (.inl (by omega))
      obtain ⟨c0, c1, f0, f1⟩ := held2 (Below.refl _ _) M.hw
      obtain ⟨e0, e1, e2, e3, e4, e5⟩ := held3 M.he
      obtain ⟨r0, r1, r2, r3, r4, r5⟩ := held3 M.hr
      replace M := M.set hre heb 0 (.int .i64 (k : Int)) (p' := k) (x' := x) (v' := v) rfl
      obtain ⟨c0', c1', f0', f1'⟩ := held2 (Below.refl _ _) M.hw
      by_cases h0 : k = 0
      · exfalso; omega
      · have q0 : ((k : Int) == 0) = false := by simp; omega
        cases hq : tk eqs s k
        · go_wp2_with fail
          refine (take_no mem_eq hs hk M.hw hq).mono ?_
          rintro ee y ⟨rfl, h2, h3⟩
          replace M := M.take hre heb h2 h3
          clear h2 h3
          go_wp2
          go_step3
          refine ⟨0, by omega, ⟨_, _, _, _, _, _, _, _, _, _, _, _, _, _, _, _, _, _, _, _, _, _, _, _, _, _, _, _, _, _, _, _, _, _, _, _, _, _, _, _, _, _, _, _, _, _, _, _, _, _, _, _, _, _, _, _, _, _, rfl⟩, k, k, x, v, hk, M, rfl, by rw [tr, HP.out, if_neg h0, hq]; rfl⟩
        · have HT : Hid (tr s = expS s k) := by show _ = _; rw [tr, HP.out, if_neg h0, if_pos hq]
          go_wp2_with fail
          refine (take_yes mem_eq hs M.hw hq).mono ?_
          rintro ee y ⟨rfl, h2, h3⟩
          replace M := M.take hre heb h2 h3
          clear h2 h3
          clear c0 c1 f0 f1 e0 e1 e2 e3 e4 e5 r0 r1 r2 r3 r4 r5 c0' c1' f0' f1'
          cases hr : tk eqs s (k + 1)
          · go_wp2_with fail
            refine (take_no mem_eq hs (tk_lt hq) M.hw hr).mono ?_
            rintro ee y ⟨rfl, h2, h3⟩
            replace M := M.take hre heb h2 h3
            clear h2 h3
            cases h1 : tk dig s (k + 1)
            · go_wp2_with fail
              refine (take_no mem_dig hs (tk_lt hq) M.hw h1).mono ?_
              rintro ee y ⟨rfl, h2, h3⟩
              replace M := M.take hre heb h2 h3
              clear h2 h3
              go_wp2
              go_step3
              refine ⟨0, by omega, ⟨_, _, _, _, _, _, _, _, _, _, _, _, _, _, _, _, _, _, _, _, _, _, _, _, _, _, _, _, _, _, _, _, _, _, _, _, _, _, _, _, _, _, _, _, _, _, _, _, _, _, _, _, _, _, _, _, _, _, rfl⟩, k + 1, k, x, v, tk_lt hq, M, rfl, by rw [HT.out, expS, hr, h1]; rfl⟩
            · go_wp2_with fail
              refine (take_yes mem_dig hs M.hw h1).mono ?_
              rintro ee y ⟨rfl, h2, h3⟩
              replace M := M.take hre heb h2 h3
              clear h2 h3
              cases h2 : tk dig s (k + 1 + 1)
              · go_wp2_with fail
                refine (take_no mem_dig hs (tk_lt h1) M.hw h2).mono ?_
                rintro ee y ⟨rfl, h2, h3⟩
                replace M := M.take hre heb h2 h3
                clear h2 h3
                go_wp2
                go_step3
                refine ⟨0, by omega, ⟨_, _, _, _, _, _, _, _, _, _, _, _, _, _, _, _, _, _, _, _, _, _, _, _, _, _, _, _, _, _, _, _, _, _, _, _, _, _, _, _, _, _, _, _, _, _, _, _, _, _, _, _, _, _, _, _, _, _, rfl⟩, k + 1 + 1, k, x, v, tk_lt h1, M, rfl, by rw [HT.out, expS, hr, h1, h2]; rfl⟩
              · go_wp2_with fail
                refine (take_yes mem_dig hs M.hw h2).mono ?_
                rintro ee y ⟨rfl, h2, h3⟩
                replace M := M.take hre heb h2 h3
                clear h2 h3
                cases h3 : tk d0 s (k + 1 + 1 + 1)
                · go_wp2_with fail
                  refine (take_no mem_0 hs (tk_lt h2) M.hw h3).mono ?_
                  rintro ee y ⟨rfl, h2, h3⟩
                  replace M := M.take hre heb h2 h3
                  clear h2 h3
                  cases h4 : tk d1 s (k + 1 + 1 + 1)
                  · go_wp2_with fail
                    refine (take_no mem_1 hs (tk_lt h2) M.hw h4).mono ?_
                    rintro ee y ⟨rfl, h2, h3⟩
                    replace M := M.take hre heb h2 h3
                    clear h2 h3
                    go_wp2
                    go_step3
                    refine ⟨0, by omega, ⟨_, _, _, _, _, _, _, _, _, _, _, _, _, _, _, _, _, _, _, _, _, _, _, _, _, _, _, _, _, _, _, _, _, _, _, _, _, _, _, _, _, _, _, _, _, _, _, _, _, _, _, _, _, _, _, _, _, _, rfl⟩, k + 1 + 1 + 1, k, x, v, tk_lt h2, M, rfl, by rw [HT.out, expS, hr, h1, h2, h3, h4]; rfl⟩
                  · go_wp2_with fail
                    refine (take_yes mem_1 hs M.hw h4).mono ?_
                    rintro ee y ⟨rfl, h2, h3⟩
                    replace M := M.take hre heb h2 h3
                    clear h2 h3
                    go_wp2
                    go_step3
                    refine ⟨800, by omega, ⟨_, _, _, _, _, _, _, _, _, _, _, _, _, _, _, _, _, _, _, _, _, _, _, _, _, _, _, _, _, _, _, _, _, _, _, _, _, _, _, _, _, _, _, _, _, _, _, _, _, _, _, _, _, _, _, _, _, _, rfl⟩, k + 1 + 1 + 1 + 1, k, x, v, tk_lt h4, M, rfl, by rw [HT.out, expS, hr, h1, h2, h3, h4]; rfl⟩
                · go_wp2_with fail
                  refine (take_yes mem_0 hs M.hw h3).mono ?_
                  rintro ee y ⟨rfl, h2, h3⟩
                  replace M := M.take hre heb h2 h3
                  clear h2 h3
                  go_wp2
                  go_step3
                  refine ⟨800, by omega, ⟨_, _, _, _, _, _, _, _, _, _, _, _, _, _, _, _, _, _, _, _, _, _, _, _, _, _, _, _, _, _, _, _, _, _, _, _, _, _, _, _, _, _, _, _, _, _, _, _, _, _, _, _, _, _, _, _, _, _, rfl⟩, k + 1 + 1 + 1 + 1, k, x, v, tk_lt h3, M, rfl, by rw [HT.out, expS, hr, h1, h2, h3]; rfl⟩
          · go_wp2_with fail
            refine (take_yes mem_eq hs M.hw hr).mono ?_
            rintro ee y ⟨rfl, h2, h3⟩
            replace M := M.take hre heb h2 h3
            clear h2 h3
            go_wp2
            go_step3
            refine ⟨700, by omega, ⟨_, _, _, _, _, _, _, _, _, _, _, _, _, _, _, _, _, _, _, _, _, _, _, _, _, _, _, _, _, _, _, _, _, _, _, _, _, _, _, _, _, _, _, _, _, _, _, _, _, _, _, _, _, _, _, _, _, _, rfl⟩, k + 1 + 1, k, x, v, tk_lt hr, M, rfl, by rw [HT.out, expS, if_pos hr]⟩
  case first =>
    intro h0
    go_wp2
    go_step3
    rename_i K9 hK9
    refine hK9 _ _ ?_
    have m0 := h3_0 w (Obj.cells #[.int .i64 0, .int .i64 0, .int .i64 0] 52) (Obj.cells #[.int .i64 0, .int .i64 0, .int .i64 0] 52) (Obj.cells #[.string s, .int .i64 0] 61)
    have m1 := h3_1 w (Obj.cells #[.int .i64 0, .int .i64 0, .int .i64 0] 52) (Obj.cells #[.int .i64 0, .int .i64 0, .int .i64 0] 52) (Obj.cells #[.string s, .int .i64 0] 61)
    have m2 := h3_2 w (Obj.cells #[.int .i64 0, .int .i64 0, .int .i64 0] 52) (Obj.cells #[.int .i64 0, .int .i64 0, .int .i64 0] 52) (Obj.cells #[.string s, .int .i64 0] 61)
    have m3 := below_three w (Obj.cells #[.int .i64 0, .int .i64 0, .int .i64 0] 52) (Obj.cells #[.int .i64 0, .int .i64 0, .int .i64 0] 52) (Obj.cells #[.string s, .int .i64 0] 61)
    rw [Hb.out] at m2
    rw [He.out] at m1
    rw [Hr.out] at m0 m3
    rw [Hb.out, He.out, Hr.out]
    exact Code.wp_mono (jumps_less (by omega)) (h0 1100 _ _ ⟨⟨_, _, _, _, _, _, _, _, _, _, _, _, _, _, _, _, _, _, _, _, _, _, _, _, _, _, _, _, _, _, _, _, _, _, _, _, _, _, _, _, _, _, _, _, _, _, _, _, _, _, _, _, _, _, _, _, _, _, rfl⟩, 0, 0, 0, 0, Nat.zero_le _, ⟨m0, m1, m2, m3⟩, rfl, Nat.zero_le _, rfl⟩ _ rfl)
end Go.Proofs.Ytbekjlinnbmpgaa.Kw
