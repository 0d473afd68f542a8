/- Marked tags; lengths as bytes. -/
import Derived.Test.YtgidjfhlooggkaaGb
namespace Go.Proofs.Ytgidjfhlooggkaa.Gc
set_option linter.unusedVariables false
set_option linter.unusedSimpArgs false
open Go.RowKit Kb Ga Gb
/-- does a tag stand for a node with kids? -/
def mkB : List UInt8 → Bool
  | [] => false
  | c :: _ => c.toNat / 32 % 2 == 1
def mkd (t : Int) : Bool := mkB (tgB t)
theorem and32_fin : ∀ c : Fin 256, (bits .and .u8 (c.val : Int) 32 == 0) = !(c.val / 32 % 2 == 1) := by decide +kernel
theorem and32 (c : UInt8) : (bits .and .u8 (c.toNat : Int) 32 == 0) = !(c.toNat / 32 % 2 == 1) := and32_fin ⟨c.toNat, c.toNat_lt⟩
theorem own_form {w : World} {base e n : Nat} {v : Value} {xs : List Value} (h : w.ownsRow base e 1 v n xs) : ∃ o cap, v = .slice o n cap := by
  rcases h.2 with ⟨rfl, rfl⟩ | ⟨g, cap, cur, rfl, _⟩
  · exact ⟨_, _, rfl⟩
  · exact ⟨_, _, rfl⟩
set_option maxRecDepth 100000 in
theorem marked_any (t : Int) (w : World) (ht : t ≤ 9223372036854775807) :
    Calls Try.prog 58 #[.int .i64 t] w fun e w' => e = .returned (.bool (mkd t)) ∧ Below w.heap.size w w' := by
  have ca := appendTag_any t (.slice none 0 0) [] 0 w.heap.size w ht (by omega) (Nat.le_refl _) ⟨rfl, .inl ⟨rfl, rfl⟩⟩
  rw [List.nil_append, Nat.zero_add] at ca
  unfold mkd
  cases hb : tgB t with
  | nil =>
    rw [hb] at ca
    rw [show mkB [] = false from rfl]
    go_enter Try.func58, Try.ntmps58
    go_wp2_with fail
    refine ca.mono ?_
    rintro e x ⟨v', rfl, ho, hB⟩
    obtain ⟨o, cap, rfl⟩ := own_form ho
    rw [show ([] : List UInt8).length = 0 from rfl]
    clear ca ho
    go_wp2_with fail
    go_ret
    exact ⟨rfl, hB⟩
  | cons c r =>
    rw [hb] at ca
    have hm := and32 c
    have HM : mkB (c :: r) = (c.toNat / 32 % 2 == 1) := rfl
    have fin : ∀ (q : Bool), (bits .and .u8 (c.toNat : Int) 32 != 0) = q → Calls Try.prog 58 #[.int .i64 t] w fun e w' => e = .returned (.bool q) ∧ Below w.heap.size w w' := by
      intro q hq
      clear hm HM hb
      go_enter Try.func58, Try.ntmps58
      go_wp2_with fail
      refine ca.mono ?_
      rintro e x ⟨v', rfl, ho, hB⟩
      obtain ⟨g, cap, rfl, _, _⟩ := ho.form (by simp)
      have c0 : x.cell? ⟨g, 0, none⟩ = some (.int .u8 (c.toNat : Int)) := ho.cells (g := g) rfl 0 (.int .u8 (c.toNat : Int)) (by simp [Lib.byteCells])
      obtain ⟨N, hN⟩ : ∃ N, (c :: r).length = N := ⟨_, rfl⟩
      rw [hN]
      have n0 : (0 : Int) < (N : Int) := by rw [← hN]; simp
      clear ca ho hN
      cases q
      · go_wp2_with fail
        go_ret
        exact ⟨rfl, hB⟩
      · go_wp2_with fail
        go_ret
        exact ⟨rfl, hB⟩
    refine fin _ ?_
    rw [bne, hm, HM, Bool.not_not]
/-- a length as bytes -/
def lnB (n : Int) : List UInt8 := if n ≤ 127 then [b8 n] else if n ≤ 255 then [129, b8 n] else [130, b8 (n / 256), b8 n]
theorem byte_one (x : UInt8) (v : Int) (h : (x.toNat : Int) = v) : Lib.byteCells [x] = [.int .u8 v] := by rw [← h]; rfl
set_option maxRecDepth 100000 in
theorem appendLength_gr (t : Int) (v : Value) (bs : List UInt8) (n base : Nat) (w : World) (ht0 : 0 ≤ t) (ht : t ≤ 65535) (hn : n ≤ 1073741824) (hb : base ≤ w.heap.size) (ho : w.ownsRow base 5 1 v n (Lib.byteCells bs)) :
    Calls Try.prog 77 #[v, .int .i64 t] w fun e w' => ∃ v', e = .returned v' ∧ w'.ownsRow base 5 1 v' (n + (lnB t).length) (Lib.byteCells (bs ++ lnB t)) ∧ Below base w w' ∧ Gr w w' v v' := by
  obtain ⟨ia, hia, hza0, hza1, hza2⟩ := info_parts infoB
  have ts := fun x => lengthSize_any t x
  have HO : Hid (w.ownsRow base 5 1 v n (Lib.byteCells bs)) := ho
  clear ho
  by_cases h0 : t ≤ 127
  · have e : lnB t = [b8 t] := by unfold lnB; rw [if_pos h0]
    rw [e]
    rw [show lnS t = 1 by unfold lnS; rw [if_pos h0]] at ts
    clear e h0
    go_enter Try.func77, Try.ntmps77
    go_wp2_with fail
    refine (ts _).mono ?_
    rintro e x ⟨rfl, rfl⟩
    go_wp2_with (at_builtin; refine wpList_append_lies _ rfl _ _ _ rfl base 5 ia _ 1 1 Try.underlying81 hia hza0 hza1 hza2 rfl (by omega) _ (n) _ rfl (HO.out.alloc _) ⟨x.heap.size, 0, Option.none⟩ 1 1 _ rfl (by rfl) (World.news_of_block (heap_alloc_new x _)) (by simp [Value.oneCell']) (by omega) (by unfold maxLen; omega) (by omega) (by first | omega | (simp <;> omega)) (x.heap.size + 1) (by simp) ?_; intro g1 c1 w1 own1 gr1 hat1 hlt1; have G1 := (show Gr _ _ _ (.slice (some ⟨g1, 0, Option.none⟩) (n + 1) c1) from gr_step gr1 hat1); have B1 : Below base x w1 := (Below.refl _ _).trans (grow_step hb HO.out gr1); have hs1 : base ≤ w1.heap.size := Nat.le_trans hb B1.size; replace own1 : Hid (World.ownsRow _ _ _ _ _ _ _) := own1; clear gr1 hat1 hlt1)
    go_ret
    refine ⟨_, rfl, ?_, B1, G1⟩
    have := own1.out
    rw [Lib.byteCells_append]
    simp only [Lib.byteCells, List.map_cons, List.map_nil, b8_val] at this ⊢
    exact this
  · by_cases h1 : t ≤ 255
    · have e : lnB t = [129, b8 t] := by unfold lnB; rw [if_neg h0, if_pos h1]
      rw [e]
      rw [show lnS t = 2 by unfold lnS; rw [if_neg h0, if_pos h1]] at ts
      clear e h0 h1
      go_enter Try.func77, Try.ntmps77
      go_wp2_with fail
      refine (ts _).mono ?_
      rintro e x ⟨rfl, rfl⟩
      go_wp2_with (first | (at_builtin; refine wpList_append_lies _ rfl _ _ _ rfl base 5 ia _ 1 1 Try.underlying81 hia hza0 hza1 hza2 rfl (by omega) _ (n) _ rfl (HO.out.alloc _) ⟨x.heap.size, 0, Option.none⟩ 1 1 _ rfl (by rfl) (World.news_of_block (heap_alloc_new x _)) (by simp [Value.oneCell']) (by omega) (by unfold maxLen; omega) (by omega) (by first | omega | (simp <;> omega)) (x.heap.size + 1) (by simp) ?_; intro g1 c1 w1 own1 gr1 hat1 hlt1; have G1 := (show Gr _ _ _ (.slice (some ⟨g1, 0, Option.none⟩) (n + 1) c1) from gr_step gr1 hat1); have B1 : Below base x w1 := (Below.refl _ _).trans (grow_step hb HO.out gr1); have hs1 : base ≤ w1.heap.size := Nat.le_trans hb B1.size; replace own1 : Hid (World.ownsRow _ _ _ _ _ _ _) := own1; clear gr1 hat1 hlt1) | (at_builtin; refine wpList_append_lies _ rfl _ _ _ rfl base 5 ia _ 1 1 Try.underlying81 hia hza0 hza1 hza2 rfl (by omega) _ (n + 1) _ rfl (own1.out.alloc _) ⟨w1.heap.size, 0, Option.none⟩ 1 1 _ rfl (by rfl) (World.news_of_block (heap_alloc_new w1 _)) (by simp [Value.oneCell']) (by omega) (by unfold maxLen; omega) (by omega) (by first | omega | (simp <;> omega)) (w1.heap.size + 1) (by simp) ?_; intro g2 c2 w2 own2 gr2 hat2 hlt2; have G2 := G1.trans (show Gr _ _ _ (.slice (some ⟨g2, 0, Option.none⟩) (n + 1 + 1) c2) from gr_step gr2 hat2); have B2 : Below base x w2 := B1.trans (grow_step (Nat.le_trans hb B1.size) own1.out gr2); have hs2 : base ≤ w2.heap.size := Nat.le_trans hb B2.size; replace own2 : Hid (World.ownsRow _ _ _ _ _ _ _) := own2; clear gr2 hat2 hlt2))
      go_ret
      refine ⟨_, rfl, ?_, B2, G2⟩
      have := own2.out
      rw [Lib.byteCells_append]
      simp only [List.append_assoc, List.cons_append, List.nil_append] at this
      simp only [Lib.byteCells, List.map_cons, List.map_nil, b8_val] at this ⊢
      exact this
    · have e : lnB t = [130, b8 (t / 256), b8 t] := by unfold lnB; rw [if_neg h0, if_neg h1]
      rw [e]
      rw [show lnS t = 3 by unfold lnS; rw [if_neg h0, if_neg h1]] at ts
      clear e h0 h1
      go_enter Try.func77, Try.ntmps77
      go_wp2_with fail
      refine (ts _).mono ?_
      rintro e x ⟨rfl, rfl⟩
      go_wp2_with (first | (at_builtin; refine wpList_append_lies _ rfl _ _ _ rfl base 5 ia _ 1 1 Try.underlying81 hia hza0 hza1 hza2 rfl (by omega) _ (n) _ rfl (HO.out.alloc _) ⟨x.heap.size, 0, Option.none⟩ 2 2 _ rfl (by rfl) (World.news_of_block (heap_alloc_new x _)) (by simp [Value.oneCell']) (by omega) (by unfold maxLen; omega) (by omega) (by first | omega | (simp <;> omega)) (x.heap.size + 1) (by simp) ?_; intro g1 c1 w1 own1 gr1 hat1 hlt1; have G1 := (show Gr _ _ _ (.slice (some ⟨g1, 0, Option.none⟩) (n + 2) c1) from gr_step gr1 hat1); have B1 : Below base x w1 := (Below.refl _ _).trans (grow_step hb HO.out gr1); have hs1 : base ≤ w1.heap.size := Nat.le_trans hb B1.size; replace own1 : Hid (World.ownsRow _ _ _ _ _ _ _) := own1; clear gr1 hat1 hlt1) | (at_builtin; refine wpList_append_lies _ rfl _ _ _ rfl base 5 ia _ 1 1 Try.underlying81 hia hza0 hza1 hza2 rfl (by omega) _ (n + 2) _ rfl (own1.out.alloc _) ⟨w1.heap.size, 0, Option.none⟩ 1 1 _ rfl (by rfl) (World.news_of_block (heap_alloc_new w1 _)) (by simp [Value.oneCell']) (by omega) (by unfold maxLen; omega) (by omega) (by first | omega | (simp <;> omega)) (w1.heap.size + 1) (by simp) ?_; intro g2 c2 w2 own2 gr2 hat2 hlt2; have G2 := G1.trans (show Gr _ _ _ (.slice (some ⟨g2, 0, Option.none⟩) (n + 2 + 1) c2) from gr_step gr2 hat2); have B2 : Below base x w2 := B1.trans (grow_step (Nat.le_trans hb B1.size) own1.out gr2); have hs2 : base ≤ w2.heap.size := Nat.le_trans hb B2.size; replace own2 : Hid (World.ownsRow _ _ _ _ _ _ _) := own2; clear gr2 hat2 hlt2))
      go_ret
      refine ⟨_, rfl, ?_, B2, G2⟩
      have := own2.out
      rw [Lib.byteCells_append]
      simp only [List.append_assoc, List.cons_append, List.nil_append] at this
      simp only [Lib.byteCells, List.map_cons, List.map_nil, b8_val] at this ⊢
      rw [show t / 256 % 256 = t / 256 by omega]
      exact this
theorem appendLength_any (t : Int) (v : Value) (bs : List UInt8) (n base : Nat) (w : World) (ht0 : 0 ≤ t) (ht : t ≤ 65535) (hn : n ≤ 1073741824) (hb : base ≤ w.heap.size) (ho : w.ownsRow base 5 1 v n (Lib.byteCells bs)) :
    Calls Try.prog 77 #[v, .int .i64 t] w fun e w' => ∃ v', e = .returned v' ∧ w'.ownsRow base 5 1 v' (n + (lnB t).length) (Lib.byteCells (bs ++ lnB t)) ∧ Below base w w' := by
  refine (appendLength_gr t v bs n base w ht0 ht hn hb ho).mono ?_
  rintro e x ⟨v', h0, h1, h2, _⟩
  exact ⟨v', h0, h1, h2⟩
end Go.Proofs.Ytgidjfhlooggkaa.Gc
