/- A tag as bytes: plain, and the program's. -/
import Derived.Test.YtgidjfhlooggkaaGa
import Derived.Deep.AppendLies
import Derived.Deep.OwnRows
import Derived.Lib.UnsafeStr
namespace Go.Proofs.Ytgidjfhlooggkaa.Gb
set_option linter.unusedVariables false
set_option linter.unusedSimpArgs false
open Go.RowKit Kb Ga
theorem infoB : (Try.prog.info? 5).map (fun i => (i.zero, i.size, i.bytes)) = some (some (.int .u8 0), 1, 1) := by kernel_rfl
theorem grow_step {base e n : Nat} {x y : World} {v : Value} {xs : List Value} {o : Obj} (hb : base ≤ x.heap.size) (ho : x.ownsRow base e 1 v n xs) (g : (x.alloc o).grownBy y v.ownBlock) : Below base x y :=
  ((Below.refl base x).alloc hb o).grown g (by simp; omega) fun k hk => (ho.lt k hk).1
/-- the one row that may have turned, and where the new one lies -/
structure Gr (w w' : World) (v v' : Value) : Prop where
  grown : w.grownBy w' v.ownBlock
  at_ : ∀ k, v'.ownBlock = some k → v.ownBlock = some k ∨ w.heap.size ≤ k
theorem Gr.refl (w : World) (v : Value) : Gr w w v v := ⟨⟨rfl, rfl, rfl, Nat.le_refl _, fun _ _ _ => rfl⟩, fun k h => .inl h⟩
theorem Gr.trans {a b c : World} {u v x : Value} (h : Gr a b u v) (k : Gr b c v x) : Gr a c u x :=
  ⟨⟨k.1.os.trans h.1.os, k.1.tape.trans h.1.tape, k.1.output.trans h.1.output, Nat.le_trans h.1.size k.1.size, fun i hi hne => (k.1.block i (Nat.lt_of_lt_of_le hi h.1.size) (fun e => by
      rcases h.2 i e.symm with e2 | e2
      · exact hne e2.symm
      · omega)).trans (h.1.block i hi hne)⟩,
   fun i hi => by
      rcases k.2 i hi with e2 | e2
      · exact h.2 i e2
      · exact .inr (Nat.le_trans h.1.size e2)⟩
theorem gr_step {x y : World} {v : Value} {o : Obj} {g n c : Nat} (gr : (x.alloc o).grownBy y v.ownBlock) (hat : v.ownBlock = some g ∨ g = x.heap.size + 1) : Gr x y v (.slice (some ⟨g, 0, none⟩) n c) :=
  ⟨⟨gr.os, gr.tape, gr.output, Nat.le_trans (by simp) gr.size, fun i hi hne => (gr.block i (by simp; omega) hne).trans (Below.heap_alloc x o i hi)⟩, fun k hk => by
    simp only [Value.ownBlock, Option.some.injEq] at hk
    subst hk
    rcases hat with h | h
    · exact .inl h
    · exact .inr (by omega)⟩
theorem Gr.below {w w' : World} {v v' : Value} {base e s n : Nat} {xs : List Value} (h : Gr w w' v v') (ho : w.ownsRow base e s v n xs) (hb : base ≤ w.heap.size) : Below base w w' :=
  (Below.refl base w).grown h.1 hb fun k hk => (ho.lt k hk).1
/-- a number as a byte -/
def b8 (x : Int) : UInt8 := UInt8.ofNat (x % 256).toNat
theorem b8_val (x : Int) : ((b8 x).toNat : Int) = x % 256 := by
  unfold b8
  rw [UInt8.toNat_ofNat_of_lt' (by show (x % 256).toNat < 256; omega)]
  omega
/-- a tag as bytes -/
def tgB (t : Int) : List UInt8 := if tgS t = 1 then [b8 t] else if tgS t = 2 then [b8 (t / 256), b8 t] else if tgS t = 3 then [b8 (t / 65536), b8 (t / 256), b8 t] else []
set_option maxRecDepth 100000 in
theorem appendTag_gr (t : Int) (v : Value) (bs : List UInt8) (n base : Nat) (w : World) (ht : t ≤ 9223372036854775807) (hn : n ≤ 1073741824) (hb : base ≤ w.heap.size) (ho : w.ownsRow base 5 1 v n (Lib.byteCells bs)) :
    Calls Try.prog 76 #[v, .int .i64 t] w fun e w' => ∃ v', e = .returned v' ∧ w'.ownsRow base 5 1 v' (n + (tgB t).length) (Lib.byteCells (bs ++ tgB t)) ∧ Below base w w' ∧ Gr w w' v v' := by
  obtain ⟨ia, hia, hza0, hza1, hza2⟩ := info_parts infoB
  have ts := fun x => tagSize_any t x ht
  have HO : Hid (w.ownsRow base 5 1 v n (Lib.byteCells bs)) := ho
  clear ho
  have hc : tgS t = 0 ∨ tgS t = 1 ∨ tgS t = 2 ∨ tgS t = 3 := by
    unfold tgS
    split
    · exact .inl rfl
    · split
      · exact .inr (.inl rfl)
      · split
        · exact .inr (.inr (.inl rfl))
        · split
          · exact .inr (.inr (.inr rfl))
          · exact .inl rfl
  rcases hc with h | h | h | h
  · rw [h] at ts
    have e : tgB t = [] := by unfold tgB; rw [h]; rfl
    rw [e, List.append_nil]
    go_enter Try.func76, Try.ntmps76
    go_wp2_with fail
    refine (ts _).mono ?_
    rintro e x ⟨rfl, rfl⟩
    go_wp2_with fail
    refine wp_loop_rounds 1 ?_
    rw [rounds_succ]
    go_wp2_with fail
    go_ret
    exact ⟨_, rfl, HO.out, Below.refl _ _, Gr.refl _ _⟩
  · rw [h] at ts
    have e : tgB t = [b8 t] := by unfold tgB; rw [h]; rfl
    rw [e]
    clear e
    go_enter Try.func76, Try.ntmps76
    go_wp2_with fail
    refine (ts _).mono ?_
    rintro e x ⟨rfl, rfl⟩
    go_wp2_with fail
    refine wp_loop_rounds 2 ?_
    rw [rounds_succ]
    go_wp2_with (at_builtin; refine wpList_append_lies _ rfl _ _ _ rfl base 5 ia _ 1 1 Try.underlying81 hia hza0 hza1 hza2 rfl (by omega) _ (n) _ rfl (HO.out.alloc _) ⟨x.heap.size, 0, Option.none⟩ 1 1 _ rfl (by rfl) (World.news_of_block (heap_alloc_new x _)) (by simp [Value.oneCell']) (by omega) (by unfold maxLen; omega) (by omega) (by first | omega | (simp <;> omega)) (x.heap.size + 1) (by simp) ?_; intro g1 c1 w1 own1 gr1 hat1 hlt1; have G1 := (show Gr _ _ _ (.slice (some ⟨g1, 0, Option.none⟩) (n + 1) c1) from gr_step gr1 hat1); have B1 : Below base x w1 := (Below.refl _ _).trans (grow_step hb HO.out gr1); have hs1 : base ≤ w1.heap.size := Nat.le_trans hb B1.size; replace own1 : Hid (World.ownsRow _ _ _ _ _ _ _) := own1; clear gr1 hat1 hlt1)
    rw [rounds_succ]
    go_wp2_with fail
    go_ret
    refine ⟨_, rfl, ?_, B1, G1⟩
    have := own1.out
    try simp only [List.append_assoc, List.cons_append, List.nil_append] at this
    rw [Lib.byteCells_append]
    simp only [Lib.byteCells, List.map_cons, List.map_nil, b8_val] at this ⊢
    exact this
  · rw [h] at ts
    have e : tgB t = [b8 (t / 256), b8 t] := by unfold tgB; rw [h]; rfl
    rw [e]
    clear e
    go_enter Try.func76, Try.ntmps76
    go_wp2_with fail
    refine (ts _).mono ?_
    rintro e x ⟨rfl, rfl⟩
    go_wp2_with fail
    refine wp_loop_rounds 3 ?_
    rw [rounds_succ]
    go_wp2_with (at_builtin; refine wpList_append_lies _ rfl _ _ _ rfl base 5 ia _ 1 1 Try.underlying81 hia hza0 hza1 hza2 rfl (by omega) _ (n) _ rfl (HO.out.alloc _) ⟨x.heap.size, 0, Option.none⟩ 1 1 _ rfl (by rfl) (World.news_of_block (heap_alloc_new x _)) (by simp [Value.oneCell']) (by omega) (by unfold maxLen; omega) (by omega) (by first | omega | (simp <;> omega)) (x.heap.size + 1) (by simp) ?_; intro g1 c1 w1 own1 gr1 hat1 hlt1; have G1 := (show Gr _ _ _ (.slice (some ⟨g1, 0, Option.none⟩) (n + 1) c1) from gr_step gr1 hat1); have B1 : Below base x w1 := (Below.refl _ _).trans (grow_step hb HO.out gr1); have hs1 : base ≤ w1.heap.size := Nat.le_trans hb B1.size; replace own1 : Hid (World.ownsRow _ _ _ _ _ _ _) := own1; clear gr1 hat1 hlt1)
    rw [rounds_succ]
    go_wp2_with (at_builtin; refine wpList_append_lies _ rfl _ _ _ rfl base 5 ia _ 1 1 Try.underlying81 hia hza0 hza1 hza2 rfl (by omega) _ (n + 1) _ rfl (own1.out.alloc _) ⟨w1.heap.size, 0, Option.none⟩ 1 1 _ rfl (by rfl) (World.news_of_block (heap_alloc_new w1 _)) (by simp [Value.oneCell']) (by omega) (by unfold maxLen; omega) (by omega) (by first | omega | (simp <;> omega)) (w1.heap.size + 1) (by simp) ?_; intro g2 c2 w2 own2 gr2 hat2 hlt2; have G2 := G1.trans (show Gr _ _ _ (.slice (some ⟨g2, 0, Option.none⟩) (n + 1 + 1) c2) from gr_step gr2 hat2); have B2 : Below base x w2 := B1.trans (grow_step (Nat.le_trans hb B1.size) own1.out gr2); have hs2 : base ≤ w2.heap.size := Nat.le_trans hb B2.size; replace own2 : Hid (World.ownsRow _ _ _ _ _ _ _) := own2; clear gr2 hat2 hlt2)
    rw [rounds_succ]
    go_wp2_with fail
    go_ret
    refine ⟨_, rfl, ?_, B2, G2⟩
    have := own2.out
    try simp only [List.append_assoc, List.cons_append, List.nil_append] at this
    rw [Lib.byteCells_append]
    simp only [Lib.byteCells, List.map_cons, List.map_nil, b8_val] at this ⊢
    exact this
  · rw [h] at ts
    have e : tgB t = [b8 (t / 65536), b8 (t / 256), b8 t] := by unfold tgB; rw [h]; rfl
    rw [e]
    clear e
    go_enter Try.func76, Try.ntmps76
    go_wp2_with fail
    refine (ts _).mono ?_
    rintro e x ⟨rfl, rfl⟩
    go_wp2_with fail
    refine wp_loop_rounds 4 ?_
    rw [rounds_succ]
    go_wp2_with (at_builtin; refine wpList_append_lies _ rfl _ _ _ rfl base 5 ia _ 1 1 Try.underlying81 hia hza0 hza1 hza2 rfl (by omega) _ (n) _ rfl (HO.out.alloc _) ⟨x.heap.size, 0, Option.none⟩ 1 1 _ rfl (by rfl) (World.news_of_block (heap_alloc_new x _)) (by simp [Value.oneCell']) (by omega) (by unfold maxLen; omega) (by omega) (by first | omega | (simp <;> omega)) (x.heap.size + 1) (by simp) ?_; intro g1 c1 w1 own1 gr1 hat1 hlt1; have G1 := (show Gr _ _ _ (.slice (some ⟨g1, 0, Option.none⟩) (n + 1) c1) from gr_step gr1 hat1); have B1 : Below base x w1 := (Below.refl _ _).trans (grow_step hb HO.out gr1); have hs1 : base ≤ w1.heap.size := Nat.le_trans hb B1.size; replace own1 : Hid (World.ownsRow _ _ _ _ _ _ _) := own1; clear gr1 hat1 hlt1)
    rw [rounds_succ]
    go_wp2_with (at_builtin; refine wpList_append_lies _ rfl _ _ _ rfl base 5 ia _ 1 1 Try.underlying81 hia hza0 hza1 hza2 rfl (by omega) _ (n + 1) _ rfl (own1.out.alloc _) ⟨w1.heap.size, 0, Option.none⟩ 1 1 _ rfl (by rfl) (World.news_of_block (heap_alloc_new w1 _)) (by simp [Value.oneCell']) (by omega) (by unfold maxLen; omega) (by omega) (by first | omega | (simp <;> omega)) (w1.heap.size + 1) (by simp) ?_; intro g2 c2 w2 own2 gr2 hat2 hlt2; have G2 := G1.trans (show Gr _ _ _ (.slice (some ⟨g2, 0, Option.none⟩) (n + 1 + 1) c2) from gr_step gr2 hat2); have B2 : Below base x w2 := B1.trans (grow_step (Nat.le_trans hb B1.size) own1.out gr2); have hs2 : base ≤ w2.heap.size := Nat.le_trans hb B2.size; replace own2 : Hid (World.ownsRow _ _ _ _ _ _ _) := own2; clear gr2 hat2 hlt2)
    rw [rounds_succ]
    go_wp2_with (at_builtin; refine wpList_append_lies _ rfl _ _ _ rfl base 5 ia _ 1 1 Try.underlying81 hia hza0 hza1 hza2 rfl (by omega) _ (n + 1 + 1) _ rfl (own2.out.alloc _) ⟨w2.heap.size, 0, Option.none⟩ 1 1 _ rfl (by rfl) (World.news_of_block (heap_alloc_new w2 _)) (by simp [Value.oneCell']) (by omega) (by unfold maxLen; omega) (by omega) (by first | omega | (simp <;> omega)) (w2.heap.size + 1) (by simp) ?_; intro g3 c3 w3 own3 gr3 hat3 hlt3; have G3 := G2.trans (show Gr _ _ _ (.slice (some ⟨g3, 0, Option.none⟩) (n + 1 + 1 + 1) c3) from gr_step gr3 hat3); have B3 : Below base x w3 := B2.trans (grow_step (Nat.le_trans hb B2.size) own2.out gr3); have hs3 : base ≤ w3.heap.size := Nat.le_trans hb B3.size; replace own3 : Hid (World.ownsRow _ _ _ _ _ _ _) := own3; clear gr3 hat3 hlt3)
    rw [rounds_succ]
    go_wp2_with fail
    go_ret
    refine ⟨_, rfl, ?_, B3, G3⟩
    have := own3.out
    try simp only [List.append_assoc, List.cons_append, List.nil_append] at this
    rw [Lib.byteCells_append]
    simp only [Lib.byteCells, List.map_cons, List.map_nil, b8_val] at this ⊢
    exact this
theorem appendTag_any (t : Int) (v : Value) (bs : List UInt8) (n base : Nat) (w : World) (ht : t ≤ 9223372036854775807) (hn : n ≤ 1073741824) (hb : base ≤ w.heap.size) (ho : w.ownsRow base 5 1 v n (Lib.byteCells bs)) :
    Calls Try.prog 76 #[v, .int .i64 t] w fun e w' => ∃ v', e = .returned v' ∧ w'.ownsRow base 5 1 v' (n + (tgB t).length) (Lib.byteCells (bs ++ tgB t)) ∧ Below base w w' := by
  refine (appendTag_gr t v bs n base w ht hn hb ho).mono ?_
  rintro e x ⟨v', h0, h1, h2, _⟩
  exact ⟨v', h0, h1, h2⟩
end Go.Proofs.Ytgidjfhlooggkaa.Gb
