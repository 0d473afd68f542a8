/- All: an iterator over a journal's entries. -/
import Derived.Test.YtabmpngliphdpaaDoorKk
namespace Go.Proofs.YtabmpngliphdpaaDoor.Kl
set_option linter.unusedVariables false
set_option linter.unusedSimpArgs false
open Go.RowKit Go.Shelf Go.Conc Lib0 Kb Ja Jl Jn Jp Jq Jr Ju Jg Bj Ka Jx Jy Kc Kg Kk
attribute [local go_sem] Oper.semAt_some
section
variable {F : Fence} {n : Nat} {P : Program} {ops : Array Oper} {rest : List Oper} {o : Oper} {a : Act} {w : World} {Q : Exit → Act → World → Prop}
theorem wpListIn_store_row (hgd : o.guard = none) (ty : TypeId) (x y : Operand) (ho : o.op = .store ty x y) (g : Nat) (cells : Array Value) (hx : a.eval x = .pointer (some ⟨g, 0, none⟩)) (hy : a.eval y = .agg cells)
    (t : TypeId) (old : Array Value) (hg : w.heap[g]? = some (.cells old t (0, 0))) (hi : (P.info? ty).map (·.size) = some cells.size) (hold : old.size = cells.size) (h1 : cells.all (·.oneCell') = true)
    (h : wpListIn F n P ops Q rest (a.put o.dst undef) (w.setRow g cells)) : wpListIn F n P ops Q (o :: rest) a w := by
  refine wpListIn_plain hgd fun K' hK' => ?_
  unfold Oper.wpIn
  refine ⟨by simp [Oper.about, ho], ?_⟩
  rw [Oper.semAt_plain F _ _ (by rw [ho]; intro c hc; cases hc)]
  unfold execOp
  simp only [ho, hx, hy, Instr.storeAt, Instr.sureAddr, Sem.run_bind, Sem.run_pure, Result.andThen_ok, run_storeVar_row w g t ty old cells hg hi hold h1]
  exact hK' _ _ h
theorem wpListIn_load_row (hgd : o.guard = none) (ty : TypeId) (x : Operand) (ho : o.op = .load ty x) (g : Nat) (hx : a.eval x = .pointer (some ⟨g, 0, none⟩)) (t : TypeId) (cs : Array Value) (fr : Nat × Nat) (d : TypeDesc) (hg : w.heap[g]? = some (.cells cs t fr))
    (hu : P.underlying ty = some d) (hd : (match d with | .struct _ | .array _ _ => true | _ => false) = true) (hi : (P.info? ty).map (·.size) = some cs.size)
    (h : wpListIn F n P ops Q rest (a.put o.dst (.agg cs)) w) : wpListIn F n P ops Q (o :: rest) a w := by
  refine wpListIn_plain hgd fun K' hK' => ?_
  unfold Oper.wpIn
  refine ⟨by simp [Oper.about, ho], ?_⟩
  rw [Oper.semAt_plain F _ _ (by rw [ho]; intro c hc; cases hc)]
  unfold execOp
  simp only [ho, hx, Instr.loadAt, Instr.sureAddr, Sem.run_bind, Sem.run_pure, Result.andThen_ok, run_loadVar_row w g t ty cs fr d hg hu hd hi]
  exact hK' _ _ h
theorem wpListIn_load_at (hgd : o.guard = none) (ty : TypeId) (x : Operand) (ho : o.op = .load ty x) (p : Addr) (hx : a.eval x = .pointer (some p)) (cs : List Value) (hc : ∀ j v, cs[j]? = some v → w.cell? (p.add j) = some v) (d : TypeDesc) (hu : P.underlying ty = some d) (hd : d.isRow = true) (hi : (P.info? ty).map (·.size) = some cs.length)
    (h : wpListIn F n P ops Q rest (a.put o.dst (.agg cs.toArray)) w) : wpListIn F n P ops Q (o :: rest) a w := by
  refine wpListIn_plain hgd fun K' hK' => ?_
  unfold Oper.wpIn
  refine ⟨by simp [Oper.about, ho], ?_⟩
  rw [Oper.semAt_plain F _ _ (by rw [ho]; intro c hc; cases hc)]
  unfold execOp
  simp only [ho, hx, Instr.loadAt, Instr.sureAddr, Sem.run_bind, Sem.run_pure, Result.andThen_ok, Ke.run_loadVar_at (P := P) w p ty cs d hc hu hd hi]
  exact hK' _ _ h
end
/-- the bodies of the records at the beginning of bytes -/
def bods (l : List UInt8) : Nat → Nat → Nat → List (List UInt8)
  | 0, _, _ => []
  | f + 1, a, n => match rcd (l.drop a) ((n : Int) + 1) with
    | some z => ((l.drop a).drop 8).take z :: bods l f (a + (12 + z)) (n + 1)
    | none => []
theorem bods_none {l : List UInt8} {f a n : Nat} (h : rcd (l.drop a) ((n : Int) + 1) = none) : bods l (f + 1) a n = [] := by rw [bods, h]
theorem bods_some {l : List UInt8} {f a n z : Nat} (h : rcd (l.drop a) ((n : Int) + 1) = some z) : bods l (f + 1) a n = ((l.drop a).drop 8).take z :: bods l f (a + (12 + z)) (n + 1) := by rw [bods, h]
theorem bods_fuel (l : List UInt8) : ∀ f g a n, a ≤ l.length → l.length - a < f → l.length - a < g → bods l f a n = bods l g a n
  | 0, g, a, n, ha, hf, hg => by omega
  | f + 1, 0, a, n, ha, hf, hg => by omega
  | f + 1, g + 1, a, n, ha, hf, hg => by
    cases h : rcd (l.drop a) ((n : Int) + 1) with
    | none => rw [bods_none h, bods_none h]
    | some z =>
      have := rcd_fit h
      rw [bods_some h, bods_some h, bods_fuel l f g _ _ this (by omega) (by omega)]
/-- all of them -/
def bodies (l : List UInt8) : List (List UInt8) := bods l (l.length + 1) 0 0
theorem bods_step {l : List UInt8} {a n z : Nat} (h : rcd (l.drop a) ((n : Int) + 1) = some z) (ha : a ≤ l.length) : bods l (l.length + 1) a n = ((l.drop a).drop 8).take z :: bods l (l.length + 1) (a + (12 + z)) (n + 1) := by
  have := rcd_fit h
  rw [bods_some h, bods_fuel l _ (l.length + 1) _ _ (by omega) (by omega) (by omega)]
/-- what the iterator leans on: cutters and records stay through a round -/
def KpC (Kp : World → World → Prop) : Prop := ∀ {A A' : World} {k : Nat} {c : Array Value} {t : TypeId}, Kp A A' → (t = tCu ∨ t = tRe) → A.heap[k]? = some (.cells c t (0, 0)) → A'.heap[k]? = some (.cells c t (0, 0))
/-- an entry that the iterator is about to tell: its record in a block, its outputs in new memory -/
structure Hd (B : Nat) (wr : World) (q : Nat) (k : Nat) (x : List UInt8) (v : Value) : Prop where
  row : ∃ R, wr.heap[q]? = some (.cells (#[.int .i64 (k : Int)] ++ Jo.evV (some x) ++ #[v, .string R]) tRe (0, 0))
  own : ∃ M, wr.ownsRow B 85 5 v M (osV (Jo.evR (some x)))
/-- what holds at the loop's head -/
structure Ih (L : List (List UInt8)) (B : Nat) (J : List (List UInt8) → World → Prop) (wr : World) (s : ByteArray) (g rc ec : Nat) (rv er : Value) (a k : Nat) (pre : List (List UInt8)) : Prop where
  cu : Cu wr g s a k rc ec
  fit : a ≤ s.size ∧ k ≤ a
  low : B ≤ g ∧ B ≤ rc ∧ B ≤ ec ∧ B ≤ wr.heap.size
  j : J pre wr
  q : ∃ q, rv = .pointer (some ⟨q, 0, none⟩) ∧ q < wr.heap.size ∧ ∃ c, c.size = 7 ∧ wr.heap[q]? = some (.cells c tRe (0, 0)) ∧
    ((er = .nilIface ∧ pre.length + 1 = k ∧ ∃ x v, Hd B wr q k x v ∧ pre ++ x :: bods s.data.toList (s.data.toList.length + 1) a k = L) ∨ ((∃ te pe, er = .iface te pe) ∧ pre = L))
theorem rcC_one (b : ByteArray) (at' n z : Nat) (v : Value) {w : World} {B M : Nat} {xs : List Value} (ho : w.ownsRow B 85 5 v M xs) : (rcC b at' n z v).all (·.oneCell') = true := by
  obtain ⟨o0, c0, rfl⟩ := Bd.owns_sl ho
  simp [rcC, Jo.evV, Value.oneCell']
/-- next, in whichever way -/
theorem next_any {w : World} {g : Nat} {s : ByteArray} {a k rc ec : Nat} (h : Cu w g s a k rc ec) (hL : Lv w) (hs : s.size ≤ 140737488355328) (ha : a ≤ s.size) (hk : k ≤ a) :
    Calls Tryd.prog 47 #[.pointer (some ⟨g, 0, none⟩)] w fun e w' => ∃ c er, e = .returned (.tuple #[.agg c, er]) ∧ c.size = 7 ∧ c.all (·.oneCell') = true ∧ Oc g rc ec w w' ∧
      ∃ a' k', Cu w' g s a' k' rc ec ∧ a' ≤ s.size ∧ k' ≤ a' ∧
        ((er = .nilIface ∧ k' = k + 1 ∧ a < a' ∧ ∃ x v R M, c = #[.int .i64 (k' : Int)] ++ Jo.evV (some x) ++ #[v, .string R] ∧ w'.ownsRow w.heap.size 85 5 v M (osV (Jo.evR (some x))) ∧ bods s.data.toList (s.data.toList.length + 1) a k = x :: bods s.data.toList (s.data.toList.length + 1) a' k') ∨
         ((∃ te pe, er = .iface te pe) ∧ a' = a ∧ k' = k ∧ bods s.data.toList (s.data.toList.length + 1) a k = [])) := by
  have hal : a ≤ s.data.toList.length := by rw [← size_list]; exact ha
  cases hz : rcd (s.data.toList.drop a) ((k : Int) + 1) with
  | some z =>
    refine (next_got h hL.hal hs ha hk hz).mono ?_
    rintro e y ⟨v, M, rfl, hown, hcu, hoc⟩
    have hf := rcd_fit hz
    rw [← size_list] at hf
    exact ⟨_, _, rfl, rfl, rcC_one _ _ _ _ _ hown, hoc, _, _, hcu, hf, by omega, .inl ⟨rfl, rfl, by omega, _, v, _, M, rfl, hown, bods_step hz hal⟩⟩
  | none =>
    have hb := bods_none (f := s.data.toList.length) hz
    by_cases he : a = s.size
    · obtain ⟨p, hp⟩ := hL.err
      refine (next_end h hL.hal hs ha hk hz he hp).mono ?_
      rintro e y ⟨rfl, hcu, hoc⟩
      exact ⟨_, _, rfl, rfl, by simp [rcZ, Value.oneCell'], hoc, _, _, hcu, ha, hk, .inr ⟨⟨_, _, rfl⟩, rfl, rfl, hb⟩⟩
    · refine (next_bad h hL.hal hs ha hk hz (by omega)).mono ?_
      rintro e y ⟨q, hq, rfl, hft, hcu, hoc⟩
      exact ⟨_, _, rfl, rfl, by simp [rcZ, Value.oneCell'], hoc, _, _, hcu, ha, hk, .inr ⟨⟨_, _, rfl⟩, rfl, rfl, hb⟩⟩
theorem below_made {y W2 W3 : World} {o : Obj} {c : Array Value} (h2 : y.alloc o = W2) (h3 : W2.setRow y.heap.size c = W3) : Below y.heap.size y W3 := by
  have hb2 : Below y.heap.size y W2 := h2 ▸ below_one _ _
  exact h3 ▸ ⟨hb2.os, hb2.tape, hb2.output, by have := hb2.size; simpa using this, fun k hk => (setRow_other W2 _ k _ (fun e => by omega)).trans (hb2.block k hk)⟩
theorem ih_made {L : List (List UInt8)} {B : Nat} {J : List (List UInt8) → World → Prop} (hJ : AbJ B J) {y W2 W3 : World} {s : ByteArray} {g rc ec a k : Nat} {c : Array Value} {er : Value} {pre : List (List UInt8)}
    (hcu : Cu y g s a k rc ec) (hfit : a ≤ s.size ∧ k ≤ a) (hlow : B ≤ g ∧ B ≤ rc ∧ B ≤ ec ∧ B ≤ y.heap.size) (hj : J pre y) (hsz : c.size = 7)
    (hcase : (er = .nilIface ∧ pre.length + 1 = k ∧ ∃ x v R M, c = #[.int .i64 (k : Int)] ++ Jo.evV (some x) ++ #[v, .string R] ∧ y.ownsRow B 85 5 v M (osV (Jo.evR (some x))) ∧ pre ++ x :: bods s.data.toList (s.data.toList.length + 1) a k = L) ∨ ((∃ te pe, er = .iface te pe) ∧ pre = L))
    {z : Array Value} (h2 : y.alloc (.cells z tRe) = W2) (h3 : W2.setRow y.heap.size c = W3) : Ih L B J W3 s g rc ec (.pointer (some ⟨y.heap.size, 0, none⟩)) er a k pre := by
  have hb := below_made h2 h3
  have hx2 : W2.heap[y.heap.size]? = some (.cells z tRe (0, 0)) := h2 ▸ h1_0 _ _
  have hx3 : W3.heap[y.heap.size]? = some (.cells c tRe (0, 0)) := h3 ▸ setRow_at hx2 _
  refine ⟨Cu.below hcu hb, hfit, ⟨hlow.1, hlow.2.1, hlow.2.2.1, Nat.le_trans hlow.2.2.2 hb.size⟩, hJ _ _ _ hj (.of_below hb), y.heap.size, rfl, (Array.getElem?_eq_some_iff.1 hx3).1, c, hsz, hx3, ?_⟩
  rcases hcase with ⟨he, hk, x, v, R, M, hc, ho, hl⟩ | h
  · exact .inl ⟨he, hk, x, v, ⟨⟨R, hc ▸ hx3⟩, ⟨M, Bd.owns_keep ho fun p hp => hb.block p (ho.lt p hp).2⟩⟩, hl⟩
  · exact .inr h
theorem ih_stored {L : List (List UInt8)} {B : Nat} {J : List (List UInt8) → World → Prop} (hJ : AbJ B J) {y W3 : World} {s : ByteArray} {g rc ec a k q : Nat} {c c0 : Array Value} {er : Value} {pre : List (List UInt8)}
    (hcu : Cu y g s a k rc ec) (hfit : a ≤ s.size ∧ k ≤ a) (hlow : B ≤ g ∧ B ≤ rc ∧ B ≤ ec ∧ B ≤ y.heap.size) (hj : J pre y) (hsz : c.size = 7) (hq : y.heap[q]? = some (.cells c0 tRe (0, 0))) (hqB : B ≤ q) (hne : q ≠ g ∧ q ≠ rc ∧ q ≠ ec)
    (hcase : (er = .nilIface ∧ pre.length + 1 = k ∧ ∃ x v R M, c = #[.int .i64 (k : Int)] ++ Jo.evV (some x) ++ #[v, .string R] ∧ y.ownsRow B 85 5 v M (osV (Jo.evR (some x))) ∧ pre ++ x :: bods s.data.toList (s.data.toList.length + 1) a k = L) ∨ ((∃ te pe, er = .iface te pe) ∧ pre = L))
    (h3 : y.setRow q c = W3) : Ih L B J W3 s g rc ec (.pointer (some ⟨q, 0, none⟩)) er a k pre := by
  have hx3 : W3.heap[q]? = some (.cells c tRe (0, 0)) := h3 ▸ setRow_at hq _
  have hs3 : W3.heap.size = y.heap.size := by rw [← h3]; simp
  refine ⟨h3 ▸ Cu.row hcu hne.1 hne.2.1 hne.2.2 c, hfit, ⟨hlow.1, hlow.2.1, hlow.2.2.1, by omega⟩, h3 ▸ hJ _ _ _ hj (.of_row hq hqB c), q, rfl, (Array.getElem?_eq_some_iff.1 hx3).1, c, hsz, hx3, ?_⟩
  rcases hcase with ⟨he, hk, x, v, R, M, hc, ho, hl⟩ | h
  · refine .inl ⟨he, hk, x, v, ⟨⟨R, hc ▸ hx3⟩, ⟨M, Bd.owns_keep ho fun p hp => ?_⟩⟩, hl⟩
    rw [← h3]
    refine setRow_other y q p c (fun e => ?_)
    subst e
    rcases ho.2 with ⟨rfl, _⟩ | ⟨g', cap, cur, rfl, _, hg', _⟩
    · cases hp
    · cases hp
      rw [hq] at hg'
      cases hg'
  · exact .inr h
def errM : Value → Nat
  | .nilIface => 1
  | _ => 0
theorem round_wide {n m : Nat} {P : Program} {l : Nat} {f : FuncId} {tmps : Array Value} {assign body : Code} {w : World} {R : Ending → World → Prop} (h : RoundIn Fence.wide n P l f tmps assign body w R) : RoundIn Fence.wide m P l f tmps assign body w R :=
  ⟨h.1, fun c cs _ => h.2 c cs (room_wide _)⟩
set_option maxRecDepth 100000 in
set_option maxHeartbeats 1600000 in
theorem all_goes {Kp : World → World → Prop} (hK : KpC Kp) (n : Nat) (w : World) (B jg : Nat) (pj vj : Value) (l : List UInt8) (nn : Int) (bt : Nat) (hj : Jo w B jg pj vj l nn) (hbt : w.heap[bt]? = some (.cells #[.pointer (some ⟨jg, 0, none⟩)] 28 (0, 0))) (hl : l.length ≤ 140737488355328) :
    SeqJ n Tryd.prog 60 #[.pointer (some ⟨bt, 0, none⟩)] B jg pj vj l nn Kp (bodies l) w := fun l' J Jx W hW hJ hJx hLv hY h0 => by
  have hjW := Bj.Jo.below hj hW
  have c0 : W.cell? ⟨bt, 0, none⟩ = some (.pointer (some ⟨jg, 0, none⟩)) := by simp [World.cell?, kept hW hbt]
  have jl := hjW.lt
  have HJG : Hid (Jo W B jg pj vj l nn) := hjW
  obtain ⟨S, hS⟩ : ∃ S : ByteArray, (⟨l.toArray⟩ : ByteArray) = S := ⟨_, rfl⟩
  have hSl : S.data.toList = l := by rw [← hS]
  have HS : Hid (S.data.toList = l ∧ S.size ≤ 140737488355328) := ⟨hSl, by rw [size_list, hSl]; exact hl⟩
  have HSTR := jstring_any hjW
  rw [hS] at HSTR
  have HST : Hid (Calls _ _ _ _ _) := HSTR
  have HBD : Hid (bods S.data.toList (S.data.toList.length + 1) 0 0 = bodies l) := by show _ = _; rw [hSl]; rfl
  obtain ⟨L, hL⟩ : ∃ L, bodies l = L := ⟨_, rfl⟩
  rw [hL] at HBD hY ⊢
  clear hj hbt hl hjW hS hSl HSTR hL
  refine callsIn_of_wp Tryd.func60 rfl trivial ?_ rfl
  simp only [Tryd.ntmps60, List.size_toArray, List.length_cons, List.length_nil, Nat.reduceAdd, Nat.reduceSub, Array.replicate_succ, Array.replicate_zero, List.push_toArray, List.append_toArray, List.nil_append, List.cons_append, Array.append_empty]
  gi_wp2
  refine ⟨trivial, fun h => by simp [Fence.wide] at h, (callsIn_wide.2 HST.out).mono ?_⟩
  rintro e y ⟨rfl, hjy, hfy⟩
  have HJ0 : Hid (J [] y) := h0 y hfy hjy
  have HYS : Hid (W.heap.size ≤ y.heap.size) := hfy.size
  clear hjy hfy h0 c0
  gi_wp2
  refine ⟨trivial, fun h => by simp [Fence.wide] at h, (callsIn_wide.2 (cutterOf_any S y)).mono ?_⟩
  rintro e y1 ⟨g, rc, ec, rfl, hcu, h1, h2, h3, hb1⟩
  have HJ1 : Hid (J [] y1) := hJ _ _ _ HJ0.out (.of_below hb1)
  have HC1 : Hid (Cu y1 g S 0 0 rc ec) := hcu
  have HLOW : Hid (W.heap.size ≤ g ∧ W.heap.size ≤ rc ∧ W.heap.size ≤ ec ∧ W.heap.size ≤ y1.heap.size) := by have := HYS.out; have := hb1.size; exact ⟨by omega, by omega, by omega, by omega⟩
  have HNX : Hid (Calls _ _ _ _ _) := next_any hcu (hLv _ _ HJ1.out) HS.out.2 (Nat.zero_le _) (Nat.le_refl _)
  clear hcu h1 h2 h3 hb1
  gi_wp2
  refine ⟨trivial, fun h => by simp [Fence.wide] at h, (callsIn_wide.2 HNX.out).mono ?_⟩
  rintro e y2 ⟨c, er, rfl, hsz, h1c, hoc, a', k', hcu2, ha2, hk2, hcase⟩
  have HJ2 : Hid (J [] y2) := hJ _ _ _ HJ1.out (.of_oc HC1.out hoc HLOW.out.1 HLOW.out.2.1 HLOW.out.2.2.1)
  have HLOW2 : Hid (W.heap.size ≤ g ∧ W.heap.size ≤ rc ∧ W.heap.size ≤ ec ∧ W.heap.size ≤ y2.heap.size) := by have h1 := HLOW.out; have := hoc.size; exact ⟨h1.1, h1.2.1, h1.2.2.1, by omega⟩
  obtain ⟨W2, HW2⟩ : ∃ W, Hid (y2.alloc (.cells #[.int .i64 0, .int .i64 0, .int .i64 0, .int .i64 0, .string ⟨#[]⟩, .slice none 0 0, .string ⟨#[]⟩] tRe) = W) := ⟨_, rfl⟩
  have hx2 : W2.heap[y2.heap.size]? = some (.cells rcZ tRe (0, 0)) := HW2.out ▸ h1_0 _ _
  obtain ⟨W3, HW3⟩ : ∃ W, Hid (W2.setRow y2.heap.size c = W) := ⟨_, rfl⟩
  have HIH : Hid (Ih L W.heap.size J W3 S g rc ec (.pointer (some ⟨y2.heap.size, 0, none⟩)) er a' k' []) := by
    refine ih_made hJ hcu2 ⟨ha2, hk2⟩ HLOW2.out HJ2.out hsz ?_ HW2.out HW3.out
    rcases hcase with ⟨he, hk, hlt, x, v, R, M, hc, ho, hbd⟩ | ⟨he, hae, hke, hbd⟩
    · exact .inl ⟨he, by rw [hk]; rfl, x, v, R, M, hc, ho.mono (by have := HLOW.out; omega), by rw [List.nil_append, ← hbd]; exact HBD.out⟩
    · exact .inr ⟨he, by rw [← HBD.out, hbd]⟩
  have zr : (Tryd.prog.info? tRe).map (·.size) = some c.size := by rw [hsz]; exact zrec
  have hold : rcZ.size = c.size := by rw [hsz]; rfl
  clear hoc hcu2 ha2 hk2 hcase
  gi_wp2_with (first | (rw [HW2.out]) | (rw [HW3.out]) | (refine wpListIn_store_row rfl tRe _ _ rfl y2.heap.size c rfl rfl _ _ hx2 zr hold h1c ?_) | fail)
  clear hx2 zr hold h1c hsz
  gi_loopw [4, 5] (fun rv ev wr => ∃ a k pre, Hid (Ih L W.heap.size J wr S g rc ec rv ev a k pre)) (fun rv ev wr => (S.size - atOf wr g) * 2 + errM ev)
  case atStart => exact ⟨_, _, _, HIH⟩
  case round =>
    obtain ⟨a, k, pre, HR⟩ := hrel
    clear HIH HJ2 HJ1 HC1
    obtain ⟨q, rfl, hql, c5, hc5, hrow5, hcs⟩ := HR.out.q
    rcases hcs with ⟨rfl, hpk, x, v, hd, hLx⟩ | ⟨⟨te, pe, rfl⟩, hpL⟩
    · obtain ⟨⟨R, hrow⟩, ⟨M, hown⟩⟩ := hd
      obtain ⟨n1, n2, n3, tx, hT⟩ : ∃ n1 n2 n3 tx, Jo.evV (some x) = #[.int .i64 n1, .int .i64 n2, .int .i64 n3, .string tx] := ⟨_, _, _, _, rfl⟩
      have hc5e : #[.int .i64 (k : Int)] ++ Jo.evV (some x) ++ #[v, .string R] = #[.int .i64 (k : Int), .int .i64 n1, .int .i64 n2, .int .i64 n3, .string tx, v, .string R] := by rw [hT]; rfl
      rw [hc5e] at hrow
      have hpx : pre ++ [x] <+: L := ⟨bods S.data.toList (S.data.toList.length + 1) a k, by rw [← hLx]; simp⟩
      have hY1 := hY pre x v M wr HR.out.j hpx hown
      rw [hT, show #[Value.int .i64 n1, .int .i64 n2, .int .i64 n3, .string tx] ++ #[v] = #[.int .i64 n1, .int .i64 n2, .int .i64 n3, .string tx, v] from rfl, show pre.length + 1 = k from hpk] at hY1
      obtain ⟨fn, tmps, assign, body, hy, hRd⟩ := hY1
      have d0 : wr.cell? ⟨q, 0, none⟩ = some (.int .i64 (k : Int)) := by simp [World.cell?, hrow]
      have hce : ∀ j u, [Value.int .i64 n1, .int .i64 n2, .int .i64 n3, .string tx, v][j]? = some u → wr.cell? ((⟨q, 1, none⟩ : Addr).add j) = some u := fun j u hu => by
        rcases j with _ | _ | _ | _ | _ | j
        · cases hu; simp [World.cell?, hrow, Addr.add]
        · cases hu; simp [World.cell?, hrow, Addr.add]
        · cases hu; simp [World.cell?, hrow, Addr.add]
        · cases hu; simp [World.cell?, hrow, Addr.add]
        · cases hu; simp [World.cell?, hrow, Addr.add]
        · simp at hu
      have ze : (Tryd.prog.info? 40).map (·.size) = some [Value.int .i64 n1, .int .i64 n2, .int .i64 n3, .string tx, v].length := by show _ = some 5; kernel_rfl
      have HPX : Hid (pre ++ [x] <+: L) := hpx
      have HOWN : Hid (∃ M, wr.ownsRow W.heap.size 85 5 v M (osV (Jo.evR (some x)))) := ⟨M, hown⟩
      have HPK : Hid (pre.length + 1 = k ∧ pre ++ x :: bods S.data.toList (S.data.toList.length + 1) a k = L) := ⟨hpk, hLx⟩
      have HROW : Hid (wr.heap[q]? = some (.cells #[.int .i64 (k : Int), .int .i64 n1, .int .i64 n2, .int .i64 n3, .string tx, v, .string R] tRe (0, 0))) := hrow
      clear hY hpx hown hpk hLx hT hc5e hc5 hrow5 hrow
      gi_wp2_with (first | (refine wpListIn_load_at rfl 40 _ rfl _ rfl [.int .i64 n1, .int .i64 n2, .int .i64 n3, .string tx, v] hce _ Tryd.underlying40 rfl ze ?_) | fail)
      refine ⟨fun h => by simp [Fence.wide] at h, (round_wide hRd).mono ?_⟩
      clear hRd hy d0 hce ze
      rintro e W9 ⟨hkf, hcs9⟩
      rcases hcs9 with ⟨rfl, hJ9, hk9⟩ | ⟨rfl, hJx9⟩
      · have hcu := HR.out.cu
        have hlw := HR.out.low
        have hcu9 : Cu W9 g S a k rc ec := ⟨hK hk9 (.inl rfl) hcu.row, let ⟨s, hs⟩ := hcu.rch; ⟨s, hkf.same rc _ hlw.2.1 hs rfl⟩, let ⟨s, hs⟩ := hcu.ech; ⟨s, hkf.same ec _ hlw.2.2.1 hs rfl⟩, hcu.ne⟩
        have hrow9 := hK hk9 (.inr rfl) HROW.out
        have hl9 : W.heap.size ≤ W9.heap.size := Nat.le_trans hlw.2.2.2 hkf.size
        obtain ⟨RV, hRV⟩ : ∃ RV, (#[.int .i64 (k : Int), .int .i64 n1, .int .i64 n2, .int .i64 n3, .string tx, v, .string R] : Array Value) = RV := ⟨_, rfl⟩
        have hRs : RV.size = 7 := by rw [← hRV]; rfl
        have hR1 : RV.all (·.oneCell') = true := by
          obtain ⟨M, hown⟩ := HOWN.out
          obtain ⟨o0, cp0, rfl⟩ := Bd.owns_sl hown
          rw [← hRV]; simp [Value.oneCell']
        rw [hRV] at hrow9
        obtain ⟨W10, HW10⟩ : ∃ W, Hid (W9.alloc (.cells #[.int .i64 0, .int .i64 0, .int .i64 0, .int .i64 0, .string ⟨#[]⟩, .slice none 0 0, .string ⟨#[]⟩] tRe) = W) := ⟨_, rfl⟩
        have hx10 : W10.heap[W9.heap.size]? = some (.cells rcZ tRe (0, 0)) := HW10.out ▸ h1_0 _ _
        obtain ⟨W11, HW11⟩ : ∃ W, Hid (W10.setRow W9.heap.size RV = W) := ⟨_, rfl⟩
        have hb11 := below_made HW10.out HW11.out
        have HX11 : Hid (W11.heap[W9.heap.size]? = some (.cells RV tRe (0, 0))) := HW11.out ▸ setRow_at hx10 _
        have hcu11 := Cu.below hcu9 hb11
        have HJ11 : Hid (J (pre ++ [x]) W11) := hJ _ _ _ hJ9 (.of_below hb11)
        have HCU11 : Hid (Cu W11 g S a k rc ec) := hcu11
        have HN11 : Hid (Calls _ _ _ _ _) := next_any hcu11 (hLv _ _ HJ11.out) HS.out.2 HR.out.fit.1 HR.out.fit.2
        have HQ : Hid (W.heap.size ≤ W9.heap.size ∧ g < W9.heap.size ∧ rc < W9.heap.size ∧ ec < W9.heap.size ∧ W9.heap.size < W11.heap.size ∧ W9.heap.size ≤ W11.heap.size) := ⟨hl9, (Array.getElem?_eq_some_iff.1 hcu9.row).1, let ⟨s, hs⟩ := hcu9.rch; (Array.getElem?_eq_some_iff.1 hs).1, let ⟨s, hs⟩ := hcu9.ech; (Array.getElem?_eq_some_iff.1 hs).1, (Array.getElem?_eq_some_iff.1 HX11.out).1, hb11.size⟩
        have zr : (Tryd.prog.info? tRe).map (·.size) = some RV.size := by rw [hRs]; exact zrec
        have hold : rcZ.size = RV.size := by rw [hRs]; rfl
        have HRS : Hid (RV.size = 7) := hRs
        clear hcu hlw hcu9 hl9 hRV hRs hb11 hcu11 hJ9 hk9 hkf
        gi_wp2_with (first | (rw [HW10.out]) | (rw [HW11.out]) | (refine wpListIn_load_row rfl tRe _ rfl q rfl _ _ _ _ hrow9 Tryd.underlying107 rfl zr ?_) | (refine wpListIn_store_row rfl tRe _ _ rfl W9.heap.size RV rfl rfl _ _ hx10 zr hold hR1 ?_) | fail)
        refine ⟨trivial, fun h => by simp [Fence.wide] at h, (callsIn_wide.2 HN11.out).mono ?_⟩
        rintro e y12 ⟨c12, er12, rfl, hsz12, h1c12, hoc12, a12, k12, hcu12, ha12, hk12, hcase12⟩
        obtain ⟨W13, HW13⟩ : ∃ W, Hid (y12.setRow W9.heap.size c12 = W) := ⟨_, rfl⟩
        have hx12 : y12.heap[W9.heap.size]? = some (.cells RV tRe (0, 0)) := (hoc12.block _ HQ.out.2.2.2.2.1 (by have := HQ.out; omega) (by have := HQ.out; omega) (by have := HQ.out; omega)).trans HX11.out
        have HIH : Hid (Ih L W.heap.size J W13 S g rc ec (.pointer (some ⟨W9.heap.size, 0, none⟩)) er12 a12 k12 (pre ++ [x]) ∧ (S.size - a12) * 2 + errM er12 < (S.size - a) * 2 + 1) := by
          have hlw := HR.out.low
          have hqq := HQ.out
          refine ⟨ih_stored hJ hcu12 ⟨ha12, hk12⟩ ⟨hlw.1, hlw.2.1, hlw.2.2.1, by have := hoc12.size; omega⟩ (hJ _ _ _ HJ11.out (.of_oc HCU11.out hoc12 hlw.1 hlw.2.1 hlw.2.2.1)) hsz12 hx12 (by omega) ⟨by omega, by omega, by omega⟩ ?_ HW13.out, ?_⟩
          · rcases hcase12 with ⟨he, hk, hlt, x2, v2, R2, M2, hc, ho, hbd⟩ | ⟨he, hae, hke, hbd⟩
            · refine .inl ⟨he, by rw [hk, List.length_append, ← HPK.out.1]; rfl, x2, v2, R2, M2, hc, ho.mono (by omega), ?_⟩
              rw [← HPK.out.2, hbd]; simp
            · refine .inr ⟨he, ?_⟩
              rw [← HPK.out.2, hbd]
          · rcases hcase12 with ⟨rfl, hk, hlt, -⟩ | ⟨⟨te, pe, rfl⟩, rfl, -⟩
            · simp only [errM]; omega
            · simp only [errM]; omega
        have zr12 : (Tryd.prog.info? tRe).map (·.size) = some c12.size := by rw [hsz12]; exact zrec
        have hold12 : RV.size = c12.size := by rw [HRS.out, hsz12]
        clear hoc12 hcu12 ha12 hk12 hcase12 hx10 zr hold hR1 hrow9
        gi_wp2_with (first | (rw [HW13.out]) | (refine wpListIn_store_row rfl tRe _ _ rfl W9.heap.size c12 rfl rfl _ _ hx12 zr12 hold12 h1c12 ?_) | fail)
        refine ⟨⟨_, _, _, HIH.out.1⟩, ?_⟩
        rw [atOf_cu HIH.out.1.cu, atOf_cu HR.out.cu]
        exact HIH.out.2
      · gi_wp2
        refine bodyPost_ret (results_none rfl _ _ _) rfl ?_
        exact ⟨⟨_, rfl⟩, .inr ⟨_, HPX.out, hJx9⟩⟩
    · have HPL : Hid (J L wr) := hpL ▸ HR.out.j
      clear hY hrow5 hc5 hpL
      gi_wp2
      go_end0
      exact ⟨⟨_, rfl⟩, .inl HPL.out⟩
end Go.Proofs.YtabmpngliphdpaaDoor.Kl
