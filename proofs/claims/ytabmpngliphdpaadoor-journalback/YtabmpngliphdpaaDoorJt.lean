/- Sends and selects in a region, as rules of the walk: one goroutine, nothing waits. -/
import Derived.Test.YtabmpngliphdpaaDoorQl
import Derived.Conc.LoneCalls
import Derived.Conc.LoneSelectN
namespace Go.Proofs.YtabmpngliphdpaaDoor.Jt
set_option linter.unusedVariables false
set_option linter.unusedSimpArgs false
open Go.RowKit Go.Conc
section
variable {P : Program} {b : Frame} {a : Act} {k : List Item} {cs : List Frame} {w : World} {ops : Array Oper}
/-- one operation that comes to its end, whatever stands behind it -/
theorem op_step {Q : Exit → Act → World → Prop} (hQ : ∀ e a w, Q e a w → e = .normal) {i : Nat} {rest : List Nat} {o : Oper} (ho : ops[i]? = some o) (hw : Region.wanted o (yielded ops a.tmps) = true) {next : Act → World → Prop} (h : o.wp P a w next Q) :
    ∃ a' w', next a' w' ∧ Steps P (lone (b.at a (.inRegion ops (i :: rest) :: k)) cs w) (lone (b.at a' (.inRegion ops rest :: k)) cs w') := by
  simp only [Oper.wp, Oper.upon] at h
  have hg := stepG_op (P := P) (b := b) (k := k) (cs := cs) (w := w) (rest := rest) ho hw
  have hfin : ∀ v, (b.at a (.inRegion ops (i :: rest) :: k)).finish v = b.at (a.put o.dst v) (.inRegion ops rest :: k) := fun v => by rw [Frame.finish_at, ho]; rfl
  split at h
  · rename_i v w' hr
    exact ⟨_, w', h, .one (step_lone_go (by rw [hg, ← hfin]; simp [stepG.apply, hr]))⟩
  · rename_i w' hr
    exact ⟨_, w', h, .one (step_lone_go (by rw [hg, ← hfin]; simp [stepG.apply, hr]))⟩
  · rename_i d w' hr
    have hd := Frame.finish_at b { a with defers := d :: a.defers } ops i rest k undef
    rw [ho] at hd
    exact ⟨_, w', h, .one (step_lone_go (by
      rw [hg]; simp only [stepG.apply, Sem.runT_eq, hr, GStep.bare_after]
      exact congrArg (fun fr => GStep.go { frame := fr, callers := cs, status := .running, dying := none } w') hd))⟩
  · rename_i f args w' hr
    obtain ⟨e, w'', fr, hR, hsteps, _, hleave⟩ := h (b.at a (.inRegion ops (i :: rest) :: k) :: cs)
    have henter : step P (lone (b.at a (.inRegion ops (i :: rest) :: k)) cs w) = .next (lone (Frame.enter P f args .normal) (b.at a (.inRegion ops (i :: rest) :: k) :: cs) w') :=
      step_lone_go (by rw [hg]; simp [stepG.apply, hr, Frame.at])
    cases e with
    | returned v => exact ⟨_, w'', hR, .head henter (hsteps.trans (.one (by rw [← hfin]; exact step_leave_returned hleave)))⟩
    | panicked chain => exact absurd (hQ _ _ _ hR) (by simp)
    | outgrown =>
      obtain ⟨a0, w0, hq⟩ := hR
      exact absurd (hQ _ _ _ hq) (by simp)
  · rename_i row args w' hr
    obtain ⟨v, w'', hR, hsteps⟩ := h (b.at a (.inRegion ops (i :: rest) :: k)) cs
    have henter : step P (lone (b.at a (.inRegion ops (i :: rest) :: k)) cs w) = .next (lone (Frame.ofRow P row args .normal) (b.at a (.inRegion ops (i :: rest) :: k) :: cs) w') :=
      step_lone_go (by rw [hg]; simp [stepG.apply, hr, Frame.at])
    exact ⟨_, w'', hR, .head henter (by rw [← hfin]; exact hsteps)⟩
  · exact absurd (hQ _ _ _ h) (by simp)
  · exact h.elim
/-- operations one behind the other, whatever stands behind them -/
theorem ops_steps {ops' : Array Oper} {N : Act → World → Prop} {n : Nat} (hsame : ∀ i, i ≠ n → ops'[i]? = ops[i]?) (hy : ∀ tm, yielded ops' tm = yielded ops tm) (r : List Nat) : ∀ (l : List Nat) (a : Act) (w : World), n ∉ l →
    wpOps P ops' (fun e a w => e = .normal ∧ N a w) (l ++ [n]) a w → ∃ a' w', wpOps P ops' (fun e a w => e = .normal ∧ N a w) [n] a' w' ∧ Steps P (lone (b.at a (.inRegion ops (l ++ r) :: k)) cs w) (lone (b.at a' (.inRegion ops r :: k)) cs w')
  | [], a, w, _, h => ⟨a, w, h, Steps.refl _ _⟩
  | i :: l, a, w, hn, h => by
    have hin : i ≠ n := fun e => hn (by simp [e])
    have hnl : n ∉ l := fun e => hn (by simp [e])
    rw [List.cons_append] at h
    unfold wpOps at h
    simp only [hsame i hin] at h
    cases ho : ops[i]? with
    | none =>
      simp only [ho] at h
      obtain ⟨a', w', hq, hs⟩ := ops_steps hsame hy r l a w hnl h
      refine ⟨a', w', hq, ?_⟩
      have h1 := step_op_skip (P := P) (b := b) (a := a) (k := k) (cs := cs) (w := w) (ops := ops) (i := i) (rest := l ++ r) (by simp [ho])
      simp only [ho, Option.bind_none, Act.put] at h1
      exact (Steps.one h1).trans hs
    | some o =>
      simp only [ho, hy] at h
      by_cases hw : Region.wanted o (yielded ops a.tmps) = true
      · simp only [hw, if_true] at h
        rcases h with h | ⟨_, a0, w0, hq⟩
        · obtain ⟨a1, w1, h1, hs1⟩ := op_step (P := P) (ops := ops) (b := b) (k := k) (cs := cs) (rest := l ++ r) (fun e a w h => h.1) ho hw h
          obtain ⟨a', w', hq, hs⟩ := ops_steps hsame hy r l a1 w1 hnl h1
          exact ⟨a', w', hq, hs1.trans hs⟩
        · exact absurd hq.1 (by simp)
      · simp only [hw, if_false, Bool.false_eq_true] at h
        obtain ⟨a', w', hq, hs⟩ := ops_steps hsame hy r l _ w hnl h
        refine ⟨a', w', hq, ?_⟩
        have h1 := step_op_skip (P := P) (b := b) (a := a) (k := k) (cs := cs) (w := w) (ops := ops) (i := i) (rest := l ++ r) (by simp [ho]; simpa using hw)
        simp only [ho, Option.bind_some] at h1
        exact (Steps.one h1).trans hs
/-- a communication is handed up to the machine, in a frame of whatever kind -/
theorem stepG_comm' {i : Nat} {rest : List Nat} {o : Oper} {cases : Array CommCase} {blocking : Bool} {shape : CommShape} {w' : World} (ho : ops[i]? = some o) (hw : Region.wanted o (yielded ops a.tmps) = true)
    (hr : (execOp a.eval o).run P w = .ok (.comm cases blocking shape) w') :
    ∃ es, stepG P true (G (b.at a (.inRegion ops (i :: rest) :: k)) cs) w = .comm (G (b.at a (.inRegion ops (i :: rest) :: k)) cs) cases blocking shape w' es := by
  rw [stepG_oper ho hw]
  by_cases hk : b.kind = .early
  · refine ⟨seen P b.fn #[], ?_⟩
    simp [stepG.apply, hr, G, Frame.at, hk, GStep.after, listed]
  · refine ⟨listed P b.fn a o w, ?_⟩
    have hk' : (b.kind == CallKind.early) = false := by simpa using hk
    simp [stepG.apply, hr, G, Frame.at, hk', GStep.after, listed]
/-- a send that has room, at the end of a region -/
theorem send_step {i : Nat} {o : Oper} {c cap s r : Nat} {buf : Array Value} {v z' : Value} {tm : Bool} {w' : World} (ho : ops[i]? = some o) (hg : o.guard = none)
    (hr : (execOp a.eval o).run P w = .ok (.comm #[scase c v z'] true .send) w') (hc : w'.heap[c]? = some (.chan cap buf false s r tm)) (hroom : buf.size < cap) :
    Steps P (lone (b.at a (.inRegion ops [i] :: k)) cs w) (lone (b.at (a.put o.dst undef) k) cs (w'.setChan c cap (buf.push v) false (s + 1) r tm)) := by
  have hw : Region.wanted o (yielded ops a.tmps) = true := by simp [Region.wanted, hg]
  obtain ⟨es, he⟩ := stepG_comm' (b := b) (k := k) (cs := cs) (rest := []) ho hw hr
  have h1 := step_lone_send_room he hc hroom
  have hfin : (b.at a (.inRegion ops [i] :: k)).finish undef = b.at (a.put o.dst undef) (.inRegion ops [] :: k) := by rw [Frame.finish_at, ho]; rfl
  rw [hfin] at h1
  exact (Steps.one h1).trans (.one step_region_end)
/-- is n the last one in every order? -/
def lastOrd (md : Region.Mode) (ops : Array Oper) (n : Nat) : Nat → Array Bool → Bool
  | 0, _ => false
  | f + 1, listed => if f = 0 then Region.ready md ops listed == [n] else Region.ready md ops listed != [] && (Region.ready md ops listed).all fun i => i != n && lastOrd md ops n f (listed.setIfInBounds i true)
theorem lastOrd_go {md : Region.Mode} {ops : Array Oper} {n : Nat} : ∀ (f : Nat) (listed : Array Bool) (t : Nat), lastOrd md ops n f listed = true → ∃ l, Region.linearise.go md ops f t listed [] = l ++ [n] ∧ n ∉ l
  | 0, listed, t, h => by simp [lastOrd] at h
  | f + 1, listed, t, h => by
    unfold lastOrd at h
    simp only [Region.linearise.go]
    change ∃ l, (match (Region.ready md ops listed)[t % (Region.ready md ops listed).length]? with
      | some i => Region.linearise.go md ops f (t / (Region.ready md ops listed).length) (listed.setIfInBounds i true) [i]
      | none => [].reverse) = l ++ [n] ∧ n ∉ l
    by_cases hf : f = 0
    · subst hf
      have hr : Region.ready md ops listed = [n] := by simpa using h
      refine ⟨[], ?_, by simp⟩
      rw [hr]
      simp [Nat.mod_one, Region.linearise.go]
    · rw [if_neg hf] at h
      simp only [Bool.and_eq_true, bne_iff_ne, List.all_eq_true] at h
      obtain ⟨hne, hall⟩ := h
      have hlt : t % (Region.ready md ops listed).length < (Region.ready md ops listed).length := Nat.mod_lt _ (List.length_pos_iff.2 hne)
      rw [List.getElem?_eq_getElem hlt]
      have hm := List.getElem_mem hlt
      obtain ⟨h1, h2⟩ := hall _ hm
      obtain ⟨l, hl, hn⟩ := lastOrd_go f _ (t / (Region.ready md ops listed).length) h2
      generalize (Region.ready md ops listed)[t % (Region.ready md ops listed).length] = i at *
      refine ⟨i :: l, ?_, ?_⟩
      · show Region.linearise.go md ops f _ _ [i] = _
        rw [linearise_go_acc, hl]; rfl
      · simp only [List.mem_cons, not_or]
        exact ⟨fun e => h1 e.symm, hn⟩
/-- the orders hang on what stands behind what alone -/
theorem go_same {md : Region.Mode} {ops ops' : Array Oper} (hr : ∀ listed, Region.ready md ops' listed = Region.ready md ops listed) : ∀ (f t : Nat) (listed : Array Bool) (acc : List Nat), Region.linearise.go md ops' f t listed acc = Region.linearise.go md ops f t listed acc
  | 0, t, listed, acc => rfl
  | f + 1, t, listed, acc => by
    simp only [Region.linearise.go]
    change (match (Region.ready md ops' listed)[t % (Region.ready md ops' listed).length]? with
      | some i => Region.linearise.go md ops' f (t / (Region.ready md ops' listed).length) (listed.setIfInBounds i true) (i :: acc)
      | none => acc.reverse) = (match (Region.ready md ops listed)[t % (Region.ready md ops listed).length]? with
      | some i => Region.linearise.go md ops f (t / (Region.ready md ops listed).length) (listed.setIfInBounds i true) (i :: acc)
      | none => acc.reverse)
    rw [hr]
    split
    · exact go_same hr _ _ _ _
    · rfl
/-- a step that does nothing, in the place of another -/
def harm (o : Oper) : Oper := { o with op := .assign (.const (.bool true)), dst := none }
theorem swap_at (l : List Oper) (o : Oper) (i : Nat) (h : i ≠ l.length) : (l ++ [harm o]).toArray[i]? = (l ++ [o]).toArray[i]? := by
  simp only [List.getElem?_toArray]
  rcases Nat.lt_or_ge i l.length with h1 | h1
  · rw [List.getElem?_append_left h1, List.getElem?_append_left h1]
  · rw [List.getElem?_eq_none (by simp; omega), List.getElem?_eq_none (by simp; omega)]
theorem swap_last (l : List Oper) (o : Oper) : (l ++ [o]).toArray[l.length]? = some o := by simp
theorem swap_after (l : List Oper) (o : Oper) (i : Nat) : ((l ++ [harm o]).toArray[i]?).map (·.after) = ((l ++ [o]).toArray[i]?).map (·.after) := by
  by_cases h : i = l.length
  · subst h; rw [swap_last, swap_last]; rfl
  · rw [swap_at l o i h]
theorem swap_yield (l : List Oper) (o : Oper) (ho : o.dst = none) (tm : Array Value) : yielded (l ++ [harm o]).toArray tm = yielded (l ++ [o]).toArray tm := by
  funext j
  unfold yielded
  by_cases h : j = l.length
  · subst h; rw [swap_last, swap_last]; simp [harm, ho]
  · rw [swap_at l o j h]
theorem swap_ready (md : Region.Mode) (l : List Oper) (o : Oper) (listed : Array Bool) : Region.ready md (l ++ [harm o]).toArray listed = Region.ready md (l ++ [o]).toArray listed := by
  unfold Region.ready
  have hs : (l ++ [harm o]).toArray.size = (l ++ [o]).toArray.size := by simp
  rw [hs]
  congr 1
  funext i
  have h := swap_after l o i
  have e : ∀ (x : Option Oper), ((x.map (·.after.all fun e => !Region.binds md e || listed.getD e.on false)).getD false) = (((x.map (·.after)).map (·.all fun e => !Region.binds md e || listed.getD e.on false)).getD false) := fun x => by cases x <;> rfl
  rw [e, e, h]
/-- where a send is met that has room -/
def SendTo (P : Program) (o : Oper) (Q : Exit → Act → World → Prop) (a : Act) (w : World) : Prop :=
  ∃ c cap s r buf v z' tm w', (execOp a.eval o).run P w = .ok (.comm #[scase c v z'] true .send) w' ∧ w'.heap[c]? = some (.chan cap buf false s r tm) ∧ buf.size < cap ∧ Q .normal a (w'.setChan c cap (buf.push v) false (s + 1) r tm)
/-- a region that draws and ends in a send -/
theorem region_send {id : Nat} {l : List Oper} {o : Oper} {Q : Exit → Act → World → Prop} (hm : P.follows .mixedOrders = true) (hg : o.guard = none) (hd : o.dst = none)
    (hord : lastOrd .any (l ++ [o]).toArray l.length (l.length + 1) (Array.replicate (l.length + 1) false) = true)
    (h : wpAny P .any (l ++ [harm o]).toArray (fun e a w => e = .normal ∧ SendTo P o Q a w) (l.length + 1) (Array.replicate (l.length + 1) false) a w.drew) : (Code.region id (l ++ [o]).toArray true).wp P Q a w := by
  intro b k cs
  have hs := step_region_draw (P := P) (b := b) (a := a) (k := k) (cs := cs) (w := w) (ops := (l ++ [o]).toArray) (id := id)
  generalize w.tape w.drawn (.order b.fn id) = t at hs
  have hsch : Region.schedule (P.follows .mixedOrders) (l ++ [o]).toArray t = Region.linearise.go .any (l ++ [o]).toArray (l.length + 1) t (Array.replicate (l.length + 1) false) [] := by
    simp only [Region.schedule, hm, Bool.true_or, if_true, Region.linearise]
    simp
  obtain ⟨l', hl', hn⟩ := lastOrd_go _ _ t hord
  have hw := wpAny_sound (l.length + 1) t _ a _ h
  rw [go_same (swap_ready .any l o), hl'] at hw
  obtain ⟨a', w', hN, hst⟩ := ops_steps (P := P) (b := b) (k := k) (cs := cs) (ops := (l ++ [o]).toArray) (fun i hi => swap_at l o i hi) (swap_yield l o hd) [l.length] l' a _ hn hw
  have hN' : SendTo P o Q a' w' := by
    simp only [wpOps, swap_last] at hN
    have hwt : Region.wanted (harm o) (yielded (l ++ [harm o]).toArray a'.tmps) = true := by simp [Region.wanted, harm, hg]
    rw [if_pos hwt] at hN
    rcases hN with hN | ⟨_, a0, w0, hq⟩
    · have h9 : (Oper.wp P (harm o) a' w' (fun x y => True ∧ SendTo P o Q x y) (fun e a w => e = .normal ∧ SendTo P o Q a w)) = (True ∧ SendTo P o Q (a'.put none (.bool true)) w') := rfl
      exact (h9.mp hN).2
    · exact absurd hq.1 (by simp)
  obtain ⟨c, cap, s, r, buf, v, z', tm, w1, hr, hc, hroom, hq⟩ := hN'
  have hss := send_step (P := P) (b := b) (a := a') (k := k) (cs := cs) (ops := (l ++ [o]).toArray) (swap_last l o) hg hr hc hroom
  refine ⟨.normal, a', _, hq, ?_⟩
  rw [hsch, hl'] at hs
  rw [hd] at hss
  exact (Steps.one hs).trans (hst.trans hss)
theorem region_sendQ {id : Nat} {L : List Oper} {o : Oper} {Q : Exit → Act → World → Prop} {C : World → Prop} (hm : P.follows .mixedOrders = true) (hlast : L = L.dropLast ++ [o]) (hg : o.guard = none) (hd : o.dst = none)
    (hord : lastOrd .any L.toArray L.dropLast.length (L.dropLast.length + 1) (Array.replicate (L.dropLast.length + 1) false) = true)
    (hs : Region.noSelect (L.dropLast ++ [harm o]).toArray = true) (hB : Ql.lastB .any (L.dropLast ++ [harm o]).toArray L.dropLast.length = true) (hL : Ql.lexL .any (L.dropLast ++ [harm o]).toArray L.dropLast.length L.dropLast.length 0 (Array.replicate (L.dropLast.length + 1) false) = true)
    (hC : C w.drew) (h : wpQuiet P (L.dropLast ++ [harm o]).toArray C (fun a' => ∀ y, C y → SendTo P o Q a' y) L.dropLast a) : (Code.region id L.toArray true).wp P Q a w := by
  generalize L.dropLast = l at *
  subst hlast
  refine region_send hm hg hd hord ?_
  refine Ql.wpAny_of_last (C := C) (T := fun a' => ∀ y, C y → SendTo P o Q a' y) (n := l.length) ?_ l.length _ a _ hC ?_
  · intro a' y hy hT
    unfold wpOp
    rw [show (l ++ [harm o]).toArray[l.length]? = some (harm o) by simp]
    simp only
    rw [if_pos (by simp [Region.wanted, harm, hg])]
    exact .inl (show Oper.wp P (harm o) a' y (fun x z => True ∧ SendTo P o Q x z) (fun e a w => e = .normal ∧ SendTo P o Q a w) from ⟨trivial, hT y hy⟩)
  · exact Ql.wpAnyL_lex hB hs l 0 _ a (by simp) (Ql.closed_zero _) (fun j hj => by rw [Nat.zero_add, List.getElem?_toArray, List.getElem?_append_left hj]) hL h
/-- a region that begins with a select, of which one case is a receive from a channel that holds something -/
theorem region_select {id : Nat} {L : List Oper} {o : Oper} {Q : Exit → Act → World → Prop} (hg : o.guard = none) {cases : Array CommCase} {blocking : Bool} {w1 : World} (hr : (execOp a.eval o).run P w = .ok (.comm cases blocking .select) w1)
    {j c cap s r : Nat} {buf : Array Value} {closed tm : Bool} {z : Value} (hk : cases[j]? = some (rcase c z)) (ho : ∀ (m : Nat) (c' : CommCase), m ≠ j → cases[m]? = some c' → NoWay w1 c')
    (hc : w1.heap[c]? = some (.chan cap buf closed s r tm)) (hsome : 0 < buf.size)
    (h : wpList P (o :: L).toArray Q L (a.put o.dst (commResult cases .select j (buf.getD 0 undef) true)) (w1.setChan c cap (buf.extract 1 buf.size) closed s (r + 1) tm)) : (Code.region id (o :: L).toArray false).wp P Q a w := by
  intro b k cs
  have hs := step_region (P := P) (b := b) (a := a) (k := k) (cs := cs) (w := w) (ops := (o :: L).toArray) (id := id)
  have e : List.range (o :: L).toArray.size = 0 :: List.range' 1 L.length := by
    simp only [List.size_toArray, List.length_cons]
    rw [List.range_eq_range', List.range'_succ]
  rw [e] at hs
  have ho0 : (o :: L).toArray[0]? = some o := by simp
  have hw : Region.wanted o (yielded (o :: L).toArray a.tmps) = true := by simp [Region.wanted, hg]
  obtain ⟨es, he⟩ := stepG_comm' (b := b) (k := k) (cs := cs) (rest := List.range' 1 L.length) ho0 hw hr
  have h1 := step_lone_sel_recv_buf he hk ho hc hsome
  have hfin : ∀ v, (b.at a (.inRegion (o :: L).toArray (0 :: List.range' 1 L.length) :: k)).finish v = b.at (a.put o.dst v) (.inRegion (o :: L).toArray (List.range' 1 L.length) :: k) := fun v => by rw [Frame.finish_at, ho0]; rfl
  rw [hfin] at h1
  rw [← wpOps_eq_wpList L 1 (fun j => by simp [Nat.add_comm 1 j])] at h
  obtain ⟨e', a', w', hq, harr⟩ := wp_ops _ _ _ h b k cs
  exact ⟨e', a', w', hq, .of_steps (Steps.one hs) (.of_steps (Steps.one h1) harr)⟩
end
end Go.Proofs.YtabmpngliphdpaaDoor.Jt
