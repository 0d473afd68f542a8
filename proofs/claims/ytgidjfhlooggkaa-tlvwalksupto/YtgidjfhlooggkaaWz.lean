/- Ranges over nodes: outside a round, within one, left by a break; a region that draws within a round. -/
import Derived.Test.YtgidjfhlooggkaaPf
import Derived.Test.YtgidjfhlooggkaaLi
import Derived.RangeFuncNested
import Derived.LoopN
import Derived.Sort.QuietIn
import Derived.Test.YtgidjfhlooggkaaPe
import Derived.Test.YtgidjfhlooggkaaKe
import Derived.Test.YtgidjfhlooggkaaLc
namespace Go.Proofs.Ytgidjfhlooggkaa.Wq
set_option linter.unusedVariables false
set_option linter.unusedSimpArgs false
open Go.RowKit Kb Ga Gb Gc Gd Nt Gf Gg Nb Rn Wk
variable {F : Fence} {n : Nat} {P : Program} {w : World}
/-- a step's three cells -/
def nc (x : El) : Array Value := #[.int .i64 x.2.tag, .string x.2.val, x.2.kv]
def slots (t : Array Value) (p p' q q' : Nat) (x : El) (blk : Nat) : Array Value :=
  (((t.setIfInBounds p (.int .i64 (x.1 : Int))).setIfInBounds p' (.agg (nc x))).setIfInBounds q (.int .i64 (x.1 : Int))).setIfInBounds q' (.pointer (some ⟨blk, 0, none⟩))
theorem own_blk (B blk : Nat) (c : Array Value) (t : TypeId) : OwnFrom B (fun (_ : Unit) W => W.heap[blk]? = some (.cells c t)) :=
  fun _ X Y row hs hg hrow => Wr.cells_on hs hg (fun r e => (hrow r e).2)
theorem range3 {L : List El} {g : Operand} {p p' : Tmp} {assign body : Code} {Q : Exit → Act → World → Prop} {a : Act} {w : World}
    (hro : F.round = none) (h1 : 1 ≤ n) {gf : Nat} {lb : Array Value} (hg : a.eval g = .func (.func gf) #[] lb) (hFg : F.fn gf) (eg : ∀ args w, (callFunc gf args).run P w = .ok (.enter gf args) w)
    {Kp : World → World → Prop} {S Sp : List {x // x ∈ L} → Prop} {N : Nat} {w0 : World} (hseq : SeqStopsK F (n - 1) P gf lb (fun x : {x // x ∈ L} => enc x.1) Kp S Sp N w0)
    (hKt : ∀ {A B C : World}, Kp A B → Kp B C → Kp A C) (hKb : ∀ (W : World) (l : Nat) (o o' : Obj), w.heap.size ≤ l → W.heap[l]? = some o → o.isCells = false → o.isWalk = false → Kp W (W.putObj l o')) (hb0 : Below w0.heap.size w0 w)
    (q q' : Nat) (I : List {x // x ∈ L} → World → Prop) (Ix : Code → List {x // x ∈ L} → World → Prop) (hI : OwnFrom w.heap.size I) (hIx : ∀ c, OwnFrom w.heap.size (Ix c)) (h0 : I [] w)
    (hassign : ∀ (l : Nat) (pre : List {x // x ∈ L}) (x : {x // x ∈ L}) (W : World) (K : Act → World → Prop), I pre W →
      (∀ blk W', KeepsFrom w.heap.size W W' → Kp W W' → I pre W' → W'.heap[blk]? = some (.cells (nc x.1) 40) → K { tmps := slots a.tmps p p' q q' x.1 blk, defers := [] } W') →
      assign.wpIn (F.inRound l) (n - 1 - 1) P (Exit.then K (fun _ _ _ => False)) { tmps := (a.tmps.setIfInBounds p (.int .i64 (x.1.1 : Int))).setIfInBounds p' (.agg (nc x.1)), defers := [] } W)
    (hbody : ∀ (l : Nat) (pre : List {x // x ∈ L}) (x : {x // x ∈ L}) (blk : Nat) (W : World), w.heap.size ≤ l → (∃ r, W.heap[l]? = some (.loop r)) → I pre W → W.heap[blk]? = some (.cells (nc x.1) 40) → pre.length < N →
      body.wpIn (F.inRound l) (n - 1 - 1) P (ownPostG w.heap.size Kp I Ix (pre ++ [x]) W) { tmps := slots a.tmps p p' q q' x.1 blk, defers := [] } W)
    (hdone : ∀ (D : Nat) (xs : List {x // x ∈ L}) (W : World), w.heap.size ≤ D → S xs → I xs W → W.heap[D]? = some (.deferred (some [])) → Q .normal { a with defers := { target := .collected D, args := #[] } :: a.defers } W)
    (hstop : ∀ (D : Nat) (c : Code) (pre : List {x // x ∈ L}) (W : World), w.heap.size ≤ D → Sp pre → Ix c pre W → W.heap[D]? = some (.deferred (some [])) → c.wpIn F n P Q { a with defers := { target := .collected D, args := #[] } :: a.defers } W) :
    (Code.rangeFunc g #[p, p'] assign body).wpIn F n P Q a w :=
  wpIn_rangeFunc_ownH hro h1 hg hFg eg hseq hKt hKb hb0 (fun _ => rfl) I Ix hI hIx h0
    (fun x a' W => ∃ blk, a' = { tmps := slots a.tmps p p' q q' x.1 blk, defers := [] } ∧ W.heap[blk]? = some (.cells (nc x.1) 40))
    (fun x a' s X Y row hs hg hrow => by
      obtain ⟨blk, e, hx⟩ := hs
      exact ⟨blk, e, Wr.cells_on hx hg (fun r e => (hrow r e).2)⟩)
    (fun l pre x W K hi hK => by simpa [enc, nc] using hassign l pre x W K hi (fun blk W' k1 k2 k3 k4 => hK _ W' k1 k2 k3 ⟨blk, rfl, k4⟩))
    (fun l pre x a' W hl hr hi hx hN => by obtain ⟨blk, rfl, hx⟩ := hx; exact hbody l pre x blk W hl hr hi hx hN) hdone hstop
theorem range3N {L : List El} {g : Operand} {p p' : Tmp} {assign body : Code} {Q : Exit → Act → World → Prop} {a : Act} {w : World}
    {l₀ : Nat} {r₀ : Loop} (hro : F.round = some l₀) (hl₀ : w.heap[l₀]? = some (.loop r₀)) (h1 : 1 ≤ n) {gf : Nat} {lb : Array Value} (hg : a.eval g = .func (.func gf) #[] lb) (hFg : F.fn gf) (eg : ∀ args w, (callFunc gf args).run P w = .ok (.enter gf args) w)
    {Kp : World → World → Prop} {S Sp : List {x // x ∈ L} → Prop} {N : Nat} {w0 : World} (hseq : SeqStopsK F (n - 1) P gf lb (fun x : {x // x ∈ L} => enc x.1) Kp S Sp N w0)
    (hKt : ∀ {A B C : World}, Kp A B → Kp B C → Kp A C) (hKb : ∀ (W : World) (l : Nat) (o o' : Obj), w.heap.size ≤ l → W.heap[l]? = some o → o.isCells = false → o.isWalk = false → Kp W (W.putObj l o')) (hb0 : Below w0.heap.size w0 w)
    (q q' : Nat) (I : List {x // x ∈ L} → World → Prop) (Ix : Code → List {x // x ∈ L} → World → Prop) (hI : OwnFrom w.heap.size I) (hIx : ∀ c, OwnFrom w.heap.size (Ix c)) (h0 : I [] w)
    (hassign : ∀ (l : Nat) (pre : List {x // x ∈ L}) (x : {x // x ∈ L}) (W : World) (K : Act → World → Prop), I pre W →
      (∀ blk W', KeepsFrom w.heap.size W W' → Kp W W' → I pre W' → W'.heap[blk]? = some (.cells (nc x.1) 40) → K { tmps := slots a.tmps p p' q q' x.1 blk, defers := [] } W') →
      assign.wpIn (F.inRound l) (n - 1 - 1) P (Exit.then K (fun _ _ _ => False)) { tmps := (a.tmps.setIfInBounds p (.int .i64 (x.1.1 : Int))).setIfInBounds p' (.agg (nc x.1)), defers := [] } W)
    (hbody : ∀ (l : Nat) (pre : List {x // x ∈ L}) (x : {x // x ∈ L}) (blk : Nat) (W : World), w.heap.size ≤ l → (∃ r, W.heap[l]? = some (.loop r)) → I pre W → W.heap[blk]? = some (.cells (nc x.1) 40) → pre.length < N →
      body.wpIn (F.inRound l) (n - 1 - 1) P (ownPostG w.heap.size Kp I Ix (pre ++ [x]) W) { tmps := slots a.tmps p p' q q' x.1 blk, defers := [] } W)
    (hdone : ∀ (xs : List {x // x ∈ L}) (W : World), S xs → I xs W → Q .normal a W)
    (hstop : ∀ (c : Code) (pre : List {x // x ∈ L}) (W : World), Sp pre → Ix c pre W → c.wpIn F n P Q a W) :
    (Code.rangeFunc g #[p, p'] assign body).wpIn F n P Q a w :=
  wpIn_rangeFunc_ownN hro hl₀ h1 hg hFg eg hseq hKt hKb hb0 (fun _ => rfl) I Ix hI hIx h0
    (fun x a' W => ∃ blk, a' = { tmps := slots a.tmps p p' q q' x.1 blk, defers := [] } ∧ W.heap[blk]? = some (.cells (nc x.1) 40))
    (fun x a' s X Y row hs hg hrow => by
      obtain ⟨blk, e, hx⟩ := hs
      exact ⟨blk, e, Wr.cells_on hx hg (fun r e => (hrow r e).2)⟩)
    (fun l pre x W K hi hK => by simpa [enc, nc] using hassign l pre x W K hi (fun blk W' k1 k2 k3 k4 => hK _ W' k1 k2 k3 ⟨blk, rfl, k4⟩))
    (fun l pre x a' W hl hr hi hx hN => by obtain ⟨blk, rfl, hx⟩ := hx; exact hbody l pre x blk W hl hr hi hx hN) hdone hstop
/-- what a step tells without its place -/
def key (x : El) : Nat × Int × ByteArray × Nat := (x.1, x.2.tag, x.2.val, x.2.kids.length)
theorem steps_er : ∀ (d : Nat) (xs ys : List AT), er xs = er ys → (steps d xs).map key = (steps d ys).map key
  | d, [], [], _ => rfl
  | d, .mk t v kv ks :: ts, .mk t' v' kv' ks' :: ts', e => by
    simp only [er, List.cons.injEq, Tr.mk.injEq] at e
    have hl := congrArg List.length e.1.2.2
    rw [er_len, er_len] at hl
    simp only [steps, List.map_cons, List.map_append, steps_er (d + 1) ks ks' e.1.2.2, steps_er d ts ts' e.2]
    rw [show key (d, AT.mk t v kv ks) = key (d, AT.mk t' v' kv' ks') by simp only [key, AT.tag, AT.val, AT.kids, e.1.1, e.1.2.1, hl]]
  | d, [], .mk t v kv ks :: ts, e => by simp [er] at e
  | d, .mk t v kv ks :: ts, [], e => by simp [er] at e
theorem steps_ls : ∀ (d : Nat) (ts : List AT), (steps d ts).length = (Li.lsK ts).length
  | d, [] => by simp [steps, Li.lsK]
  | d, .mk t v kv ks :: ts => by
    simp only [steps, List.length_cons, List.length_append, steps_ls (d + 1) ks, steps_ls d ts, Li.lsK]
    try omega
theorem key_at {xs ys : List AT} {d i : Nat} (e : er xs = er ys) (h : i < (steps d xs).length) (h' : i < (steps d ys).length) : key (steps d xs)[i] = key (steps d ys)[i] := by
  have := steps_er d xs ys e
  have h1 : ((steps d xs).map key)[i]? = ((steps d ys).map key)[i]? := by rw [this]
  simpa [h, h'] using h1
/-- somewhere a step tells otherwise than the wanted ones -/
def Off {L : List El} (L0 : List El) (xs : List {x // x ∈ L}) : Prop := ∃ (j : Nat) (x : El), (xs.map (·.1))[j]? = some x ∧ (L0.map key)[j]? ≠ some (key x)
theorem off_no {L L0 : List El} {xs : List {x // x ∈ L}} (h : Off L0 xs) (hp : xs.map (·.1) <+: L) (e : L.map key = L0.map key) : False := by
  obtain ⟨j, x, hx, hn⟩ := h
  obtain ⟨r, hr⟩ := hp
  refine hn ?_
  have hl := (List.getElem?_eq_some_iff.1 hx).1
  rw [← e, ← hr, List.map_append, List.getElem?_append_left (by rw [List.length_map]; exact hl), List.getElem?_map, hx]
  rfl
theorem off_mk {L L0 : List El} (pre : List {x // x ∈ L}) (x : {x // x ∈ L}) (h : pre.length < L0.length) (hn : key L0[pre.length] ≠ key x.1) : Off L0 (pre ++ [x]) := by
  refine ⟨pre.length, x.1, by simp, ?_⟩
  simpa [h] using hn
end Go.Proofs.Ytgidjfhlooggkaa.Wq

namespace Go.Proofs.Ytgidjfhlooggkaa.Rq
open Go
variable {F : Fence} {n l : Nat} {P : Program} {ops : Array Oper} {Q : Exit → Act → World → Prop} {md : Region.Mode}
def noDef (o : Oper) : Bool := match o.op with
  | .defer _ => false
  | _ => true
theorem noDef_op {o : Oper} (h : noDef o = true) (c) : o.op ≠ .defer c := by
  intro e
  simp [noDef, e] at h
theorem op_round {o : Oper} {a : Act} {w : World} {K : Act → World → Prop} (hd : noDef o = true) (hro : F.round = none) (h : o.wpIn F n P a w K Q) : o.wpIn (F.inRound l) n P a w K Q := by
  unfold Oper.wpIn at h ⊢
  refine ⟨h.1, ?_⟩
  have h2 := h.2
  rw [hro, Oper.semAt_none] at h2
  rw [Oper.semAt_eq _ _ _ (noDef_op hd)]
  generalize (execOp a.eval o).run P w = r at *
  cases r with
  | ok nx w' => cases nx <;> exact h2
  | _ => exact h2
theorem opIn_round {i : Nat} {a : Act} {w : World} {K : Act → World → Prop} (hd : ∀ (j : Nat) (o : Oper), ops[j]? = some o → noDef o = true) (hro : F.round = none) (h : wpOpIn F n P ops Q i K a w) : wpOpIn (F.inRound l) n P ops Q i K a w := by
  unfold wpOpIn at h ⊢
  cases ho : ops[i]? with
  | none => simpa only [ho] using h
  | some o =>
    simp only [ho] at h ⊢
    split at h
    · rename_i hw; rw [if_pos hw]; exact op_round (hd i o ho) hro h
    · rename_i hw; rw [if_neg hw]; exact h
theorem any_round (hd : ∀ (j : Nat) (o : Oper), ops[j]? = some o → noDef o = true) (hro : F.round = none) : ∀ (fuel : Nat) (listed : Array Bool) (a : Act) (w : World), wpAnyIn F n P md ops Q fuel listed a w → wpAnyIn (F.inRound l) n P md ops Q fuel listed a w
  | 0, _, _, _, h => h
  | fuel + 1, _, _, _, h => ⟨h.1, fun i hi => wpOpIn_mono (fun a' w' h' => any_round hd hro fuel _ a' w' h') (opIn_round hd hro (h.2 i hi))⟩
theorem region_round {id : Nat} {a : Act} {w : World} {L : List Oper} (hro : F.round = none) (hm : P.follows .mixedOrders = true) (hB : Region.lexB .any L.toArray = true) (hd : L.all noDef = true)
    (h : wpQuietIn F n P L.toArray (fun w' => ∃ n, w' = w.drewN n) (fun a' => ∀ w', (∃ n, w' = w.drewN n) → Q .normal a' w') L a) : (Code.region id L.toArray true).wpIn (F.inRound l) n P Q a w := by
  have hd' : ∀ (j : Nat) (o : Oper), L.toArray[j]? = some o → noDef o = true := fun j o ho => by
    rw [List.all_eq_true] at hd
    exact hd o (List.mem_of_getElem? (by simpa using ho))
  simp only [Region.lexB, Bool.and_eq_true] at hB
  refine wpIn_region_any hm (any_round hd' hro _ _ _ _ (wpAnyIn_of_quiet (C := fun w' => ∃ n, w' = w.drewN n) (Q := fun a' => ∀ w', (∃ n, w' = w.drewN n) → Q .normal a' w') hro (fun _ w' hw' h => h w' hw') _ _ _ _ ⟨1, rfl⟩ ?_))
  have := wpAnyQIn_lex (F := F) (n := n) (C := fun w' => ∃ n, w' = w.drewN n) (md := .any) hB.1 L.toArray.toList 0 (Array.replicate L.toArray.size false) a (by simp) (by simpa using hB.2) (by simpa using h)
  simpa using this
end Go.Proofs.Ytgidjfhlooggkaa.Rq

namespace Go.Proofs.Ytgidjfhlooggkaa.Wx
set_option linter.unusedVariables false
set_option linter.unusedSimpArgs false
open Go.RowKit Kb Ga Gb Gc Gd Nt Gf Gg Nb Rn Wk Wq Pn
variable {F : Fence} {n : Nat} {P : Program} {w : World}
theorem range3E {L : List El} {g : Operand} {p p' : Tmp} {assign body : Code} {id : Nat} {K : Act → World → Prop} {Q' : Exit → Act → World → Prop} {a : Act} {w : World}
    (hro : F.round = none) (h1 : 1 ≤ n) {gf : Nat} {lb : Array Value} (hg : a.eval g = .func (.func gf) #[] lb) (hFg : F.fn gf) (eg : ∀ args w, (callFunc gf args).run P w = .ok (.enter gf args) w)
    {Kp : World → World → Prop} {S Sp : List {x // x ∈ L} → Prop} {N : Nat} {w0 : World} (hseq : SeqStopsK F (n - 1) P gf lb (fun x : {x // x ∈ L} => enc x.1) Kp S Sp N w0)
    (hKt : ∀ {A B C : World}, Kp A B → Kp B C → Kp A C) (hKb : ∀ (W : World) (l : Nat) (o o' : Obj), w.heap.size ≤ l → W.heap[l]? = some o → o.isCells = false → o.isWalk = false → Kp W (W.putObj l o')) (hb0 : Below w0.heap.size w0 w)
    (q q' : Nat) (E : World → Prop) (I : List {x // x ∈ L} → World → Prop) (Ix : Code → List {x // x ∈ L} → World → Prop) (hI : OwnFrom w.heap.size I) (hIx : ∀ c, OwnFrom w.heap.size (Ix c)) (h0 : I [] w)
    (hd : ∀ xs W, S xs → I xs W → E W) (hs : ∀ c pre W, Sp pre → Ix c pre W → c = .exit id ∧ E W)
    (hassign : ∀ (l : Nat) (pre : List {x // x ∈ L}) (x : {x // x ∈ L}) (W : World) (K : Act → World → Prop), I pre W →
      (∀ blk W', KeepsFrom w.heap.size W W' → Kp W W' → I pre W' → W'.heap[blk]? = some (.cells (nc x.1) 40) → K { tmps := slots a.tmps p p' q q' x.1 blk, defers := [] } W') →
      assign.wpIn (F.inRound l) (n - 1 - 1) P (Exit.then K (fun _ _ _ => False)) { tmps := (a.tmps.setIfInBounds p (.int .i64 (x.1.1 : Int))).setIfInBounds p' (.agg (nc x.1)), defers := [] } W)
    (hbody : ∀ (l : Nat) (pre : List {x // x ∈ L}) (x : {x // x ∈ L}) (blk : Nat) (W : World), w.heap.size ≤ l → (∃ r, W.heap[l]? = some (.loop r)) → I pre W → W.heap[blk]? = some (.cells (nc x.1) 40) → pre.length < N →
      body.wpIn (F.inRound l) (n - 1 - 1) P (ownPostG w.heap.size Kp I Ix (pre ++ [x]) W) { tmps := slots a.tmps p p' q q' x.1 blk, defers := [] } W)
    (hend : ∀ (D : Nat) (W : World), w.heap.size ≤ D → E W → W.heap[D]? = some (.deferred (some [])) → K { a with defers := { target := .collected D, args := #[] } :: a.defers } W) :
    (Code.rangeFunc g #[p, p'] assign body).wpIn F n P (Exit.inBlock id (Exit.then K Q')) a w :=
  range3 hro h1 hg hFg eg hseq hKt hKb hb0 q q' I Ix hI hIx h0 hassign hbody
    (fun D xs W hD hS hi hw => hend D W hD (hd xs W hS hi) hw)
    (fun D c pre W hD hS hi hw => by
      obtain ⟨rfl, hE⟩ := hs c pre W hS hi
      refine wpIn_exit ?_
      simp only [Exit.inBlock, if_true]
      exact hend D W hD hE hw)
theorem prS_key : ∀ (a b : List El), a.map key = b.map key → prS a = prS b
  | [], [], _ => rfl
  | x :: a, y :: b, e => by
    simp only [List.map_cons, List.cons.injEq] at e
    have e1 := e.1
    simp only [key, Prod.mk.injEq] at e1
    have := prS_key a b e.2
    simp only [prS, List.flatMap_cons] at this ⊢
    rw [this, e1.1, e1.2.1, e1.2.2.1]
  | [], y :: b, e => by simp at e
  | x :: a, [], e => by simp at e
theorem head_step {L : List El} {t : List El} {y : El} {x : El} (e : L = y :: t) (h : [x] <+: L) : x = y := by
  obtain ⟨r, hr⟩ := h
  rw [e] at hr
  simpa using congrArg List.head? hr
theorem lnt_blk {w : World} {base g N cap : Nat} {ats : List AT} (h : Le.Lnt w base (.slice (some ⟨g, 0, none⟩) N cap) ats) : base ≤ g ∧ ∃ c fr, w.heap[g]? = some (.cells c 40 fr) := by
  obtain ⟨g', cap', e, hr, _⟩ := h.row
  injection e with e1 e2 e3
  injection e1 with e1
  injection e1 with e1
  subst e1
  refine ⟨(hr.lt g rfl).1, ?_⟩
  rcases hr.2 with ⟨e, _⟩ | ⟨g2, c2, cur, e, _, hgg, _⟩
  · simp at e
  · injection e with e1 e2 e3
    injection e1 with e1
    injection e1 with e1
    subst e1
    exact ⟨_, _, hgg⟩
theorem ne_ty {w : World} {g k : Nat} {c c' : Array Value} {t t' : TypeId} {fr fr' : Nat × Nat} (h : w.heap[g]? = some (.cells c t fr)) (h' : w.heap[k]? = some (.cells c' t' fr')) (ht : t ≠ t') : g ≠ k := by
  rintro rfl
  rw [h] at h'
  cases h'
  exact ht rfl
theorem ne_def {w : World} {g k : Nat} {c : Array Value} {t : TypeId} {fr : Nat × Nat} {d} (h : w.heap[g]? = some (.cells c t fr)) (h' : w.heap[k]? = some (.deferred d)) : g ≠ k := by
  rintro rfl
  rw [h] at h'
  cases h'
/-- a lent list's first node, changed by its owner -/
theorem own_first {w : World} {base g cap N : Nat} {a : AT} {al : List AT} (hN : (a :: al).length = N) (h : Le.Lnt w base (.slice (some ⟨g, 0, none⟩) N cap) (a :: al)) (c : ByteArray) (hc : c.size ≤ 1048576) (t : Int) (ht : tagB t) :
    Le.Lnt ((w.setCell ⟨g, 1, none⟩ (.string c)).setCell ⟨g, 0, none⟩ (.int .i64 t)) base (.slice (some ⟨g, 0, none⟩) N cap) (.mk t c a.kv a.kids :: al) := by
  have h1 := Lc.Lnt.setv hN h (i := 0) (by simp) c hc
  simp only [Nat.zero_mul, Nat.zero_add, List.set_cons_zero, List.getElem_cons_zero] at h1
  have h2 := Lc.Lnt.sett (by simpa using hN) h1 (i := 0) (by simp) t ht
  simpa only [Nat.zero_mul, Nat.zero_add, List.set_cons_zero, List.getElem_cons_zero, Lc.setT, Lc.setV, AT.val, AT.kv, AT.kids] using h2
theorem put_at {w : World} {g k : Nat} {o o' : Obj} (hne : k ≠ g) (h : w.heap[k]? = some o) : (w.putObj g o').heap[k]? = some o := (World.putObj_heap_other hne).trans h
theorem fin {w V0 : World} {D0 D1 D2 D3 : Nat} (h0 : w.heap.size + 1 < D0) (h1 : D0 < D1) (h2 : D1 < D2) (h3 : D2 < D3) {fr : Nat × Nat} {t : TypeId} (mr : V0.heap[w.heap.size + 1]? = some (.cells #[.bool true] t fr))
    (u0 : V0.heap[D0]? = some (.deferred (some []))) (u1 : V0.heap[D1]? = some (.deferred (some []))) (u2 : V0.heap[D2]? = some (.deferred (some []))) (u3 : V0.heap[D3]? = some (.deferred (some []))) (bz : Below w.heap.size w V0) :
    (V0.putObj D3 (.deferred none)).heap[D2]? = some (.deferred (some [])) ∧ ((V0.putObj D3 (.deferred none)).putObj D2 (.deferred none)).heap[D1]? = some (.deferred (some [])) ∧
    (((V0.putObj D3 (.deferred none)).putObj D2 (.deferred none)).putObj D1 (.deferred none)).heap[D0]? = some (.deferred (some [])) ∧
    ((((V0.putObj D3 (.deferred none)).putObj D2 (.deferred none)).putObj D1 (.deferred none)).putObj D0 (.deferred none)).cell? ⟨w.heap.size + 1, 0, none⟩ = some (.bool true) ∧
    Below w.heap.size w ((((V0.putObj D3 (.deferred none)).putObj D2 (.deferred none)).putObj D1 (.deferred none)).putObj D0 (.deferred none)) := by
  have v2 := put_at (o' := .deferred none) (show D2 ≠ D3 by omega) u2
  have v1 := put_at (o' := .deferred none) (show D1 ≠ D2 by omega) (put_at (o' := .deferred none) (show D1 ≠ D3 by omega) u1)
  have v0 := put_at (o' := .deferred none) (show D0 ≠ D1 by omega) (put_at (o' := .deferred none) (show D0 ≠ D2 by omega) (put_at (o' := .deferred none) (show D0 ≠ D3 by omega) u0))
  have vr := put_at (o' := .deferred none) (show w.heap.size + 1 ≠ D0 by omega) (put_at (o' := .deferred none) (show w.heap.size + 1 ≠ D1 by omega) (put_at (o' := .deferred none) (show w.heap.size + 1 ≠ D2 by omega) (put_at (o' := .deferred none) (show w.heap.size + 1 ≠ D3 by omega) mr)))
  refine ⟨v2, v1, v0, by simp [World.cell?, vr], ?_⟩
  exact (((bz.trans (belowK_b (w := w) (Nat.le_refl _) _ D3 _ (.deferred none) (by omega) u3 rfl rfl)).trans (belowK_b (w := w) (Nat.le_refl _) _ D2 _ (.deferred none) (by omega) v2 rfl rfl)).trans (belowK_b (w := w) (Nat.le_refl _) _ D1 _ (.deferred none) (by omega) v1 rfl rfl)).trans (belowK_b (w := w) (Nat.le_refl _) _ D0 _ (.deferred none) (by omega) v0 rfl rfl)
end Go.Proofs.Ytgidjfhlooggkaa.Wx
