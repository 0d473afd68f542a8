/- Ranging over an iterator that itself ranges over another: the contract asks that what stands between the rounds abides the turn of whatever block of the loops' own. -/
import Derived.RangeFuncNested
import Derived.RangeFuncBound
import Derived.RangeFuncCalls
import Derived.RangeFuncLeaves
import Derived.RangeFuncFrom
import Derived.Shelf.Abstract
import Derived.Shelf.RegionOpen
import Derived.WalkKit
import Derived.OwnWalkIn
import Derived.TacticsInMore
import Derived.LoopNIn
import Derived.LoopIn
import Derived.Test.YtgchdjjafgkcbaaXp
namespace Go.Proofs.Ytgchdjjafgkcbaa.Sr
set_option linter.unusedVariables false
set_option linter.unusedSimpArgs false
open Go.RowKit Go.Shelf
/-- an iterator that tells just this list, for whatever abides every turn of blocks that are no cells, laid since -/
def SeqL {α : Type} (n : Nat) (P : Program) (g : Nat) (lb : Array Value) (encs : α → Array Value) (Kp : World → World → Prop) (L : List α) (w : World) : Prop :=
  ∀ (l : Nat) (J Jx : List α → World → Prop) (W : World), Below w.heap.size w W → OwnFrom W.heap.size J → OwnFrom W.heap.size Jx →
    (∀ pre x W1, J pre W1 → pre ++ [x] <+: L → YieldAt Fence.wide (n - 1) P l (encs x) W1 fun e W' =>
      KeepsFrom W.heap.size W1 W' ∧ ((e = .returned (.bool true) ∧ J (pre ++ [x]) W' ∧ Kp W1 W') ∨ (e = .returned (.bool false) ∧ Jx (pre ++ [x]) W'))) →
    J [] W →
    CallsIn Fence.wide n P g (#[.func (.yield l) #[] #[]] ++ lb) W fun e W' => (∃ v, e = .returned v) ∧ (J L W' ∨ (∃ pre, pre <+: L ∧ Jx pre W'))
theorem keeps_put {B l : Nat} (h : l < B) (W : World) (o : Obj) : KeepsFrom B W (W.putObj l o) := ⟨by simp [World.putObj], fun k o' hk e _ => (World.putObj_heap_other (by omega)).trans e⟩
theorem keeps_up {B C : Nat} {W W' : World} (h : KeepsFrom B W W') (hB : B ≤ C) : KeepsFrom C W W' := ⟨h.size, fun k o hk e ho => h.same k o (by omega) e ho⟩
/-- one round of a loop whose record lies in l: what its body owes -/
theorem round_ok {P : Program} {n l B Bk : Nat} {fn : FuncId} {ps : Array Tmp} {tm tmps : Array Value} {assign body : Code} {D : Nat} {Kp : World → World → Prop} {W : World} {Iw Ixs : World → Prop} {Ix : Code → World → Prop} {I0 : World → Prop} {Ax : Act → World → Prop}
    (hBk : B ≤ Bk) (hlk : l < Bk) (hB : B ≤ D) (hDl : D ≠ l) (hlB : B ≤ l) (hfn : Fence.wide.fn fn)
    (hl : W.heap[l]? = some (.loop { state := .ready, pending := none, fn, tmps := tm, params := ps, assign, body, defers := D })) (hk : W.heap[D]? = some (.deferred (some [])))
    (hKt : ∀ {A B C : World}, Kp A B → Kp B C → Kp A C) (hKb : ∀ (W : World) (k : Nat) (o o' : Obj), B ≤ k → W.heap[k]? = some o → o.isCells = false → o.isWalk = false → Kp W (W.putObj k o'))
    (own0 : ∀ W1 : World, ∀ o o', W1.heap[l]? = some o → o.isCells = false → I0 W1 → I0 (W1.putObj l o')) (ownA : ∀ a' (W1 : World), ∀ o o', W1.heap[l]? = some o → o.isCells = false → Ax a' W1 → Ax a' (W1.putObj l o'))
    (ownI : ∀ W1 : World, ∀ o o', W1.heap[l]? = some o → o.isCells = false → Iw W1 → Iw (W1.putObj l o')) (ownX : ∀ c (W1 : World), ∀ o o', W1.heap[l]? = some o → o.isCells = false → Ix c W1 → Ix c (W1.putObj l o'))
    (hassign : ∀ K : Act → World → Prop, (∀ a' W', KeepsFrom B W W' → Kp W W' → I0 W' → Ax a' W' → K a' W') → assign.wpIn (Fence.wide.inRound l) n P (Exit.then K (fun _ _ _ => False)) { tmps := tmps, defers := [] } W)
    (hbody : ∀ (a' : Act) (W1 : World), (∃ r, W1.heap[l]? = some (.loop r)) → I0 W1 → Ax a' W1 → body.wpIn (Fence.wide.inRound l) n P (fun e a3 W3 => match e with
      | .normal => KeepsFrom B W1 W3 ∧ Kp W1 W3 ∧ Iw W3
      | .ret => KeepsFrom B W1 W3 ∧ Ix .ret W3
      | .exit id => KeepsFrom B W1 W3 ∧ Ix (.exit id) W3
      | .goto t => KeepsFrom B W1 W3 ∧ Ix (.goto t) W3
      | .panic _ => False
      | .outgrown => False) a' W1) :
    RoundIn Fence.wide n P l fn tmps assign body W fun e W' => KeepsFrom Bk W W' ∧ (
      (e = .returned (.bool true) ∧ (Iw W' ∧ W'.heap[l]? = some (.loop { state := .ready, pending := none, fn, tmps := tm, params := ps, assign, body, defers := D }) ∧ W'.heap[D]? = some (.deferred (some []))) ∧ Kp W W') ∨
      (e = .returned (.bool false) ∧ ∃ c, Ix c W' ∧ W'.heap[l]? = some (.loop { state := .done, pending := some c, fn, tmps := tm, params := ps, assign, body, defers := D }) ∧ W'.heap[D]? = some (.deferred (some [])))) := by
  refine roundIn_of_wpIn hfn (hassign _ fun a' Wa kf kp hi hax => ?_)
  have hl1 := kf.same _ _ hlB hl rfl
  have hk1 := kf.same _ _ hB hk rfl
  have hlt := (Array.getElem?_eq_some_iff.1 hl1).1
  refine ⟨_, run_beginRound hl1 rfl, ?_⟩
  generalize hW2 : Wa.putObj l _ = W2
  have hl2 : ∃ r, W2.heap[l]? = some (.loop r) ∧ r = { state := .busy, pending := none, fn, tmps := tm, params := ps, assign, body, defers := D } := ⟨_, by rw [← hW2]; exact World.putObj_heap_same hlt, rfl⟩
  obtain ⟨r, hl2, hr⟩ := hl2
  have hk2 : W2.heap[D]? = some (.deferred (some [])) := by rw [← hW2]; exact (World.putObj_heap_other hDl).trans hk1
  have kf2 : KeepsFrom Bk W W2 := by rw [← hW2]; exact (keeps_up kf hBk).trans (keeps_put hlk _ _)
  have kp2 : Kp Wa W2 := by rw [← hW2]; exact hKb _ _ _ _ hlB hl1 rfl rfl
  have hi2 : I0 W2 := by rw [← hW2]; exact own0 _ _ _ hl1 rfl hi
  have ha2 : Ax a' W2 := by rw [← hW2]; exact ownA _ _ _ _ hl1 rfl hax
  clear hW2
  have fin : ∀ (jump : Option Code) (W3 : World), KeepsFrom B W2 W3 → ∃ r', r' = ({ state := if jump.isNone then .ready else .done, pending := jump, fn, tmps := tm, params := ps, assign, body, defers := D } : Loop) ∧
      (Instr.endRound l jump).run P W3 = .ok (.bool jump.isNone) (W3.putObj l (.loop r')) ∧ W3.heap[l]? = some (.loop r) ∧ (W3.putObj l (.loop r')).heap[l]? = some (.loop r') ∧ (W3.putObj l (.loop r')).heap[D]? = some (.deferred (some [])) := fun jump W3 h3 => by
    have hl3 := h3.same _ _ hlB hl2 rfl
    refine ⟨_, rfl, ?_, hl3, World.putObj_heap_same (Array.getElem?_eq_some_iff.1 hl3).1, (World.putObj_heap_other hDl).trans (h3.same _ _ hB hk2 rfl)⟩
    have := run_endRound (P := P) jump hl3
    rw [hr] at this
    exact this
  refine wpIn_mono (hbody a' W2 ⟨r, hl2⟩ hi2 ha2) ?_
  rintro e a3 W3 hp
  have jmp : ∀ c, KeepsFrom B W2 W3 ∧ Ix c W3 → ∃ b W', (Instr.endRound l (some c)).run P W3 = .ok b W' ∧ (KeepsFrom Bk W W' ∧ ((Ending.returned b = .returned (.bool true) ∧ (Iw W' ∧ W'.heap[l]? = some (.loop { state := .ready, pending := none, fn, tmps := tm, params := ps, assign, body, defers := D }) ∧ W'.heap[D]? = some (.deferred (some []))) ∧ Kp W W') ∨ (Ending.returned b = .returned (.bool false) ∧ ∃ c, Ix c W' ∧ W'.heap[l]? = some (.loop { state := .done, pending := some c, fn, tmps := tm, params := ps, assign, body, defers := D }) ∧ W'.heap[D]? = some (.deferred (some []))))) := fun c hc => by
    obtain ⟨r', e', h1, h2, h3, h4⟩ := fin (some c) W3 hc.1
    refine ⟨_, _, h1, kf2.trans ((keeps_up hc.1 hBk).trans (keeps_put hlk _ _)), .inr ⟨rfl, c, ownX _ _ _ _ h2 rfl hc.2, ?_, h4⟩⟩
    rw [h3, e']; rfl
  cases e with
  | normal =>
    obtain ⟨h3, kp3, i3⟩ := hp
    obtain ⟨r', e', h1, h2, h4, h5⟩ := fin none W3 h3
    refine ⟨_, _, h1, kf2.trans ((keeps_up h3 hBk).trans (keeps_put hlk _ _)), .inl ⟨rfl, ⟨ownI _ _ _ h2 rfl i3, ?_, h5⟩, hKt kp (hKt (hKt kp2 kp3) (hKb _ _ _ _ hlB h2 rfl rfl))⟩⟩
    rw [h4, e']; rfl
  | ret => exact jmp _ hp
  | exit id => exact jmp _ hp
  | goto t => exact jmp _ hp
  | panic ch => exact hp.elim
  | outgrown => exact hp.elim
/-- the law -/
theorem range_o {α : Type} {n : Nat} {P : Program} {g : Operand} {ps : Array Tmp} {assign body : Code} {Q : Exit → Act → World → Prop} {a : Act} {w : World}
    (h1 : 1 ≤ n) {gf : Nat} {lb : Array Value} (hg : a.eval g = .func (.func gf) #[] lb) (eg : ∀ args w, (callFunc gf args).run P w = .ok (.enter gf args) w)
    {encs : α → Array Value} {Kp : World → World → Prop} {L : List α} {w0 : World} (hseq : SeqL (n - 1) P gf lb encs Kp L w0)
    (hKt : ∀ {A B C : World}, Kp A B → Kp B C → Kp A C) (hKb : ∀ (W : World) (l : Nat) (o o' : Obj), w.heap.size ≤ l → W.heap[l]? = some o → o.isCells = false → o.isWalk = false → Kp W (W.putObj l o')) (hb0 : Below w0.heap.size w0 w) (hps : ∀ x, (encs x).size = ps.size)
    (I : List α → World → Prop) (Ix : Code → List α → World → Prop) (hI : OwnFrom w.heap.size I) (hIx : ∀ c, OwnFrom w.heap.size (Ix c)) (h0 : I [] w) (Ax : α → Act → World → Prop) (hAx : ∀ x a', OwnFrom w.heap.size (fun (_ : Unit) W => Ax x a' W))
    (hassign : ∀ (l : Nat) (pre : List α) (x : α) (W : World) (K : Act → World → Prop), I pre W → (∀ a' W', KeepsFrom w.heap.size W W' → Kp W W' → I pre W' → Ax x a' W' → K a' W') →
      assign.wpIn (Fence.wide.inRound l) (n - 1 - 1) P (Exit.then K (fun _ _ _ => False)) { tmps := (ps.zip (encs x)).foldl (fun t (p, v) => t.setIfInBounds p v) a.tmps, defers := [] } W)
    (hbody : ∀ (l : Nat) (pre : List α) (x : α) (a' : Act) (W : World), w.heap.size ≤ l → (∃ r, W.heap[l]? = some (.loop r)) → I pre W → Ax x a' W → pre ++ [x] <+: L → body.wpIn (Fence.wide.inRound l) (n - 1 - 1) P (ownPostG w.heap.size Kp I Ix (pre ++ [x]) W) a' W)
    (hdone : ∀ (D : Nat) (W : World), w.heap.size ≤ D → I L W → W.heap[D]? = some (.deferred (some [])) → Q .normal { a with defers := { target := .collected D, args := #[] } :: a.defers } W)
    (hstop : ∀ (D : Nat) (c : Code) (pre : List α) (W : World), w.heap.size ≤ D → pre <+: L → Ix c pre W → W.heap[D]? = some (.deferred (some [])) → c.wpIn Fence.wide n P Q { a with defers := { target := .collected D, args := #[] } :: a.defers } W) :
    (Code.rangeFunc g ps assign body).wpIn Fence.wide n P Q a w := by
  refine wpIn_rangeFunc fun fn hfn => ?_
  generalize hW1 : (w.alloc (.deferred (some []))).alloc (.loop { state := .ready, pending := none, fn, tmps := a.tmps, params := ps, assign, body, defers := w.heap.size }) = W1
  have hs1 : W1.heap.size = w.heap.size + 1 + 1 := by rw [← hW1]; simp
  have hL1 : W1.heap[w.heap.size + 1]? = some (.loop { state := .ready, pending := none, fn, tmps := a.tmps, params := ps, assign, body, defers := w.heap.size }) := by
    have := World.alloc_heap_new (w.alloc (.deferred (some []))) (.loop { state := .ready, pending := none, fn, tmps := a.tmps, params := ps, assign, body, defers := w.heap.size })
    rw [World.size_alloc, hW1] at this; exact this
  have hK1 : W1.heap[w.heap.size]? = some (.deferred (some [])) := by
    rw [← hW1]; exact (Below.heap_alloc _ _ _ (by simp)).trans (World.alloc_heap_new w _)
  have hI1 : I [] W1 := by rw [← hW1]; exact hI.alloc _ (hI.alloc _ h0)
  have hb1 : Below w0.heap.size w0 W1 := by
    rw [← hW1]; exact hb0.trans ((((Below.refl _ w).alloc (Nat.le_refl _) _).alloc (by simp) _).mono hb0.size)
  refine ⟨w.heap.size + 1, [{ target := .collected w.heap.size, args := #[] }], W1, { target := .fn (.func gf) lb, args := #[.func (.yield (w.heap.size + 1)) #[] #[]] }, W1, gf,
    #[.func (.yield (w.heap.size + 1)) #[] #[]] ++ lb, W1, ?_, ?_, fun _ _ => trivial, ?_, fun _ => h1, ?_⟩
  · rw [← hW1]; exact run_enterLoop_outer _ _ _ _ _
  · simp only [resolve, hg]
    simp [go_sem]
  · simp [invoke, go_sem, eg]
  · have kp : ∀ {A B : World} {row : Option Nat} {k : Nat} {o : Obj}, A.grownBy B row → (∀ r, row = some r → W1.heap.size ≤ r ∧ ∃ o : Obj, A.heap[r]? = some o ∧ o.isCells = false) → k < W1.heap.size → A.heap[k]? = some o → B.heap[k]? = some o := fun hg' hr hk h =>
      (hg'.block _ (Array.getElem?_eq_some_iff.1 h).1 (fun e => by have := (hr _ e.symm).1; omega)).trans h
    have hnw : ∀ {A : World} {row : Option Nat}, (∀ r, row = some r → W1.heap.size ≤ r ∧ ∃ o : Obj, A.heap[r]? = some o ∧ o.isCells = false) → (∀ r, row = some r → w.heap.size ≤ r ∧ ∃ o : Obj, A.heap[r]? = some o ∧ o.isCells = false) :=
      fun hr r e => ⟨by have := (hr r e).1; omega, (hr r e).2⟩
    refine (hseq (w.heap.size + 1)
      (fun pre W => I pre W ∧ W.heap[w.heap.size + 1]? = some (.loop { state := .ready, pending := none, fn, tmps := a.tmps, params := ps, assign, body, defers := w.heap.size }) ∧ W.heap[w.heap.size]? = some (.deferred (some [])))
      (fun pre W => ∃ c, Ix c pre W ∧ W.heap[w.heap.size + 1]? = some (.loop { state := .done, pending := some c, fn, tmps := a.tmps, params := ps, assign, body, defers := w.heap.size }) ∧ W.heap[w.heap.size]? = some (.deferred (some [])))
      W1 hb1
      (fun s A B row hs hg' hr => ⟨hI s A B row hs.1 hg' (hnw hr), kp hg' hr (by omega) hs.2.1, kp hg' hr (by omega) hs.2.2⟩)
      (fun s A B row hs hg' hr => let ⟨c, hc, hl, hk⟩ := hs; ⟨c, hIx c s A B row hc hg' (hnw hr), kp hg' hr (by omega) hl, kp hg' hr (by omega) hk⟩)
      ?_ ⟨hI1, hL1, hK1⟩).mono ?_
    · rintro pre x W ⟨hi, hl, hk⟩ hlen
      have hy := run_yield (P := P) (args := encs x) hl (hps x)
      refine ⟨fn, _, assign, body, hy, ?_⟩
      clear hy
      refine round_ok (B := w.heap.size) (Bk := W1.heap.size) (Kp := Kp) (Iw := fun W => I (pre ++ [x]) W) (Ixs := fun _ => True) (Ix := fun c W => Ix c (pre ++ [x]) W) (I0 := fun W => I pre W) (Ax := fun a' W => Ax x a' W) (by omega) (by omega) (Nat.le_refl _) (by omega) (by omega) trivial hl hk hKt hKb ?_ ?_ ?_ ?_ (fun K hK => hassign _ pre x W K hi hK) ?_
      · exact fun W1 o o' h1 h2 h3 => hI.putObj _ h3 (by omega) h1 h2
      · exact fun a' W1 o o' h1 h2 h3 => (hAx x a').putObj (s := ()) _ h3 (by omega) h1 h2
      · exact fun W1 o o' h1 h2 h3 => hI.putObj _ h3 (by omega) h1 h2
      · exact fun c W1 o o' h1 h2 h3 => (hIx c).putObj _ h3 (by omega) h1 h2
      · intro a' W1 hr hi1 hax
        refine wpIn_mono (hbody _ pre x a' W1 (by omega) hr hi1 hax hlen) ?_
        rintro e a3 W3 hp
        cases e <;> exact hp
    · rintro e W2 ⟨⟨v, rfl⟩, (⟨hi, hl, hk⟩ | ⟨pre, hSp, c, hi, hl, hk⟩)⟩
      · exact ⟨none, _, run_endLoop hl (by simp), hdone _ _ (Nat.le_refl _) (hI.putObj _ hi (by omega) hl rfl) ((World.putObj_heap_other (by omega)).trans hk)⟩
      · exact ⟨some c, _, run_endLoop hl (by simp), hstop _ c pre _ (Nat.le_refl _) hSp ((hIx c).putObj _ hi (by omega) hl rfl) ((World.putObj_heap_other (by omega)).trans hk)⟩
/-- two loop variables, in slots of their own -/
theorem range2 {α : Type} {n : Nat} {P : Program} {g : Operand} {p1 p2 : Tmp} {assign body : Code} {Q : Exit → Act → World → Prop} {a : Act} {w : World}
    (h1 : 1 ≤ n) {gf : Nat} {lb : Array Value} (hg : a.eval g = .func (.func gf) #[] lb) (eg : ∀ args w, (callFunc gf args).run P w = .ok (.enter gf args) w)
    {u v : α → Value} {Kp : World → World → Prop} {L : List α} {w0 : World} (hseq : SeqL (n - 1) P gf lb (fun x => #[u x, v x]) Kp L w0)
    (hKt : ∀ {A B C : World}, Kp A B → Kp B C → Kp A C) (hKb : ∀ (W : World) (l : Nat) (o o' : Obj), w.heap.size ≤ l → W.heap[l]? = some o → o.isCells = false → o.isWalk = false → Kp W (W.putObj l o')) (hKr : ∀ W, Kp W W) (hb0 : Below w0.heap.size w0 w)
    (q1 q2 : Nat) (I : List α → World → Prop) (Ix : Code → List α → World → Prop) (hI : OwnFrom w.heap.size I) (hIx : ∀ c, OwnFrom w.heap.size (Ix c)) (h0 : I [] w)
    (hassign : ∀ (l : Nat) (x : α) (W : World) (K : Act → World → Prop), K { tmps := (((a.tmps.setIfInBounds p1 (u x)).setIfInBounds p2 (v x)).setIfInBounds q1 (u x)).setIfInBounds q2 (v x), defers := [] } W →
      assign.wpIn (Fence.wide.inRound l) (n - 1 - 1) P (Exit.then K (fun _ _ _ => False)) { tmps := (a.tmps.setIfInBounds p1 (u x)).setIfInBounds p2 (v x), defers := [] } W)
    (hbody : ∀ (l : Nat) (pre : List α) (x : α) (W : World), w.heap.size ≤ l → I pre W → pre ++ [x] <+: L → body.wpIn (Fence.wide.inRound l) (n - 1 - 1) P (ownPostG w.heap.size Kp I Ix (pre ++ [x]) W) { tmps := (((a.tmps.setIfInBounds p1 (u x)).setIfInBounds p2 (v x)).setIfInBounds q1 (u x)).setIfInBounds q2 (v x), defers := [] } W)
    (hdone : ∀ (D : Nat) (W : World), w.heap.size ≤ D → I L W → W.heap[D]? = some (.deferred (some [])) → Q .normal { a with defers := { target := .collected D, args := #[] } :: a.defers } W)
    (hstop : ∀ (D : Nat) (c : Code) (pre : List α) (W : World), w.heap.size ≤ D → pre <+: L → Ix c pre W → W.heap[D]? = some (.deferred (some [])) → c.wpIn Fence.wide n P Q { a with defers := { target := .collected D, args := #[] } :: a.defers } W) :
    (Code.rangeFunc g #[p1, p2] assign body).wpIn Fence.wide n P Q a w :=
  range_o h1 hg eg hseq hKt hKb hb0 (fun _ => rfl) I Ix hI hIx h0 (fun x a' _ => a' = { tmps := (((a.tmps.setIfInBounds p1 (u x)).setIfInBounds p2 (v x)).setIfInBounds q1 (u x)).setIfInBounds q2 (v x), defers := [] }) (fun _ _ _ _ _ _ hs _ _ => hs)
    (fun l pre x W K hi hK => by simpa using hassign l x W K (hK _ _ (KeepsFrom.refl _ _) (hKr W) hi rfl)) (fun l pre x a' W hl _ hi e hp => by subst e; exact hbody l pre x W hl hi hp) hdone hstop
end Go.Proofs.Ytgchdjjafgkcbaa.Sr
