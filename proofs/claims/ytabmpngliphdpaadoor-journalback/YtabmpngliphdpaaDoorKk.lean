/- Ranging over a journal: the iterator's own blocks (a cutter, its channels) are apart by their types. -/
import Derived.RangeFuncNested
import Derived.RangeFuncBound
import Derived.RangeFuncCalls
import Derived.RangeFuncLeaves
import Derived.RangeFuncFrom
import Derived.Shelf.Abstract
import Derived.Shelf.RegionOpen
import Derived.WalkKit
import Derived.OwnWalkIn
import Derived.TacticsInMore
import Derived.LoopNIn
import Derived.LoopIn
import Derived.Test.YtabmpngliphdpaaDoorKg
namespace Go.Proofs.YtabmpngliphdpaaDoor.Kk
set_option linter.unusedVariables false
set_option linter.unusedSimpArgs false
open Go.RowKit Go.Shelf Go.Conc Lib0 Kb Ja Jl Jn Jp Jr Ju Jg Bj Ka Jx Jy Kc Kg
abbrev tCu : TypeId := 139
abbrev tRe : TypeId := 107
/-- what a range over a journal may turn: what is no cells, and cutters, laid since B -/
structure Tj (B : Nat) (A A' : World) : Prop where
  os : A'.os = A.os
  tape : A'.tape = A.tape
  output : A'.output = A.output
  size : A.heap.size ≤ A'.heap.size
  keep : ∀ k o, A.heap[k]? = some o → (k < B ∨ (o.isCells = true ∧ ∀ c fr, o ≠ .cells c tCu fr ∧ o ≠ .cells c tRe fr)) → A'.heap[k]? = some o
theorem Tj.refl (B : Nat) (A : World) : Tj B A A := ⟨rfl, rfl, rfl, Nat.le_refl _, fun _ _ h _ => h⟩
theorem Tj.trans {B : Nat} {a b c : World} (h : Tj B a b) (k : Tj B b c) : Tj B a c := ⟨k.os.trans h.os, k.tape.trans h.tape, k.output.trans h.output, Nat.le_trans h.size k.size, fun i o hi ho => k.keep i o (h.keep i o hi ho) ho⟩
theorem Tj.of_below {B : Nat} {a b : World} (h : Below a.heap.size a b) : Tj B a b := ⟨h.os, h.tape, h.output, h.size, fun k o hk _ => (h.block k (Array.getElem?_eq_some_iff.1 hk).1).trans hk⟩
theorem Tj.of_grown {B : Nat} {a b : World} {row : Option Nat} (h : a.grownBy b row) (hr : ∀ r, row = some r → B ≤ r ∧ ∃ o : Obj, a.heap[r]? = some o ∧ o.isCells = false) : Tj B a b :=
  ⟨h.os, h.tape, h.output, h.size, fun k o hk ho => (h.block k (Array.getElem?_eq_some_iff.1 hk).1 (fun e => by
    obtain ⟨h1, o', h2, h3⟩ := hr k e.symm
    rw [hk] at h2
    cases h2
    rcases ho with ho | ho
    · omega
    · rw [h3] at ho; cases ho.1)).trans hk⟩
theorem Tj.of_oc {B g rc ec : Nat} {a b : World} {s : ByteArray} {at' n : Nat} (hc : Cu a g s at' n rc ec) (h : Oc g rc ec a b) (hg : B ≤ g) (h1 : B ≤ rc) (h2 : B ≤ ec) : Tj B a b :=
  ⟨h.os, h.tape, h.output, h.size, fun k o hk ho => (h.block k (Array.getElem?_eq_some_iff.1 hk).1
    (fun e => by subst e; rw [hc.row] at hk; cases hk; rcases ho with ho | ho; omega; exact (ho.2 _ _).1 rfl)
    (fun e => by subst e; obtain ⟨q, hq⟩ := hc.rch; rw [hq] at hk; cases hk; rcases ho with ho | ho; omega; cases ho.1)
    (fun e => by subst e; obtain ⟨q, hq⟩ := hc.ech; rw [hq] at hk; cases hk; rcases ho with ho | ho; omega; cases ho.1)).trans hk⟩
theorem Tj.of_row {B q : Nat} {a : World} {c0 : Array Value} {fr : Nat × Nat} (h : a.heap[q]? = some (.cells c0 tRe fr)) (hB : B ≤ q) (c : Array Value) : Tj B a (a.setRow q c) :=
  ⟨rfl, rfl, rfl, by simp, fun k o hk ho => (setRow_other a q k c (fun e => by subst e; rw [h] at hk; cases hk; rcases ho with ho | ho; omega; exact (ho.2 _ _).2 rfl)).trans hk⟩
theorem Tj.mono {B C : Nat} {a b : World} (h : Tj C a b) (hB : B ≤ C) : Tj B a b := ⟨h.os, h.tape, h.output, h.size, fun k o hk ho => h.keep k o hk (ho.elim (fun e => .inl (by omega)) .inr)⟩
/-- it abides all that a range may turn -/
def AbJ {β : Type} (B : Nat) (J : β → World → Prop) : Prop := ∀ s A A', J s A → Tj B A A' → J s A'
theorem AbJ.own {β : Type} {B : Nat} {J : β → World → Prop} (h : AbJ B J) : OwnFrom B J := fun s W W' row hs hg hr => h s W W' hs (.of_grown hg hr)
/-- an iterator that tells the entries of these bodies, one behind the other, each with outputs in new memory -/
def SeqJ (n : Nat) (P : Program) (gf : Nat) (lb : Array Value) (B jg : Nat) (pj vj : Value) (l : List UInt8) (nn : Int) (Kp : World → World → Prop) (L : List (List UInt8)) (w : World) : Prop :=
  ∀ (l' : Nat) (J Jx : List (List UInt8) → World → Prop) (W : World), Below w.heap.size w W → AbJ W.heap.size J → AbJ W.heap.size Jx → (∀ s A, J s A → Lv A) →
    (∀ pre x v M W1, J pre W1 → pre ++ [x] <+: L → W1.ownsRow W.heap.size 85 5 v M (osV (Jo.evR (some x))) → YieldAt Fence.wide (n - 1) P l' #[.int .i64 ((pre.length + 1 : Nat) : Int), .agg (Jo.evV (some x) ++ #[v])] W1 fun e W' =>
      KeepsFrom W.heap.size W1 W' ∧ ((e = .returned (.bool true) ∧ J (pre ++ [x]) W' ∧ Kp W1 W') ∨ (e = .returned (.bool false) ∧ Jx (pre ++ [x]) W'))) →
    (∀ y, Fj jg vj W y → Jo y B jg pj vj l nn → J [] y) →
    CallsIn Fence.wide n P gf (#[.func (.yield l') #[] #[]] ++ lb) W fun e W' => (∃ v, e = .returned v) ∧ (J L W' ∨ (∃ pre, pre <+: L ∧ Jx pre W'))
theorem keeps_put {B l : Nat} (h : l < B) (W : World) (o : Obj) : KeepsFrom B W (W.putObj l o) := ⟨by simp [World.putObj], fun k o' hk e _ => (World.putObj_heap_other (by omega)).trans e⟩
theorem keeps_up {B C : Nat} {W W' : World} (h : KeepsFrom B W W') (hB : B ≤ C) : KeepsFrom C W W' := ⟨h.size, fun k o hk e ho => h.same k o (by omega) e ho⟩
/-- one round of a loop whose record lies in l: what its body owes -/
theorem round_ok {P : Program} {n l B Bk : Nat} {fn : FuncId} {ps : Array Tmp} {tm tmps : Array Value} {assign body : Code} {D : Nat} {Kp : World → World → Prop} {W : World} {Iw Ixs : World → Prop} {Ix : Code → World → Prop} {I0 : World → Prop} {Ax : Act → World → Prop}
    (hBk : B ≤ Bk) (hlk : l < Bk) (hB : B ≤ D) (hDl : D ≠ l) (hlB : B ≤ l) (hfn : Fence.wide.fn fn)
    (hl : W.heap[l]? = some (.loop { state := .ready, pending := none, fn, tmps := tm, params := ps, assign, body, defers := D })) (hk : W.heap[D]? = some (.deferred (some [])))
    (hKt : ∀ {A B C : World}, Kp A B → Kp B C → Kp A C) (hKb : ∀ (W : World) (k : Nat) (o o' : Obj), B ≤ k → W.heap[k]? = some o → o.isCells = false → o.isWalk = false → Kp W (W.putObj k o'))
    (own0 : ∀ W1 : World, ∀ o o', W1.heap[l]? = some o → o.isCells = false → I0 W1 → I0 (W1.putObj l o')) (ownA : ∀ a' (W1 : World), ∀ o o', W1.heap[l]? = some o → o.isCells = false → Ax a' W1 → Ax a' (W1.putObj l o'))
    (ownI : ∀ W1 : World, ∀ o o', W1.heap[l]? = some o → o.isCells = false → Iw W1 → Iw (W1.putObj l o')) (ownX : ∀ c (W1 : World), ∀ o o', W1.heap[l]? = some o → o.isCells = false → Ix c W1 → Ix c (W1.putObj l o'))
    (hassign : ∀ K : Act → World → Prop, (∀ a' W', KeepsFrom B W W' → Kp W W' → I0 W' → Ax a' W' → K a' W') → assign.wpIn (Fence.wide.inRound l) n P (Exit.then K (fun _ _ _ => False)) { tmps := tmps, defers := [] } W)
    (hbody : ∀ (a' : Act) (W1 : World), (∃ r, W1.heap[l]? = some (.loop r)) → I0 W1 → Ax a' W1 → body.wpIn (Fence.wide.inRound l) n P (fun e a3 W3 => match e with
      | .normal => KeepsFrom B W1 W3 ∧ Kp W1 W3 ∧ Iw W3
      | .ret => KeepsFrom B W1 W3 ∧ Ix .ret W3
      | .exit id => KeepsFrom B W1 W3 ∧ Ix (.exit id) W3
      | .goto t => KeepsFrom B W1 W3 ∧ Ix (.goto t) W3
      | .panic _ => False
      | .outgrown => False) a' W1) :
    RoundIn Fence.wide n P l fn tmps assign body W fun e W' => KeepsFrom Bk W W' ∧ (
      (e = .returned (.bool true) ∧ (Iw W' ∧ W'.heap[l]? = some (.loop { state := .ready, pending := none, fn, tmps := tm, params := ps, assign, body, defers := D }) ∧ W'.heap[D]? = some (.deferred (some []))) ∧ Kp W W') ∨
      (e = .returned (.bool false) ∧ ∃ c, Ix c W' ∧ W'.heap[l]? = some (.loop { state := .done, pending := some c, fn, tmps := tm, params := ps, assign, body, defers := D }) ∧ W'.heap[D]? = some (.deferred (some [])))) := by
  refine roundIn_of_wpIn hfn (hassign _ fun a' Wa kf kp hi hax => ?_)
  have hl1 := kf.same _ _ hlB hl rfl
  have hk1 := kf.same _ _ hB hk rfl
  have hlt := (Array.getElem?_eq_some_iff.1 hl1).1
  refine ⟨_, run_beginRound hl1 rfl, ?_⟩
  generalize hW2 : Wa.putObj l _ = W2
  have hl2 : ∃ r, W2.heap[l]? = some (.loop r) ∧ r = { state := .busy, pending := none, fn, tmps := tm, params := ps, assign, body, defers := D } := ⟨_, by rw [← hW2]; exact World.putObj_heap_same hlt, rfl⟩
  obtain ⟨r, hl2, hr⟩ := hl2
  have hk2 : W2.heap[D]? = some (.deferred (some [])) := by rw [← hW2]; exact (World.putObj_heap_other hDl).trans hk1
  have kf2 : KeepsFrom Bk W W2 := by rw [← hW2]; exact (keeps_up kf hBk).trans (keeps_put hlk _ _)
  have kp2 : Kp Wa W2 := by rw [← hW2]; exact hKb _ _ _ _ hlB hl1 rfl rfl
  have hi2 : I0 W2 := by rw [← hW2]; exact own0 _ _ _ hl1 rfl hi
  have ha2 : Ax a' W2 := by rw [← hW2]; exact ownA _ _ _ _ hl1 rfl hax
  clear hW2
  have fin : ∀ (jump : Option Code) (W3 : World), KeepsFrom B W2 W3 → ∃ r', r' = ({ state := if jump.isNone then .ready else .done, pending := jump, fn, tmps := tm, params := ps, assign, body, defers := D } : Loop) ∧
      (Instr.endRound l jump).run P W3 = .ok (.bool jump.isNone) (W3.putObj l (.loop r')) ∧ W3.heap[l]? = some (.loop r) ∧ (W3.putObj l (.loop r')).heap[l]? = some (.loop r') ∧ (W3.putObj l (.loop r')).heap[D]? = some (.deferred (some [])) := fun jump W3 h3 => by
    have hl3 := h3.same _ _ hlB hl2 rfl
    refine ⟨_, rfl, ?_, hl3, World.putObj_heap_same (Array.getElem?_eq_some_iff.1 hl3).1, (World.putObj_heap_other hDl).trans (h3.same _ _ hB hk2 rfl)⟩
    have := run_endRound (P := P) jump hl3
    rw [hr] at this
    exact this
  refine wpIn_mono (hbody a' W2 ⟨r, hl2⟩ hi2 ha2) ?_
  rintro e a3 W3 hp
  have jmp : ∀ c, KeepsFrom B W2 W3 ∧ Ix c W3 → ∃ b W', (Instr.endRound l (some c)).run P W3 = .ok b W' ∧ (KeepsFrom Bk W W' ∧ ((Ending.returned b = .returned (.bool true) ∧ (Iw W' ∧ W'.heap[l]? = some (.loop { state := .ready, pending := none, fn, tmps := tm, params := ps, assign, body, defers := D }) ∧ W'.heap[D]? = some (.deferred (some []))) ∧ Kp W W') ∨ (Ending.returned b = .returned (.bool false) ∧ ∃ c, Ix c W' ∧ W'.heap[l]? = some (.loop { state := .done, pending := some c, fn, tmps := tm, params := ps, assign, body, defers := D }) ∧ W'.heap[D]? = some (.deferred (some []))))) := fun c hc => by
    obtain ⟨r', e', h1, h2, h3, h4⟩ := fin (some c) W3 hc.1
    refine ⟨_, _, h1, kf2.trans ((keeps_up hc.1 hBk).trans (keeps_put hlk _ _)), .inr ⟨rfl, c, ownX _ _ _ _ h2 rfl hc.2, ?_, h4⟩⟩
    rw [h3, e']; rfl
  cases e with
  | normal =>
    obtain ⟨h3, kp3, i3⟩ := hp
    obtain ⟨r', e', h1, h2, h4, h5⟩ := fin none W3 h3
    refine ⟨_, _, h1, kf2.trans ((keeps_up h3 hBk).trans (keeps_put hlk _ _)), .inl ⟨rfl, ⟨ownI _ _ _ h2 rfl i3, ?_, h5⟩, hKt kp (hKt (hKt kp2 kp3) (hKb _ _ _ _ hlB h2 rfl rfl))⟩⟩
    rw [h4, e']; rfl
  | ret => exact jmp _ hp
  | exit id => exact jmp _ hp
  | goto t => exact jmp _ hp
  | panic ch => exact hp.elim
  | outgrown => exact hp.elim
/-- the law -/
theorem range_j {n : Nat} {P : Program} {g : Operand} {ps : Array Tmp} {assign body : Code} {Q : Exit → Act → World → Prop} {a : Act} {w : World}
    (h1 : 1 ≤ n) {gf : Nat} {lb : Array Value} (hg : a.eval g = .func (.func gf) #[] lb) (eg : ∀ args w, (callFunc gf args).run P w = .ok (.enter gf args) w)
    {B jg : Nat} {pj vj : Value} {bl : List UInt8} {nn : Int} {Kp : World → World → Prop} {L : List (List UInt8)} {w0 : World} (hseq : SeqJ (n - 1) P gf lb B jg pj vj bl nn Kp L w0)
    (hKt : ∀ {A B C : World}, Kp A B → Kp B C → Kp A C) (hKb : ∀ (W : World) (l : Nat) (o o' : Obj), w.heap.size ≤ l → W.heap[l]? = some o → o.isCells = false → o.isWalk = false → Kp W (W.putObj l o')) (hb0 : Below w0.heap.size w0 w) (hjo : Jo w B jg pj vj bl nn) (hps : ps.size = 2)
    (I : List (List UInt8) → World → Prop) (Ix : Code → List (List UInt8) → World → Prop) (hI : AbJ w.heap.size I) (hIx : ∀ c, AbJ w.heap.size (Ix c)) (hLv : ∀ s A, I s A → Lv A) (h0 : ∀ y, Fj jg vj w y → Jo y B jg pj vj bl nn → I [] y) (Ax : List (List UInt8) → List UInt8 → Act → World → Prop) (hAx : ∀ pre x a', AbJ w.heap.size (fun (_ : Unit) W => Ax pre x a' W))
    (hassign : ∀ (l : Nat) (pre : List (List UInt8)) (x : List UInt8) (v : Value) (M : Nat) (W : World) (K : Act → World → Prop), w.heap.size ≤ l → I pre W → W.ownsRow w.heap.size 85 5 v M (osV (Jo.evR (some x))) → (∀ a' W', KeepsFrom w.heap.size W W' → Kp W W' → I pre W' → Ax pre x a' W' → K a' W') →
      assign.wpIn (Fence.wide.inRound l) (n - 1 - 1) P (Exit.then K (fun _ _ _ => False)) { tmps := (ps.zip #[.int .i64 ((pre.length + 1 : Nat) : Int), .agg (Jo.evV (some x) ++ #[v])]).foldl (fun t (p, v) => t.setIfInBounds p v) a.tmps, defers := [] } W)
    (hbody : ∀ (l : Nat) (pre : List (List UInt8)) (x : List UInt8) (a' : Act) (W : World), w.heap.size ≤ l → (∃ r, W.heap[l]? = some (.loop r)) → I pre W → Ax pre x a' W → pre ++ [x] <+: L → body.wpIn (Fence.wide.inRound l) (n - 1 - 1) P (ownPostG w.heap.size Kp I Ix (pre ++ [x]) W) a' W)
    (hdone : ∀ (D : Nat) (W : World), w.heap.size ≤ D → I L W → W.heap[D]? = some (.deferred (some [])) → Q .normal { a with defers := { target := .collected D, args := #[] } :: a.defers } W)
    (hstop : ∀ (D : Nat) (c : Code) (pre : List (List UInt8)) (W : World), w.heap.size ≤ D → pre <+: L → Ix c pre W → W.heap[D]? = some (.deferred (some [])) → c.wpIn Fence.wide n P Q { a with defers := { target := .collected D, args := #[] } :: a.defers } W) :
    (Code.rangeFunc g ps assign body).wpIn Fence.wide n P Q a w := by
  refine wpIn_rangeFunc fun fn hfn => ?_
  generalize hW1 : (w.alloc (.deferred (some []))).alloc (.loop { state := .ready, pending := none, fn, tmps := a.tmps, params := ps, assign, body, defers := w.heap.size }) = W1
  have hs1 : W1.heap.size = w.heap.size + 1 + 1 := by rw [← hW1]; simp
  have hL1 : W1.heap[w.heap.size + 1]? = some (.loop { state := .ready, pending := none, fn, tmps := a.tmps, params := ps, assign, body, defers := w.heap.size }) := by
    have := World.alloc_heap_new (w.alloc (.deferred (some []))) (.loop { state := .ready, pending := none, fn, tmps := a.tmps, params := ps, assign, body, defers := w.heap.size })
    rw [World.size_alloc, hW1] at this; exact this
  have hK1 : W1.heap[w.heap.size]? = some (.deferred (some [])) := by
    rw [← hW1]; exact (Below.heap_alloc _ _ _ (by simp)).trans (World.alloc_heap_new w _)
  have hbw : Below w.heap.size w W1 := by
    rw [← hW1]; exact ((Below.refl _ w).alloc (Nat.le_refl _) _).alloc (by simp) _
  have hb1 : Below w0.heap.size w0 W1 := by
    rw [← hW1]; exact hb0.trans ((((Below.refl _ w).alloc (Nat.le_refl _) _).alloc (by simp) _).mono hb0.size)
  refine ⟨w.heap.size + 1, [{ target := .collected w.heap.size, args := #[] }], W1, { target := .fn (.func gf) lb, args := #[.func (.yield (w.heap.size + 1)) #[] #[]] }, W1, gf,
    #[.func (.yield (w.heap.size + 1)) #[] #[]] ++ lb, W1, ?_, ?_, fun _ _ => trivial, ?_, fun _ => h1, ?_⟩
  · rw [← hW1]; exact run_enterLoop_outer _ _ _ _ _
  · simp only [resolve, hg]
    simp [go_sem]
  · simp [invoke, go_sem, eg]
  · refine (hseq (w.heap.size + 1)
      (fun pre W => I pre W ∧ W.heap[w.heap.size + 1]? = some (.loop { state := .ready, pending := none, fn, tmps := a.tmps, params := ps, assign, body, defers := w.heap.size }) ∧ W.heap[w.heap.size]? = some (.deferred (some [])))
      (fun pre W => ∃ c, Ix c pre W ∧ W.heap[w.heap.size + 1]? = some (.loop { state := .done, pending := some c, fn, tmps := a.tmps, params := ps, assign, body, defers := w.heap.size }) ∧ W.heap[w.heap.size]? = some (.deferred (some [])))
      W1 hb1
      (fun s A B' hs ht => ⟨hI s A B' hs.1 (ht.mono (by omega)), ht.keep _ _ hs.2.1 (.inl (by omega)), ht.keep _ _ hs.2.2 (.inl (by omega))⟩)
      (fun s A B' hs ht => let ⟨c, hc, hl, hk⟩ := hs; ⟨c, hIx c s A B' hc (ht.mono (by omega)), ht.keep _ _ hl (.inl (by omega)), ht.keep _ _ hk (.inl (by omega))⟩)
      (fun s A hs => hLv s A hs.1)
      ?_ (fun y hf hj => ⟨h0 y ((Fj.of_below hbw).trans (Nw.refl _ _) hf) hj, ?_, ?_⟩)).mono ?_
    · rintro pre x v M W ⟨hi, hl, hk⟩ hlen hown
      have hy := run_yield (P := P) (args := #[.int .i64 ((pre.length + 1 : Nat) : Int), .agg (Jo.evV (some x) ++ #[v])]) hl (by rw [hps]; rfl)
      refine ⟨fn, _, assign, body, hy, ?_⟩
      clear hy
      refine round_ok (B := w.heap.size) (Bk := W1.heap.size) (Kp := Kp) (Iw := fun W => I (pre ++ [x]) W) (Ixs := fun _ => True) (Ix := fun c W => Ix c (pre ++ [x]) W) (I0 := fun W => I pre W) (Ax := fun a' W => Ax pre x a' W) (by omega) (by omega) (Nat.le_refl _) (by omega) (by omega) trivial hl hk hKt hKb ?_ ?_ ?_ ?_ (fun K hK => hassign _ pre x v M W K (by omega) hi (hown.mono (by omega)) hK) ?_
      · exact fun W1 o o' h1 h2 h3 => hI.own.putObj _ h3 (by omega) h1 h2
      · exact fun a' W1 o o' h1 h2 h3 => (hAx pre x a').own.putObj (s := ()) _ h3 (by omega) h1 h2
      · exact fun W1 o o' h1 h2 h3 => hI.own.putObj _ h3 (by omega) h1 h2
      · exact fun c W1 o o' h1 h2 h3 => (hIx c).own.putObj _ h3 (by omega) h1 h2
      · intro a' W1 hr hi1 hax
        refine wpIn_mono (hbody _ pre x a' W1 (by omega) hr hi1 hax hlen) ?_
        rintro e a3 W3 hp
        cases e <;> exact hp
    · exact (hf.block _ (by omega) (fun e => by have := hjo.lt; omega) (fun e => by have := (hjo.own.lt _ e).2; omega)).trans hL1
    · exact (hf.block _ (by omega) (fun e => by have := hjo.lt; omega) (fun e => by have := (hjo.own.lt _ e).2; omega)).trans hK1
    · rintro e W2 ⟨⟨v, rfl⟩, (⟨hi, hl, hk⟩ | ⟨pre, hSp, c, hi, hl, hk⟩)⟩
      · exact ⟨none, _, run_endLoop hl (by simp), hdone _ _ (Nat.le_refl _) (hI.own.putObj _ hi (by omega) hl rfl) ((World.putObj_heap_other (by omega)).trans hk)⟩
      · exact ⟨some c, _, run_endLoop hl (by simp), hstop _ c pre _ (Nat.le_refl _) hSp ((hIx c).own.putObj _ hi (by omega) hl rfl) ((World.putObj_heap_other (by omega)).trans hk)⟩
theorem range_j2 {n : Nat} {P : Program} {g : Operand} {p1 p2 : Tmp} {assign body : Code} {Q : Exit → Act → World → Prop} {a : Act} {w : World}
    (h1 : 1 ≤ n) {gf : Nat} {lb : Array Value} (hg : a.eval g = .func (.func gf) #[] lb) (eg : ∀ args w, (callFunc gf args).run P w = .ok (.enter gf args) w)
    {B jg : Nat} {pj vj : Value} {bl : List UInt8} {nn : Int} {Kp : World → World → Prop} {L : List (List UInt8)} {w0 : World} (hseq : SeqJ (n - 1) P gf lb B jg pj vj bl nn Kp L w0)
    (hKt : ∀ {A B C : World}, Kp A B → Kp B C → Kp A C) (hKb : ∀ (W : World) (l : Nat) (o o' : Obj), w.heap.size ≤ l → W.heap[l]? = some o → o.isCells = false → o.isWalk = false → Kp W (W.putObj l o')) (hb0 : Below w0.heap.size w0 w) (hjo : Jo w B jg pj vj bl nn) 
    (I : List (List UInt8) → World → Prop) (Ix : Code → List (List UInt8) → World → Prop) (hI : AbJ w.heap.size I) (hIx : ∀ c, AbJ w.heap.size (Ix c)) (hLv : ∀ s A, I s A → Lv A) (h0 : ∀ y, Fj jg vj w y → Jo y B jg pj vj bl nn → I [] y) (Ax : List (List UInt8) → List UInt8 → Act → World → Prop) (hAx : ∀ pre x a', AbJ w.heap.size (fun (_ : Unit) W => Ax pre x a' W))
    (hassign : ∀ (l : Nat) (pre : List (List UInt8)) (x : List UInt8) (v : Value) (M : Nat) (W : World) (K : Act → World → Prop), w.heap.size ≤ l → I pre W → W.ownsRow w.heap.size 85 5 v M (osV (Jo.evR (some x))) → (∀ a' W', KeepsFrom w.heap.size W W' → Kp W W' → I pre W' → Ax pre x a' W' → K a' W') →
      assign.wpIn (Fence.wide.inRound l) (n - 1 - 1) P (Exit.then K (fun _ _ _ => False)) { tmps := (a.tmps.setIfInBounds p1 (.int .i64 ((pre.length + 1 : Nat) : Int))).setIfInBounds p2 (.agg (Jo.evV (some x) ++ #[v])), defers := [] } W)
    (hbody : ∀ (l : Nat) (pre : List (List UInt8)) (x : List UInt8) (a' : Act) (W : World), w.heap.size ≤ l → (∃ r, W.heap[l]? = some (.loop r)) → I pre W → Ax pre x a' W → pre ++ [x] <+: L → body.wpIn (Fence.wide.inRound l) (n - 1 - 1) P (ownPostG w.heap.size Kp I Ix (pre ++ [x]) W) a' W)
    (hdone : ∀ (D : Nat) (W : World), w.heap.size ≤ D → I L W → W.heap[D]? = some (.deferred (some [])) → Q .normal { a with defers := { target := .collected D, args := #[] } :: a.defers } W)
    (hstop : ∀ (D : Nat) (c : Code) (pre : List (List UInt8)) (W : World), w.heap.size ≤ D → pre <+: L → Ix c pre W → W.heap[D]? = some (.deferred (some [])) → c.wpIn Fence.wide n P Q { a with defers := { target := .collected D, args := #[] } :: a.defers } W) :
    (Code.rangeFunc g #[p1, p2] assign body).wpIn Fence.wide n P Q a w :=
  range_j h1 hg eg hseq hKt hKb hb0 hjo rfl I Ix hI hIx hLv h0 Ax hAx (fun l pre x v M W K hl hi ho hK => by simpa using hassign l pre x v M W K hl hi ho hK) hbody hdone hstop
end Go.Proofs.YtabmpngliphdpaaDoor.Kk
