import Derived.Test.YtgchdjjafgkcbaaQf28
import Derived.RangeFuncNested
import Derived.RangeFuncBound
import Derived.RangeFuncCalls
import Derived.RangeFuncLeaves
import Derived.RangeFuncFrom
import Derived.Shelf.Abstract
import Derived.Shelf.RegionOpen
import Derived.WalkKit
import Derived.OwnWalkIn
import Derived.TacticsInMore
import Derived.LoopNIn
import Derived.LoopIn
import Derived.Test.YtgchdjjafgkcbaaQf03
/- What is laid down, in order: inOrder. -/
namespace Go.Proofs.Ytgchdjjafgkcbaa.Vd
set_option linter.unusedVariables false
set_option linter.unusedSimpArgs false
open Go.RowKit Go.Maps Lib0 Kb Xp Ih Dh Eh Fh Gh Hh Kh Jh Mh Th Ch Va Vb Vc
attribute [local go_sem] Oper.semAt_some
/-- timers rise -/
def Inc3 (T : List T3) : Prop := T.Pairwise fun x y => x.1 < y.1
theorem inc_emb {T : List T3} (h : Inc (T.map emb)) : Inc3 T := by
  rw [Inc, List.pairwise_map] at h
  exact h
theorem Inc3.ne {T : List T3} (h : Inc3 T) : T.Pairwise fun x y => x.1 ≠ y.1 := List.Pairwise.imp (fun h => by omega) h
/-- by their ticks, then by their numbers -/
noncomputable def ordT (T : List T3) : List T3 := by
  classical exact T.mergeSort fun x y => decide (¬ Lt3 y x)
theorem ord_perm (T : List T3) : (ordT T).Perm T := List.mergeSort_perm _ _
theorem ord_len (T : List T3) : (ordT T).length = T.length := (ord_perm T).length_eq
theorem ne_strict {A : List T3} (hn : A.Pairwise fun x y => x.1 ≠ y.1) (hs : A.Pairwise fun x y => ¬ Lt3 y x) : A.Pairwise Lt3 := by
  refine (hn.and hs).imp ?_
  rintro x y ⟨h1, h2⟩
  unfold Lt3 at *
  omega
theorem ne_perm {A T : List T3} (h : A.Perm T) (hi : Inc3 T) : A.Pairwise fun x y => x.1 ≠ y.1 := (h.pairwise_iff (fun {_ _} h => Ne.symm h)).2 hi.ne
theorem uniq {A C : List T3} (h : A.Perm C) (ha : A.Pairwise Lt3) (hc : C.Pairwise Lt3) : A = C :=
  List.Perm.eq_of_pairwise (fun a b _ _ h1 h2 => by unfold Lt3 at *; omega) ha hc h
theorem ord_sorted {T : List T3} (hi : Inc3 T) : (ordT T).Pairwise Lt3 := by
  refine ne_strict (ne_perm (ord_perm T) hi) ?_
  classical
  have := List.pairwise_mergeSort (le := fun x y : T3 => decide (¬ Lt3 y x)) (fun a b c h1 h2 => by
    simp only [decide_eq_true_eq] at *; unfold Lt3 at *; omega) (fun a b => by
    simp only [Bool.or_eq_true, decide_eq_true_eq]; unfold Lt3; omega) T
  refine List.Pairwise.imp ?_ this
  intro x y h
  simpa using h
theorem ord_is {A T : List T3} (hi : Inc3 T) (hp : A.Perm T) (hs : A.Pairwise fun x y => ¬ Lt3 y x) : A = ordT T :=
  uniq (hp.trans (ord_perm T).symm) (ne_strict (ne_perm hp hi) hs) (ord_sorted hi)
theorem flat_in {α : Type} (g : Nat → List α) (x : α) (k : Nat) : ∀ n, ((List.range n).flatMap fun j => if j = k then x :: g j else g j).Perm (if k < n then x :: (List.range n).flatMap g else (List.range n).flatMap g)
  | 0 => by simp
  | n + 1 => by
    have ih := flat_in g x k n
    rw [List.range_succ, List.flatMap_append, List.flatMap_append, List.flatMap_singleton, List.flatMap_singleton]
    by_cases e : n = k
    · subst e
      rw [if_neg (by omega)] at ih
      rw [if_pos rfl, if_pos (by omega)]
      exact (ih.append_right _).trans List.perm_middle
    · rw [if_neg e]
      by_cases h : k < n
      · rw [if_pos h] at ih
        rw [if_pos (by omega)]
        exact ih.append_right _
      · rw [if_neg h] at ih
        rw [if_neg (by omega)]
        exact ih.append_right _
theorem cc_perm (L : LT) (n : Nat) (hn : 1 ≤ n) : (cc (fun j => slotL L n j) n).Perm L := by
  induction L with
  | nil =>
    have : cc (fun j => slotL [] n j) n = [] := by simp [cc, slotL]
    rw [this]
  | cons x L ih =>
    have e : cc (fun j => slotL (x :: L) n j) n = (List.range n).flatMap fun j => if j = x.2.1.toNat % n then x :: slotL L n j else slotL L n j := by
      rw [cc]
      congr 1
      funext j
      rw [slotL, List.filter_cons]
      by_cases h : j = x.2.1.toNat % n
      · rw [if_pos h, if_pos (by simp [h])]; rfl
      · rw [if_neg h, if_neg (by simp; exact fun e => h e.symm)]; rfl
    rw [e]
    refine (flat_in _ x (x.2.1.toNat % n) n).trans ?_
    rw [if_pos (Nat.mod_lt _ (by omega))]
    exact ih.cons x
theorem cc_emb (T : List T3) (n : Nat) : ∃ C : List T3, cc (fun j => slotL (T.map emb) n j) n = C.map emb := by
  refine ⟨(List.range n).flatMap fun j => T.filter fun x => (emb x).2.1.toNat % n == j, ?_⟩
  rw [cc, List.map_flatMap]
  congr 1
  funext j
  rw [slotL, List.filter_map]
  rfl
theorem emb_inj {a b : T3} (h : emb a = emb b) : a = b := by
  obtain ⟨a0, a1, a2⟩ := a
  obtain ⟨b0, b1, b2⟩ := b
  simp only [emb, Prod.mk.injEq, Value.pointer.injEq, Option.some.injEq, Addr.mk.injEq, and_true, true_and] at h
  simp [h]
def unb (x : XT) : T3 := (x.1, x.2.1, match x.2.2 with | .pointer (some a) => a.block | _ => 0)
theorem unb_emb (C : List T3) : (C.map emb).map unb = C := by
  rw [List.map_map]
  exact List.map_id'' (fun x => rfl) C
theorem perm_emb {C T : List T3} (h : (C.map emb).Perm (T.map emb)) : C.Perm T := by
  have := h.map unb
  rwa [unb_emb, unb_emb] at this
theorem emb_one (T : List T3) : One (T.map emb) := fun x hx => by
  obtain ⟨y, -, rfl⟩ := List.mem_map.1 hx
  rfl
set_option maxRecDepth 100000 in
theorem inorder_any (w : World) (b : Nat) (B : Nat → Prop) (n : Nat) (T : List T3) (now last : Int) (h : Wl w b B n (T.map emb) now last) (ok : Ok n (T.map emb) now last) :
    Calls Try.prog 41 #[.pointer (some ⟨b, 0, none⟩)] w fun e w' => ∃ v, e = .returned v ∧ w'.ownsRow w.heap.size tL 3 v (ordT T).length (gc ((ordT T).map emb)) ∧ Below w.heap.size w w' := by
  obtain ⟨sb, mb, S, c, D, hm, hB⟩ := h
  have c0 : w.cell? ⟨b, 0, none⟩ = some (.slice (some ⟨sb, 0, none⟩) n n) := by simp [World.cell?, hm.blk]
  have hlen : (T.map emb).length ≤ 5864062014805 := by
    have h1 := Wm.len hm
    have h2 := ok.last1
    have h3 := ok.last0
    omega
  have hcp := cc_perm (T.map emb) n ok.pos
  have hcon := concat_any w sb n S (fun j => slotL (T.map emb) n j) hm.slots hm.row (fun j _ => slotL_one ok.one n j) ok.top (by rw [hcp.length_eq]; exact hlen)
  obtain ⟨C, hC⟩ := cc_emb T n
  rw [hC] at hcon hcp
  have HP : Hid (C.Perm T) := perm_emb hcp
  have HI : Hid (Inc3 T) := inc_emb ok.inc
  rw [List.length_map] at hcon hlen
  have HL : Hid (C.length ≤ 5864062014805) := by show C.length ≤ _; rw [HP.out.length_eq]; exact hlen
  clear hm hB ok hcp hC hlen
  go_enter Try.func41, Try.ntmps41
  go_wp2_with fail
  refine hcon.mono ?_
  rintro e y ⟨v, rfl, ho, hb⟩
  have hso := sort_any y w.heap.size v C ho HL.out
  have HB : Hid (Below w.heap.size w y) := hb
  have HV : Hid (∀ g, v.ownBlock = some g → w.heap.size ≤ g) := fun g hg => (ho.lt g hg).1
  clear hcon ho hb
  go_wp2_with fail
  refine hso.mono ?_
  rintro e z ⟨rfl, T', h1, h2, h3, h4⟩
  have HE : Hid (T' = ordT T) := ord_is HI.out (h1.trans HP.out) h2
  have HO : Hid (z.ownsRow w.heap.size tL 3 v T'.length (gc (T'.map emb)) ∧ Below w.heap.size w z) := ⟨h3, ((FrP.of (B := fun _ => False) HB.out).trans h4 (fun g hg => .inr (HV.out g hg))).below (fun _ h => h.elim)⟩
  clear h1 h2 h3 h4 hso
  go_wp2_with fail
  go_ret
  rw [← HE.out]
  exact ⟨_, rfl, HO.out⟩
end Go.Proofs.Ytgchdjjafgkcbaa.Vd
/- Ranging over an iterator that itself ranges over another: the contract asks that what stands between the rounds abides the turn of whatever block of the loops' own. -/
namespace Go.Proofs.Ytgchdjjafgkcbaa.Sr
set_option linter.unusedVariables false
set_option linter.unusedSimpArgs false
open Go.RowKit Go.Shelf
/-- an iterator that tells just this list, for whatever abides every turn of blocks that are no cells, laid since -/
def SeqL {α : Type} (n : Nat) (P : Program) (g : Nat) (lb : Array Value) (encs : α → Array Value) (Kp : World → World → Prop) (L : List α) (w : World) : Prop :=
  ∀ (l : Nat) (J Jx : List α → World → Prop) (W : World), Below w.heap.size w W → OwnFrom W.heap.size J → OwnFrom W.heap.size Jx →
    (∀ pre x W1, J pre W1 → pre ++ [x] <+: L → YieldAt Fence.wide (n - 1) P l (encs x) W1 fun e W' =>
      KeepsFrom W.heap.size W1 W' ∧ ((e = .returned (.bool true) ∧ J (pre ++ [x]) W' ∧ Kp W1 W') ∨ (e = .returned (.bool false) ∧ Jx (pre ++ [x]) W'))) →
    J [] W →
    CallsIn Fence.wide n P g (#[.func (.yield l) #[] #[]] ++ lb) W fun e W' => (∃ v, e = .returned v) ∧ (J L W' ∨ (∃ pre, pre <+: L ∧ Jx pre W'))
theorem keeps_put {B l : Nat} (h : l < B) (W : World) (o : Obj) : KeepsFrom B W (W.putObj l o) := ⟨by simp [World.putObj], fun k o' hk e _ => (World.putObj_heap_other (by omega)).trans e⟩
theorem keeps_up {B C : Nat} {W W' : World} (h : KeepsFrom B W W') (hB : B ≤ C) : KeepsFrom C W W' := ⟨h.size, fun k o hk e ho => h.same k o (by omega) e ho⟩
/-- one round of a loop whose record lies in l: what its body owes -/
theorem round_ok {P : Program} {n l B Bk : Nat} {fn : FuncId} {ps : Array Tmp} {tm tmps : Array Value} {assign body : Code} {D : Nat} {Kp : World → World → Prop} {W : World} {Iw Ixs : World → Prop} {Ix : Code → World → Prop} {I0 : World → Prop} {Ax : Act → World → Prop}
    (hBk : B ≤ Bk) (hlk : l < Bk) (hB : B ≤ D) (hDl : D ≠ l) (hlB : B ≤ l) (hfn : Fence.wide.fn fn)
    (hl : W.heap[l]? = some (.loop { state := .ready, pending := none, fn, tmps := tm, params := ps, assign, body, defers := D })) (hk : W.heap[D]? = some (.deferred (some [])))
    (hKt : ∀ {A B C : World}, Kp A B → Kp B C → Kp A C) (hKb : ∀ (W : World) (k : Nat) (o o' : Obj), B ≤ k → W.heap[k]? = some o → o.isCells = false → o.isWalk = false → Kp W (W.putObj k o'))
    (own0 : ∀ W1 : World, ∀ o o', W1.heap[l]? = some o → o.isCells = false → I0 W1 → I0 (W1.putObj l o')) (ownA : ∀ a' (W1 : World), ∀ o o', W1.heap[l]? = some o → o.isCells = false → Ax a' W1 → Ax a' (W1.putObj l o'))
    (ownI : ∀ W1 : World, ∀ o o', W1.heap[l]? = some o → o.isCells = false → Iw W1 → Iw (W1.putObj l o')) (ownX : ∀ c (W1 : World), ∀ o o', W1.heap[l]? = some o → o.isCells = false → Ix c W1 → Ix c (W1.putObj l o'))
    (hassign : ∀ K : Act → World → Prop, (∀ a' W', KeepsFrom B W W' → Kp W W' → I0 W' → Ax a' W' → K a' W') → assign.wpIn (Fence.wide.inRound l) n P (Exit.then K (fun _ _ _ => False)) { tmps := tmps, defers := [] } W)
    (hbody : ∀ (a' : Act) (W1 : World), (∃ r, W1.heap[l]? = some (.loop r)) → I0 W1 → Ax a' W1 → body.wpIn (Fence.wide.inRound l) n P (fun e a3 W3 => match e with
      | .normal => KeepsFrom B W1 W3 ∧ Kp W1 W3 ∧ Iw W3
      | .ret => KeepsFrom B W1 W3 ∧ Ix .ret W3
      | .exit id => KeepsFrom B W1 W3 ∧ Ix (.exit id) W3
      | .goto t => KeepsFrom B W1 W3 ∧ Ix (.goto t) W3
      | .panic _ => False
      | .outgrown => False) a' W1) :
    RoundIn Fence.wide n P l fn tmps assign body W fun e W' => KeepsFrom Bk W W' ∧ (
      (e = .returned (.bool true) ∧ (Iw W' ∧ W'.heap[l]? = some (.loop { state := .ready, pending := none, fn, tmps := tm, params := ps, assign, body, defers := D }) ∧ W'.heap[D]? = some (.deferred (some []))) ∧ Kp W W') ∨
      (e = .returned (.bool false) ∧ ∃ c, Ix c W' ∧ W'.heap[l]? = some (.loop { state := .done, pending := some c, fn, tmps := tm, params := ps, assign, body, defers := D }) ∧ W'.heap[D]? = some (.deferred (some [])))) := by
  refine roundIn_of_wpIn hfn (hassign _ fun a' Wa kf kp hi hax => ?_)
  have hl1 := kf.same _ _ hlB hl rfl
  have hk1 := kf.same _ _ hB hk rfl
  have hlt := (Array.getElem?_eq_some_iff.1 hl1).1
  refine ⟨_, run_beginRound hl1 rfl, ?_⟩
  generalize hW2 : Wa.putObj l _ = W2
  have hl2 : ∃ r, W2.heap[l]? = some (.loop r) ∧ r = { state := .busy, pending := none, fn, tmps := tm, params := ps, assign, body, defers := D } := ⟨_, by rw [← hW2]; exact World.putObj_heap_same hlt, rfl⟩
  obtain ⟨r, hl2, hr⟩ := hl2
  have hk2 : W2.heap[D]? = some (.deferred (some [])) := by rw [← hW2]; exact (World.putObj_heap_other hDl).trans hk1
  have kf2 : KeepsFrom Bk W W2 := by rw [← hW2]; exact (keeps_up kf hBk).trans (keeps_put hlk _ _)
  have kp2 : Kp Wa W2 := by rw [← hW2]; exact hKb _ _ _ _ hlB hl1 rfl rfl
  have hi2 : I0 W2 := by rw [← hW2]; exact own0 _ _ _ hl1 rfl hi
  have ha2 : Ax a' W2 := by rw [← hW2]; exact ownA _ _ _ _ hl1 rfl hax
  clear hW2
  have fin : ∀ (jump : Option Code) (W3 : World), KeepsFrom B W2 W3 → ∃ r', r' = ({ state := if jump.isNone then .ready else .done, pending := jump, fn, tmps := tm, params := ps, assign, body, defers := D } : Loop) ∧
      (Instr.endRound l jump).run P W3 = .ok (.bool jump.isNone) (W3.putObj l (.loop r')) ∧ W3.heap[l]? = some (.loop r) ∧ (W3.putObj l (.loop r')).heap[l]? = some (.loop r') ∧ (W3.putObj l (.loop r')).heap[D]? = some (.deferred (some [])) := fun jump W3 h3 => by
    have hl3 := h3.same _ _ hlB hl2 rfl
    refine ⟨_, rfl, ?_, hl3, World.putObj_heap_same (Array.getElem?_eq_some_iff.1 hl3).1, (World.putObj_heap_other hDl).trans (h3.same _ _ hB hk2 rfl)⟩
    have := run_endRound (P := P) jump hl3
    rw [hr] at this
    exact this
  refine wpIn_mono (hbody a' W2 ⟨r, hl2⟩ hi2 ha2) ?_
  rintro e a3 W3 hp
  have jmp : ∀ c, KeepsFrom B W2 W3 ∧ Ix c W3 → ∃ b W', (Instr.endRound l (some c)).run P W3 = .ok b W' ∧ (KeepsFrom Bk W W' ∧ ((Ending.returned b = .returned (.bool true) ∧ (Iw W' ∧ W'.heap[l]? = some (.loop { state := .ready, pending := none, fn, tmps := tm, params := ps, assign, body, defers := D }) ∧ W'.heap[D]? = some (.deferred (some []))) ∧ Kp W W') ∨ (Ending.returned b = .returned (.bool false) ∧ ∃ c, Ix c W' ∧ W'.heap[l]? = some (.loop { state := .done, pending := some c, fn, tmps := tm, params := ps, assign, body, defers := D }) ∧ W'.heap[D]? = some (.deferred (some []))))) := fun c hc => by
    obtain ⟨r', e', h1, h2, h3, h4⟩ := fin (some c) W3 hc.1
    refine ⟨_, _, h1, kf2.trans ((keeps_up hc.1 hBk).trans (keeps_put hlk _ _)), .inr ⟨rfl, c, ownX _ _ _ _ h2 rfl hc.2, ?_, h4⟩⟩
    rw [h3, e']; rfl
  cases e with
  | normal =>
    obtain ⟨h3, kp3, i3⟩ := hp
    obtain ⟨r', e', h1, h2, h4, h5⟩ := fin none W3 h3
    refine ⟨_, _, h1, kf2.trans ((keeps_up h3 hBk).trans (keeps_put hlk _ _)), .inl ⟨rfl, ⟨ownI _ _ _ h2 rfl i3, ?_, h5⟩, hKt kp (hKt (hKt kp2 kp3) (hKb _ _ _ _ hlB h2 rfl rfl))⟩⟩
    rw [h4, e']; rfl
  | ret => exact jmp _ hp
  | exit id => exact jmp _ hp
  | goto t => exact jmp _ hp
  | panic ch => exact hp.elim
  | outgrown => exact hp.elim
/-- the law -/
theorem range_o {α : Type} {n : Nat} {P : Program} {g : Operand} {ps : Array Tmp} {assign body : Code} {Q : Exit → Act → World → Prop} {a : Act} {w : World}
    (h1 : 1 ≤ n) {gf : Nat} {lb : Array Value} (hg : a.eval g = .func (.func gf) #[] lb) (eg : ∀ args w, (callFunc gf args).run P w = .ok (.enter gf args) w)
    {encs : α → Array Value} {Kp : World → World → Prop} {L : List α} {w0 : World} (hseq : SeqL (n - 1) P gf lb encs Kp L w0)
    (hKt : ∀ {A B C : World}, Kp A B → Kp B C → Kp A C) (hKb : ∀ (W : World) (l : Nat) (o o' : Obj), w.heap.size ≤ l → W.heap[l]? = some o → o.isCells = false → o.isWalk = false → Kp W (W.putObj l o')) (hb0 : Below w0.heap.size w0 w) (hps : ∀ x, (encs x).size = ps.size)
    (I : List α → World → Prop) (Ix : Code → List α → World → Prop) (hI : OwnFrom w.heap.size I) (hIx : ∀ c, OwnFrom w.heap.size (Ix c)) (h0 : I [] w) (Ax : α → Act → World → Prop) (hAx : ∀ x a', OwnFrom w.heap.size (fun (_ : Unit) W => Ax x a' W))
    (hassign : ∀ (l : Nat) (pre : List α) (x : α) (W : World) (K : Act → World → Prop), I pre W → (∀ a' W', KeepsFrom w.heap.size W W' → Kp W W' → I pre W' → Ax x a' W' → K a' W') →
      assign.wpIn (Fence.wide.inRound l) (n - 1 - 1) P (Exit.then K (fun _ _ _ => False)) { tmps := (ps.zip (encs x)).foldl (fun t (p, v) => t.setIfInBounds p v) a.tmps, defers := [] } W)
    (hbody : ∀ (l : Nat) (pre : List α) (x : α) (a' : Act) (W : World), w.heap.size ≤ l → (∃ r, W.heap[l]? = some (.loop r)) → I pre W → Ax x a' W → pre ++ [x] <+: L → body.wpIn (Fence.wide.inRound l) (n - 1 - 1) P (ownPostG w.heap.size Kp I Ix (pre ++ [x]) W) a' W)
    (hdone : ∀ (D : Nat) (W : World), w.heap.size ≤ D → I L W → W.heap[D]? = some (.deferred (some [])) → Q .normal { a with defers := { target := .collected D, args := #[] } :: a.defers } W)
    (hstop : ∀ (D : Nat) (c : Code) (pre : List α) (W : World), w.heap.size ≤ D → pre <+: L → Ix c pre W → W.heap[D]? = some (.deferred (some [])) → c.wpIn Fence.wide n P Q { a with defers := { target := .collected D, args := #[] } :: a.defers } W) :
    (Code.rangeFunc g ps assign body).wpIn Fence.wide n P Q a w := by
  refine wpIn_rangeFunc fun fn hfn => ?_
  generalize hW1 : (w.alloc (.deferred (some []))).alloc (.loop { state := .ready, pending := none, fn, tmps := a.tmps, params := ps, assign, body, defers := w.heap.size }) = W1
  have hs1 : W1.heap.size = w.heap.size + 1 + 1 := by rw [← hW1]; simp
  have hL1 : W1.heap[w.heap.size + 1]? = some (.loop { state := .ready, pending := none, fn, tmps := a.tmps, params := ps, assign, body, defers := w.heap.size }) := by
    have := World.alloc_heap_new (w.alloc (.deferred (some []))) (.loop { state := .ready, pending := none, fn, tmps := a.tmps, params := ps, assign, body, defers := w.heap.size })
    rw [World.size_alloc, hW1] at this; exact this
  have hK1 : W1.heap[w.heap.size]? = some (.deferred (some [])) := by
    rw [← hW1]; exact (Below.heap_alloc _ _ _ (by simp)).trans (World.alloc_heap_new w _)
  have hI1 : I [] W1 := by rw [← hW1]; exact hI.alloc _ (hI.alloc _ h0)
  have hb1 : Below w0.heap.size w0 W1 := by
    rw [← hW1]; exact hb0.trans ((((Below.refl _ w).alloc (Nat.le_refl _) _).alloc (by simp) _).mono hb0.size)
  refine ⟨w.heap.size + 1, [{ target := .collected w.heap.size, args := #[] }], W1, { target := .fn (.func gf) lb, args := #[.func (.yield (w.heap.size + 1)) #[] #[]] }, W1, gf,
    #[.func (.yield (w.heap.size + 1)) #[] #[]] ++ lb, W1, ?_, ?_, fun _ _ => trivial, ?_, fun _ => h1, ?_⟩
  · rw [← hW1]; exact run_enterLoop_outer _ _ _ _ _
  · simp only [resolve, hg]
    simp [go_sem]
  · simp [invoke, go_sem, eg]
  · have kp : ∀ {A B : World} {row : Option Nat} {k : Nat} {o : Obj}, A.grownBy B row → (∀ r, row = some r → W1.heap.size ≤ r ∧ ∃ o : Obj, A.heap[r]? = some o ∧ o.isCells = false) → k < W1.heap.size → A.heap[k]? = some o → B.heap[k]? = some o := fun hg' hr hk h =>
      (hg'.block _ (Array.getElem?_eq_some_iff.1 h).1 (fun e => by have := (hr _ e.symm).1; omega)).trans h
    have hnw : ∀ {A : World} {row : Option Nat}, (∀ r, row = some r → W1.heap.size ≤ r ∧ ∃ o : Obj, A.heap[r]? = some o ∧ o.isCells = false) → (∀ r, row = some r → w.heap.size ≤ r ∧ ∃ o : Obj, A.heap[r]? = some o ∧ o.isCells = false) :=
      fun hr r e => ⟨by have := (hr r e).1; omega, (hr r e).2⟩
    refine (hseq (w.heap.size + 1)
      (fun pre W => I pre W ∧ W.heap[w.heap.size + 1]? = some (.loop { state := .ready, pending := none, fn, tmps := a.tmps, params := ps, assign, body, defers := w.heap.size }) ∧ W.heap[w.heap.size]? = some (.deferred (some [])))
      (fun pre W => ∃ c, Ix c pre W ∧ W.heap[w.heap.size + 1]? = some (.loop { state := .done, pending := some c, fn, tmps := a.tmps, params := ps, assign, body, defers := w.heap.size }) ∧ W.heap[w.heap.size]? = some (.deferred (some [])))
      W1 hb1
      (fun s A B row hs hg' hr => ⟨hI s A B row hs.1 hg' (hnw hr), kp hg' hr (by omega) hs.2.1, kp hg' hr (by omega) hs.2.2⟩)
      (fun s A B row hs hg' hr => let ⟨c, hc, hl, hk⟩ := hs; ⟨c, hIx c s A B row hc hg' (hnw hr), kp hg' hr (by omega) hl, kp hg' hr (by omega) hk⟩)
      ?_ ⟨hI1, hL1, hK1⟩).mono ?_
    · rintro pre x W ⟨hi, hl, hk⟩ hlen
      have hy := run_yield (P := P) (args := encs x) hl (hps x)
      refine ⟨fn, _, assign, body, hy, ?_⟩
      clear hy
      refine round_ok (B := w.heap.size) (Bk := W1.heap.size) (Kp := Kp) (Iw := fun W => I (pre ++ [x]) W) (Ixs := fun _ => True) (Ix := fun c W => Ix c (pre ++ [x]) W) (I0 := fun W => I pre W) (Ax := fun a' W => Ax x a' W) (by omega) (by omega) (Nat.le_refl _) (by omega) (by omega) trivial hl hk hKt hKb ?_ ?_ ?_ ?_ (fun K hK => hassign _ pre x W K hi hK) ?_
      · exact fun W1 o o' h1 h2 h3 => hI.putObj _ h3 (by omega) h1 h2
      · exact fun a' W1 o o' h1 h2 h3 => (hAx x a').putObj (s := ()) _ h3 (by omega) h1 h2
      · exact fun W1 o o' h1 h2 h3 => hI.putObj _ h3 (by omega) h1 h2
      · exact fun c W1 o o' h1 h2 h3 => (hIx c).putObj _ h3 (by omega) h1 h2
      · intro a' W1 hr hi1 hax
        refine wpIn_mono (hbody _ pre x a' W1 (by omega) hr hi1 hax hlen) ?_
        rintro e a3 W3 hp
        cases e <;> exact hp
    · rintro e W2 ⟨⟨v, rfl⟩, (⟨hi, hl, hk⟩ | ⟨pre, hSp, c, hi, hl, hk⟩)⟩
      · exact ⟨none, _, run_endLoop hl (by simp), hdone _ _ (Nat.le_refl _) (hI.putObj _ hi (by omega) hl rfl) ((World.putObj_heap_other (by omega)).trans hk)⟩
      · exact ⟨some c, _, run_endLoop hl (by simp), hstop _ c pre _ (Nat.le_refl _) hSp ((hIx c).putObj _ hi (by omega) hl rfl) ((World.putObj_heap_other (by omega)).trans hk)⟩
/-- two loop variables, in slots of their own -/
theorem range2 {α : Type} {n : Nat} {P : Program} {g : Operand} {p1 p2 : Tmp} {assign body : Code} {Q : Exit → Act → World → Prop} {a : Act} {w : World}
    (h1 : 1 ≤ n) {gf : Nat} {lb : Array Value} (hg : a.eval g = .func (.func gf) #[] lb) (eg : ∀ args w, (callFunc gf args).run P w = .ok (.enter gf args) w)
    {u v : α → Value} {Kp : World → World → Prop} {L : List α} {w0 : World} (hseq : SeqL (n - 1) P gf lb (fun x => #[u x, v x]) Kp L w0)
    (hKt : ∀ {A B C : World}, Kp A B → Kp B C → Kp A C) (hKb : ∀ (W : World) (l : Nat) (o o' : Obj), w.heap.size ≤ l → W.heap[l]? = some o → o.isCells = false → o.isWalk = false → Kp W (W.putObj l o')) (hKr : ∀ W, Kp W W) (hb0 : Below w0.heap.size w0 w)
    (q1 q2 : Nat) (I : List α → World → Prop) (Ix : Code → List α → World → Prop) (hI : OwnFrom w.heap.size I) (hIx : ∀ c, OwnFrom w.heap.size (Ix c)) (h0 : I [] w)
    (hassign : ∀ (l : Nat) (x : α) (W : World) (K : Act → World → Prop), K { tmps := (((a.tmps.setIfInBounds p1 (u x)).setIfInBounds p2 (v x)).setIfInBounds q1 (u x)).setIfInBounds q2 (v x), defers := [] } W →
      assign.wpIn (Fence.wide.inRound l) (n - 1 - 1) P (Exit.then K (fun _ _ _ => False)) { tmps := (a.tmps.setIfInBounds p1 (u x)).setIfInBounds p2 (v x), defers := [] } W)
    (hbody : ∀ (l : Nat) (pre : List α) (x : α) (W : World), w.heap.size ≤ l → I pre W → pre ++ [x] <+: L → body.wpIn (Fence.wide.inRound l) (n - 1 - 1) P (ownPostG w.heap.size Kp I Ix (pre ++ [x]) W) { tmps := (((a.tmps.setIfInBounds p1 (u x)).setIfInBounds p2 (v x)).setIfInBounds q1 (u x)).setIfInBounds q2 (v x), defers := [] } W)
    (hdone : ∀ (D : Nat) (W : World), w.heap.size ≤ D → I L W → W.heap[D]? = some (.deferred (some [])) → Q .normal { a with defers := { target := .collected D, args := #[] } :: a.defers } W)
    (hstop : ∀ (D : Nat) (c : Code) (pre : List α) (W : World), w.heap.size ≤ D → pre <+: L → Ix c pre W → W.heap[D]? = some (.deferred (some [])) → c.wpIn Fence.wide n P Q { a with defers := { target := .collected D, args := #[] } :: a.defers } W) :
    (Code.rangeFunc g #[p1, p2] assign body).wpIn Fence.wide n P Q a w :=
  range_o h1 hg eg hseq hKt hKb hb0 (fun _ => rfl) I Ix hI hIx h0 (fun x a' _ => a' = { tmps := (((a.tmps.setIfInBounds p1 (u x)).setIfInBounds p2 (v x)).setIfInBounds q1 (u x)).setIfInBounds q2 (v x), defers := [] }) (fun _ _ _ _ _ _ hs _ _ => hs)
    (fun l pre x W K hi hK => by simpa using hassign l x W K (hK _ _ (KeepsFrom.refl _ _) (hKr W) hi rfl)) (fun l pre x a' W hl _ hi e hp => by subst e; exact hbody l pre x W hl hi hp) hdone hstop
end Go.Proofs.Ytgchdjjafgkcbaa.Sr
