/- Frames, plain: the machine that takes a stream byte by byte. -/
import Derived.Test.YtfoddooehanemaaKb
import Derived.ScopeJumps
import Derived.WalkMore
namespace Go.Proofs.Ytfoddooehanemaa.Fa
set_option linter.unusedVariables false
set_option linter.unusedSimpArgs false
open Go.RowKit Kb
def wid (h : Nat) : Nat := if h = 2 then 4 else 2
theorem wid_pos (h : Nat) : 0 < wid h := by unfold wid; split <;> omega
theorem wid_le (h : Nat) : wid h ≤ 4 := by unfold wid; split <;> omega
/-- the number that digits make -/
def dec : List Nat → Nat → Option Nat
  | [], n => some n
  | d :: ds, n => if 9 < d then none else dec ds (n * 10 + d)
def at_ (l : List UInt8) (i : Nat) : Nat := (l.getD i 0).toNat
/-- what a header says -/
def num (h : Nat) (l : List UInt8) : Option Nat :=
  if h = 2 then dec [(at_ l 0 + 208) % 256, (at_ l 1 + 208) % 256, (at_ l 2 + 208) % 256, (at_ l 3 + 208) % 256] 0
  else if h = 3 then dec [at_ l 0 / 16, at_ l 0 % 16, at_ l 1 / 16, at_ l 1 % 16] 0
  else if h = 4 then (if 256 * at_ l 0 + at_ l 1 < 2 then none else some (256 * at_ l 0 + at_ l 1 - 2))
  else some (256 * at_ l 0 + at_ l 1)
/-- how many bytes follow; what is wrong -/
def tell (h m : Nat) (l : List UInt8) : Nat × Nat :=
  match num h l with
  | none => (0, 140)
  | some n => if m < n then (0, 141) else (n, 0)
theorem tell_le (h m : Nat) (l : List UInt8) : (tell h m l).1 ≤ m := by
  unfold tell
  split
  · exact Nat.zero_le _
  · split
    · exact Nat.zero_le _
    · simp; omega
theorem tell_bad {h m : Nat} {l : List UInt8} (hn : (tell h m l).2 ≠ 0) : (tell h m l).1 = 0 := by
  revert hn
  unfold tell
  split
  · intro _; rfl
  · split
    · intro _; rfl
    · intro hn; exact absurd rfl hn
theorem tell_err (h m : Nat) (l : List UInt8) : (tell h m l).2 = 0 ∨ (tell h m l).2 = 140 ∨ (tell h m l).2 = 141 := by
  unfold tell
  split
  · exact .inr (.inl rfl)
  · split
    · exact .inr (.inr rfl)
    · exact .inl rfl
inductive St where
  | hdr (l : List UInt8)
  | bod (n : Nat) (l : List UInt8)
  | brk (e : Nat)
structure M where
  st : St
  idle : Nat
  out : List (List UInt8)
/-- the machine behind a whole header -/
def opn (h m : Nat) (x : M) (l : List UInt8) : M :=
  if (tell h m l).2 ≠ 0 then { x with st := .brk (tell h m l).2 }
  else if (tell h m l).1 = 0 then { x with st := .hdr [], idle := x.idle + 1 }
  else { x with st := .bod (tell h m l).1 [] }
def stp (h m : Nat) (x : M) (c : UInt8) : M :=
  match x.st with
  | .hdr l => if l.length + 1 < wid h then { x with st := .hdr (l ++ [c]) } else opn h m x (l ++ [c])
  | .bod n l => if l.length + 1 < n then { x with st := .bod n (l ++ [c]) } else { x with st := .hdr [], out := x.out ++ [l ++ [c]] }
  | .brk _ => x
def run (h m : Nat) (x : M) (b : List UInt8) : M := b.foldl (stp h m) x
theorem run_append (h m : Nat) (x : M) (a b : List UInt8) : run h m x (a ++ b) = run h m (run h m x a) b := List.foldl_append
theorem run_nil (h m : Nat) (x : M) : run h m x [] = x := rfl
theorem run_cons (h m : Nat) (x : M) (c : UInt8) (b : List UInt8) : run h m x (c :: b) = run h m (stp h m x c) b := rfl
theorem run_brk (h m : Nat) (e i : Nat) (o : List (List UInt8)) : ∀ b, run h m ⟨.brk e, i, o⟩ b = ⟨.brk e, i, o⟩
  | [] => rfl
  | c :: b => by rw [run_cons]; exact run_brk h m e i o b
theorem run_hdr (h m : Nat) (i : Nat) (o : List (List UInt8)) : ∀ (k l : List UInt8), l.length + k.length < wid h → run h m ⟨.hdr l, i, o⟩ k = ⟨.hdr (l ++ k), i, o⟩
  | [], l, _ => by simp [run_nil]
  | c :: k, l, hk => by
    simp only [List.length_cons] at hk
    rw [run_cons, show stp h m ⟨.hdr l, i, o⟩ c = ⟨.hdr (l ++ [c]), i, o⟩ by simp only [stp]; rw [if_pos (by omega)]]
    rw [run_hdr h m i o k (l ++ [c]) (by simp; omega)]
    simp
theorem run_hdr_full (h m : Nat) (i : Nat) (o : List (List UInt8)) (k l : List UInt8) (hk : l.length + k.length = wid h) (hl : l.length < wid h) : run h m ⟨.hdr l, i, o⟩ k = opn h m ⟨.hdr l, i, o⟩ (l ++ k) := by
  have hne : k ≠ [] := by rintro rfl; simp at hk; omega
  obtain ⟨k', c, rfl⟩ : ∃ k' c, k = k' ++ [c] := ⟨k.dropLast, k.getLast hne, (List.dropLast_concat_getLast hne).symm⟩
  simp only [List.length_append, List.length_cons, List.length_nil] at hk
  rw [run_append, run_hdr h m i o k' l (by omega), run_cons, run_nil]
  show (if (l ++ k').length + 1 < wid h then _ else _) = _
  rw [if_neg (by simp; omega), List.append_assoc]
  rfl
theorem run_bod (h m n : Nat) (i : Nat) (o : List (List UInt8)) : ∀ (k l : List UInt8), l.length + k.length < n → run h m ⟨.bod n l, i, o⟩ k = ⟨.bod n (l ++ k), i, o⟩
  | [], l, _ => by simp [run_nil]
  | c :: k, l, hk => by
    simp only [List.length_cons] at hk
    rw [run_cons, show stp h m ⟨.bod n l, i, o⟩ c = ⟨.bod n (l ++ [c]), i, o⟩ by simp only [stp]; rw [if_pos (by omega)]]
    rw [run_bod h m n i o k (l ++ [c]) (by simp; omega)]
    simp
theorem run_bod_full (h m n : Nat) (i : Nat) (o : List (List UInt8)) (k l : List UInt8) (hk : l.length + k.length = n) (hl : l.length < n) : run h m ⟨.bod n l, i, o⟩ k = ⟨.hdr [], i, o ++ [l ++ k]⟩ := by
  have hne : k ≠ [] := by rintro rfl; simp at hk; omega
  obtain ⟨k', c, rfl⟩ : ∃ k' c, k = k' ++ [c] := ⟨k.dropLast, k.getLast hne, (List.dropLast_concat_getLast hne).symm⟩
  simp only [List.length_append, List.length_cons, List.length_nil] at hk
  rw [run_append, run_bod h m n i o k' l (by omega), run_cons, run_nil]
  show (if (l ++ k').length + 1 < n then _ else _) = _
  rw [if_neg (by simp; omega), List.append_assoc]
/-- as Q; by a jump: what the label asks -/
def jumps (J : Nat → Act → World → Prop) (Q : Exit → Act → World → Prop) : Exit → Act → World → Prop
  | .goto l, a, w => J l a w
  | e, a, w => Q e a w
def less (J : Nat → Nat → Act → World → Prop) (n : Nat) : Nat → Act → World → Prop := fun l a w => ∃ m, m < n ∧ J m l a w
/-- the code behind a label keeps what the jumps ask, with less left to go -/
def Pass (P : Program) (c : Code) (J : Nat → Nat → Act → World → Prop) (Q : Exit → Act → World → Prop) (l : Nat) : Prop :=
  ∀ n a w, J n l a w → ∀ rest, findLabel c l = some (.seq .skip rest) → rest.wp P (jumps (less J n) Q) a w
theorem wp_skip_seq {P : Program} {a : Act} {w : World} {Q : Exit → Act → World → Prop} {c : Code} (h : c.wp P Q a w) : (Code.seq .skip c).wp P Q a w := by
  apply wp_seq
  apply wp_skip
  exact h
theorem wp_scope_many {P : Program} {a : Act} {w : World} {Q : Exit → Act → World → Prop} {c : Code} (J : Nat → Nat → Act → World → Prop)
    (hf : ∀ n l a w, J n l a w → ∃ rest, findLabel c l = some (.seq .skip rest)) (N : Nat)
    (first : c.wp P (jumps (less J N) Q) a w) (pass : ∀ l, Pass P c J Q l) : (Code.scope c).wp P Q a w := by
  intro b k cs
  have key : ∀ n l a w, J n l a w → ∃ rest, findLabel c l = some rest ∧ ∃ e a' w', Q e a' w' ∧ Arrives P (lone (b.at a (.code rest :: .inScope c :: k)) cs w) b k cs e a' w' := by
    intro n
    induction n using Nat.strongRecOn with
    | _ n ih =>
      intro l a w hJ
      obtain ⟨rest, hr⟩ := hf n l a w hJ
      refine ⟨.seq .skip rest, hr, ?_⟩
      obtain ⟨e, a₁, w₁, hq, harr⟩ := wp_skip_seq (pass l n a w hJ rest hr) b (.inScope c :: k) cs
      cases e with
      | normal => exact ⟨.normal, a₁, w₁, hq, Steps.trans harr (.one step_inScope)⟩
      | exit id => exact ⟨.exit id, a₁, w₁, hq, fun k' hk => harr k' (by simp [exitTo, hk])⟩
      | goto l' =>
        obtain ⟨m, hm, hJ'⟩ := hq
        obtain ⟨rest', hr', e₂, a₂, w₂, hq₂, harr₂⟩ := ih m hm l' a₁ w₁ hJ'
        exact ⟨e₂, a₂, w₂, hq₂, .of_steps (harr _ (by simp [gotoIn, hr'])) harr₂⟩
      | ret => exact ⟨_, a₁, w₁, hq, harr⟩
      | panic ch => exact ⟨_, a₁, w₁, hq, harr⟩
      | outgrown => exact ⟨_, a₁, w₁, hq, harr⟩
  obtain ⟨e, a₁, w₁, hq, harr⟩ := first b (.inScope c :: k) cs
  cases e with
  | normal => exact ⟨.normal, a₁, w₁, hq, .head step_scope (Steps.trans harr (.one step_inScope))⟩
  | exit id => exact ⟨.exit id, a₁, w₁, hq, fun k' hk => .head step_scope (harr k' (by simp [exitTo, hk]))⟩
  | goto l' =>
    obtain ⟨m, hm, hJ'⟩ := hq
    obtain ⟨rest', hr', e₂, a₂, w₂, hq₂, harr₂⟩ := key m l' a₁ w₁ hJ'
    exact ⟨e₂, a₂, w₂, hq₂, .of_steps (.head step_scope (harr _ (by simp [gotoIn, hr']))) harr₂⟩
  | ret => exact ⟨_, a₁, w₁, hq, .of_steps (.one step_scope) harr⟩
  | panic ch => exact ⟨_, a₁, w₁, hq, .of_steps (.one step_scope) harr⟩
  | outgrown => exact ⟨_, a₁, w₁, hq, .of_steps (.one step_scope) harr⟩
/-- the code r, behind the label l, keeps what the jumps ask -/
def PassC (P : Program) (r : Code) (J : Nat → Nat → Act → World → Prop) (Q : Exit → Act → World → Prop) (l : Nat) : Prop :=
  ∀ n a w, J n l a w → r.wp P (jumps (less J n) Q) a w
/-- two labels: the second falls into the first -/
theorem wp_scope_two {P : Program} {a : Act} {w : World} {Q : Exit → Act → World → Prop} {c r0 r1 : Code} (J : Nat → Nat → Act → World → Prop) (N : Nat)
    (hJ : ∀ n l a w, J n l a w → l < 2) (h0 : findLabel c 0 = some (.seq .skip r0)) (h1 : findLabel c 1 = some (.seq .skip r1))
    (p0 : PassC P r0 J Q 0) (p1 : PassC P r0 J Q 0 → PassC P r1 J Q 1) (first : PassC P r1 J Q 1 → c.wp P (jumps (less J N) Q) a w) : (Code.scope c).wp P Q a w := by
  refine wp_scope_many J (fun n l a w h => ?_) N (first (p1 p0)) ?_
  · have hl := hJ _ _ _ _ h
    match l, hl with
    | 0, _ => exact ⟨r0, h0⟩
    | 1, _ => exact ⟨r1, h1⟩
  · intro l n a w h rest hr
    have hl := hJ _ _ _ _ h
    match l, hl, h, hr with
    | 0, _, h, hr =>
      rw [h0] at hr
      injection hr with hr
      injection hr with _ hr
      subst hr
      exact p0 n a w h
    | 1, _, h, hr =>
      rw [h1] at hr
      injection hr with hr
      injection hr with _ hr
      subst hr
      exact p1 p0 n a w h
theorem jumps_less {J : Nat → Nat → Act → World → Prop} {Q : Exit → Act → World → Prop} {m n : Nat} (h : m ≤ n) (e : Exit) (a : Act) (w : World) : jumps (less J m) Q e a w → jumps (less J n) Q e a w := by
  cases e <;> intro hq
  case goto l => obtain ⟨k, hk, hj⟩ := hq; exact ⟨k, by omega, hj⟩
  all_goals exact hq
theorem jumps_ret {J : Nat → Act → World → Prop} {Q : Exit → Act → World → Prop} {a : Act} {w : World} (h : Q .ret a w) : jumps J Q .ret a w := h
end Go.Proofs.Ytfoddooehanemaa.Fa
