/- Tracks: jumps between many labels; the plain machine of states; which bytes a step takes. -/
import Derived.Test.YtbekjlinnbmpgaaKt
import Derived.ScopeJumps
import Derived.WalkMore
namespace Go.Proofs.Ytbekjlinnbmpgaa.Ks
set_option linter.unusedVariables false
open Go.RowKit Lib0 Kp Kb Kd Kt
/-- as Q; by a jump: what the label asks -/
def jumps (J : Nat → Act → World → Prop) (Q : Exit → Act → World → Prop) : Exit → Act → World → Prop
  | .goto l, a, w => J l a w
  | e, a, w => Q e a w
def less (J : Nat → Nat → Act → World → Prop) (n : Nat) : Nat → Act → World → Prop := fun l a w => ∃ m, m < n ∧ J m l a w
/-- the code behind a label keeps what the jumps ask, with less left to go -/
def Pass (P : Program) (c : Code) (J : Nat → Nat → Act → World → Prop) (Q : Exit → Act → World → Prop) (l : Nat) : Prop :=
  ∀ n a w, J n l a w → ∀ rest, findLabel c l = some (.seq .skip rest) → rest.wp P (jumps (less J n) Q) a w
theorem wp_skip_seq {P : Program} {a : Act} {w : World} {Q : Exit → Act → World → Prop} {c : Code} (h : c.wp P Q a w) : (Code.seq .skip c).wp P Q a w := by
  apply wp_seq
  apply wp_skip
  exact h
theorem wp_scope_many {P : Program} {a : Act} {w : World} {Q : Exit → Act → World → Prop} {c : Code} (J : Nat → Nat → Act → World → Prop)
    (hf : ∀ n l a w, J n l a w → ∃ rest, findLabel c l = some (.seq .skip rest)) (N : Nat)
    (first : c.wp P (jumps (less J N) Q) a w) (pass : ∀ l, Pass P c J Q l) : (Code.scope c).wp P Q a w := by
  intro b k cs
  have key : ∀ n l a w, J n l a w → ∃ rest, findLabel c l = some rest ∧ ∃ e a' w', Q e a' w' ∧ Arrives P (lone (b.at a (.code rest :: .inScope c :: k)) cs w) b k cs e a' w' := by
    intro n
    induction n using Nat.strongRecOn with
    | _ n ih =>
      intro l a w hJ
      obtain ⟨rest, hr⟩ := hf n l a w hJ
      refine ⟨.seq .skip rest, hr, ?_⟩
      obtain ⟨e, a₁, w₁, hq, harr⟩ := wp_skip_seq (pass l n a w hJ rest hr) b (.inScope c :: k) cs
      cases e with
      | normal => exact ⟨.normal, a₁, w₁, hq, Steps.trans harr (.one step_inScope)⟩
      | exit id => exact ⟨.exit id, a₁, w₁, hq, fun k' hk => harr k' (by simp [exitTo, hk])⟩
      | goto l' =>
        obtain ⟨m, hm, hJ'⟩ := hq
        obtain ⟨rest', hr', e₂, a₂, w₂, hq₂, harr₂⟩ := ih m hm l' a₁ w₁ hJ'
        exact ⟨e₂, a₂, w₂, hq₂, .of_steps (harr _ (by simp [gotoIn, hr'])) harr₂⟩
      | ret => exact ⟨_, a₁, w₁, hq, harr⟩
      | panic ch => exact ⟨_, a₁, w₁, hq, harr⟩
      | outgrown => exact ⟨_, a₁, w₁, hq, harr⟩
  obtain ⟨e, a₁, w₁, hq, harr⟩ := first b (.inScope c :: k) cs
  cases e with
  | normal => exact ⟨.normal, a₁, w₁, hq, .head step_scope (Steps.trans harr (.one step_inScope))⟩
  | exit id => exact ⟨.exit id, a₁, w₁, hq, fun k' hk => .head step_scope (harr k' (by simp [exitTo, hk]))⟩
  | goto l' =>
    obtain ⟨m, hm, hJ'⟩ := hq
    obtain ⟨rest', hr', e₂, a₂, w₂, hq₂, harr₂⟩ := key m l' a₁ w₁ hJ'
    exact ⟨e₂, a₂, w₂, hq₂, .of_steps (.head step_scope (harr _ (by simp [gotoIn, hr']))) harr₂⟩
  | ret => exact ⟨_, a₁, w₁, hq, .of_steps (.one step_scope) harr⟩
  | panic ch => exact ⟨_, a₁, w₁, hq, .of_steps (.one step_scope) harr⟩
  | outgrown => exact ⟨_, a₁, w₁, hq, .of_steps (.one step_scope) harr⟩
/-- seven labels, in an order in which one falls into the next -/
theorem wp_scope_seven {P : Program} {a : Act} {w : World} {Q : Exit → Act → World → Prop} {c : Code} (J : Nat → Nat → Act → World → Prop) (N : Nat)
    (hJ : ∀ n l a w, J n l a w → l < 7) (hf : ∀ l, l < 7 → ∃ rest, findLabel c l = some (.seq .skip rest))
    (p1 : Pass P c J Q 1) (p6 : Pass P c J Q 1 → Pass P c J Q 6) (p5 : Pass P c J Q 6 → Pass P c J Q 5) (p2 : Pass P c J Q 5 → Pass P c J Q 2)
    (p3 : Pass P c J Q 3) (p4 : Pass P c J Q 4) (p0 : Pass P c J Q 0) (first : Pass P c J Q 0 → c.wp P (jumps (less J N) Q) a w) : (Code.scope c).wp P Q a w := by
  refine wp_scope_many J (fun n l a w h => ?_) N (first p0) ?_
  · exact hf l (hJ _ _ _ _ h)
  · intro l n a w h
    have hl := hJ _ _ _ _ h
    have h6 := p6 p1
    have h5 := p5 h6
    have h2 := p2 h5
    match l, hl, h with
    | 0, _, h => exact p0 n a w h
    | 1, _, h => exact p1 n a w h
    | 2, _, h => exact h2 n a w h
    | 3, _, h => exact p3 n a w h
    | 4, _, h => exact p4 n a w h
    | 5, _, h => exact h5 n a w h
    | 6, _, h => exact h6 n a w h
theorem jumps_less {J : Nat → Nat → Act → World → Prop} {Q : Exit → Act → World → Prop} {m n : Nat} (h : m ≤ n) (e : Exit) (a : Act) (w : World) : jumps (less J m) Q e a w → jumps (less J n) Q e a w := by
  cases e <;> intro hq
  case goto l => obtain ⟨k, hk, hj⟩ := hq; exact ⟨k, by omega, hj⟩
  all_goals exact hq
theorem jumps_ret {J : Nat → Act → World → Prop} {Q : Exit → Act → World → Prop} {a : Act} {w : World} (h : Q .ret a w) : jumps J Q .ret a w := h
/- the plain machine -/
abbrev Eds := Except Nat (Nat × Nat × Nat)
def eqs (c : UInt8) : Bool := c == 61
def d0 (c : UInt8) : Bool := c == 48
def d1 (c : UInt8) : Bool := c == 49
def d19 (c : UInt8) : Bool := decide (49 ≤ c.toNat) && decide (c.toNat ≤ 57)
def d02 (c : UInt8) : Bool := decide (48 ≤ c.toNat) && decide (c.toNat ≤ 50)
def endK (s : ByteArray) (p x v k : Nat) : Eds := if k + fuL dig (s.data.toList.drop k) = s.size then .ok (p, x, v) else .error (k + fuL dig (s.data.toList.drop k))
def svcS (s : ByteArray) (p x : Nat) : Eds :=
  if tk eqs s x then endK s p x (x + 1) (x + 1) else if tk dig s x = false then .error x else if tk dig s (x + 1) = false then .error (x + 1) else if tk dig s (x + 1 + 1) = false then .error (x + 1 + 1) else endK s p x (x + 1 + 1 + 1) (x + 1 + 1 + 1)
def nineS (s : ByteArray) (p k : Nat) : Eds := if tk d19 s k then svcS s p (k + 1) else .error k
def threeS (s : ByteArray) (p k : Nat) : Eds := if tk d02 s k then svcS s p (k + 1) else .error k
def expS (s : ByteArray) (p : Nat) : Eds :=
  if tk eqs s (p + 1) then svcS s p (p + 1 + 1) else if tk dig s (p + 1) = false then .error (p + 1) else if tk dig s (p + 1 + 1) = false then .error (p + 1 + 1)
  else if tk d0 s (p + 1 + 1 + 1) then nineS s p (p + 1 + 1 + 1 + 1) else if tk d1 s (p + 1 + 1 + 1) then threeS s p (p + 1 + 1 + 1 + 1) else .error (p + 1 + 1 + 1)
def pan (s : ByteArray) : Nat := fuL dig (s.data.toList.take 19)
def tr (s : ByteArray) : Eds := if pan s = 0 then .error 0 else if tk eqs s (pan s) then expS s (pan s) else .error (pan s)
theorem tk_lt {p : UInt8 → Bool} {s : ByteArray} {k : Nat} (h : tk p s k = true) : k < s.size := by
  unfold tk at h; simp only [Bool.and_eq_true, decide_eq_true_eq] at h; exact h.1
theorem fuL_drop (s : ByteArray) (k : Nat) (h : k < s.size) : fuL dig (s.data.toList.drop k) = if dig s[k] then fuL dig (s.data.toList.drop (k + 1)) + 1 else 0 := by
  rw [List.drop_eq_getElem_cons (show k < s.data.toList.length from h), fuL]; rfl
theorem endK_step {s : ByteArray} {p x v k : Nat} (h : tk dig s k = true) : endK s p x v k = endK s p x v (k + 1) := by
  have hk := tk_lt h
  rw [tk_in _ _ _ hk] at h
  unfold endK
  rw [fuL_drop s k hk, if_pos h]
  rw [show k + (fuL dig (s.data.toList.drop (k + 1)) + 1) = k + 1 + fuL dig (s.data.toList.drop (k + 1)) by omega]
theorem endK_stop {s : ByteArray} {p x v k : Nat} (hk : k ≤ s.size) (h : tk dig s k = false) : endK s p x v k = if k = s.size then .ok (p, x, v) else .error k := by
  unfold endK
  by_cases hlt : k < s.size
  · rw [tk_in _ _ _ hlt] at h
    rw [fuL_drop s k hlt, h]; simp
  · rw [List.drop_of_length_le (by rw [sz]; omega)]; rfl
theorem take_list (s : ByteArray) (k m : Nat) (h : k ≤ m) : (s.data.toList.take m).take k = s.data.toList.take k := by rw [List.take_take, Nat.min_eq_left h]
theorem pan_stop {s : ByteArray} {k : Nat} (hk : k ≤ s.size) (h19 : k ≤ 19) (ha : (s.data.toList.take k).all dig = true) (h : k = 19 ∨ tk dig s k = false) : pan s = k := by
  unfold pan
  by_cases hlt : k < (s.data.toList.take 19).length
  · have h2 : k < 19 ∧ k < s.size := by rw [List.length_take, sz] at hlt; omega
    rcases h with h | h
    · omega
    · refine fuL_hit dig _ k hlt (by rw [take_list _ _ _ h19]; exact ha) ?_
      rw [tk_in _ _ _ h2.2] at h
      rw [List.getElem_take]; exact h
  · have hl : (s.data.toList.take 19).length = k := by rw [List.length_take, sz] at hlt ⊢; omega
    have hz : s.data.toList.take 19 = s.data.toList.take k := by
      have := List.take_of_length_le (show (s.data.toList.take 19).length ≤ k by omega)
      rw [take_list _ _ _ h19] at this; exact this.symm
    rw [fuL_all dig _ (by rw [hz]; exact ha), hl]
theorem all256 {f g : UInt8 → Bool} (h : ∀ m : Fin 256, f (UInt8.ofNat m.val) = g (UInt8.ofNat m.val)) : f = g := by
  funext c
  have := h ⟨c.toNat, c.toNat_lt⟩
  rwa [UInt8.ofNat_toNat] at this
theorem mem_dig : mem ⟨#[48, 49, 50, 51, 52, 53, 54, 55, 56, 57]⟩ = dig := all256 (by decide +kernel)
theorem mem_eq : mem ⟨#[61]⟩ = eqs := all256 (by decide +kernel)
theorem mem_0 : mem ⟨#[48]⟩ = d0 := all256 (by decide +kernel)
theorem mem_1 : mem ⟨#[49]⟩ = d1 := all256 (by decide +kernel)
theorem mem_19 : mem ⟨#[49, 50, 51, 52, 53, 54, 55, 56, 57]⟩ = d19 := all256 (by decide +kernel)
theorem mem_02 : mem ⟨#[48, 49, 50]⟩ = d02 := all256 (by decide +kernel)
/-- the walker's block -/
def Wk (x : World) (b : Nat) (s : ByteArray) (k : Nat) : Prop := x.heap[b]? = some (Obj.cells #[.string s, .int .i64 (k : Int)] 61)
theorem take_yes {t : ByteArray} {q : UInt8 → Bool} (hq : mem t = q) {s : ByteArray} {k b : Nat} {x : World} (hs : s.size ≤ 37) (M : Wk x b s k) (h : tk q s k = true) :
    Calls Try.prog 34 #[.pointer (some ⟨b, 0, none⟩), .string t] x fun e y => e = .returned (.bool true) ∧ Wk y b s (k + 1) ∧ Below b x y := by
  subst hq
  refine (take_any t s k b x (by omega) (Nat.le_of_lt (tk_lt h)) M).mono ?_
  rintro e y ⟨rfl, h2, h3⟩
  rw [h] at h2 ⊢
  exact ⟨rfl, h2, h3⟩
theorem take_no {t : ByteArray} {q : UInt8 → Bool} (hq : mem t = q) {s : ByteArray} {k b : Nat} {x : World} (hs : s.size ≤ 37) (hk : k ≤ s.size) (M : Wk x b s k) (h : tk q s k = false) :
    Calls Try.prog 34 #[.pointer (some ⟨b, 0, none⟩), .string t] x fun e y => e = .returned (.bool false) ∧ Wk y b s k ∧ Below b x y := by
  subst hq
  refine (take_any t s k b x (by omega) hk M).mono ?_
  rintro e y ⟨rfl, h2, h3⟩
  rw [h] at h2 ⊢
  exact ⟨rfl, h2, h3⟩
theorem keptB {b : Nat} {x y : World} (h : Below b x y) {r : Nat} {o : Obj} (hr : r < b) (M : x.heap[r]? = some o) : y.heap[r]? = some o := (h.block r hr).trans M
end Go.Proofs.Ytbekjlinnbmpgaa.Ks
