/- The closures that tell timers apart; slices.IndexFunc, over *turnstile/pending.held. -/
import Derived.Test.YtgchdjjafgkcbaaXp
import Derived.Test.YtgchdjjafgkcbaaQl
import Derived.Shelf.Abstract
namespace Go.Proofs.Ytgchdjjafgkcbaa.Ih
set_option linter.unusedVariables false
set_option linter.unusedSimpArgs false
open Go.RowKit Lib0 Kb Xp
attribute [local go_sem] Oper.semAt_some
abbrev tL : TypeId := 111
abbrev tI : TypeId := 3
/-- what a function value says of what is laid down, in whatever world -/
def Pred (g cb : Nat) (t : Int) (p : XT → Bool) : Prop := ∀ (W : World) (x : XT), x.2.2.oneCell' = true → W.heap[cb]? = some (.cells #[.int .i64 t] tI) → Calls Try.prog g #[agv x, .pointer (some ⟨cb, 0, none⟩)] W fun e w' => e = .returned (.bool (p x)) ∧ Below W.heap.size W w'
theorem tick_pred (cb : Nat) (t : Int) : Pred 43 cb t fun x => x.2.1 == t := by
  intro W x h1 hb
  have c0 : W.cell? ⟨cb, 0, none⟩ = some (.int .i64 t) := by simp [World.cell?, hb]
  have hlt : cb < W.heap.size := (Array.getElem?_eq_some_iff.1 hb).1
  obtain ⟨a, b, v⟩ := x
  have c1 : (W.alloc (.cells #[.int .i64 a, .int .i64 b, v] tL)).cell? ⟨cb, 0, none⟩ = some (.int .i64 t) := keepC (below_one _ _) c0 hlt
  clear hb hlt
  unfold agv
  go_enter Try.func43, Try.ntmps43
  go_wp2_with fail
  go_ret
  exact ⟨rfl, below_one _ _⟩
/-- the first that is meant, or -1 -/
def Hit (Z : LT) (p : XT → Bool) (r : Int) : Prop := (r = -1 ∧ ∀ x ∈ Z, p x = false) ∨ ∃ k, ∃ h : k < Z.length, r = (k : Nat) ∧ p Z[k] = true ∧ ∀ j (hj : j < Z.length), j < k → p Z[j] = false
set_option maxRecDepth 100000 in
set_option maxHeartbeats 1600000 in
theorem index_any (g cb : Nat) (t : Int) (p : XT → Bool) (eg : ∀ args w, (callFunc g args).run Try.prog w = .ok (.enter g args) w) (hp : Pred g cb t p) (w : World) (v : Value) (Z : LT) (hr : RowG w v Z) (ho : One Z) (hl : Z.length ≤ 4611686018427387904) (hcb : w.heap[cb]? = some (.cells #[.int .i64 t] tI)) :
    Calls Try.prog 63 #[v, .func (.func g) #[] #[.pointer (some ⟨cb, 0, none⟩)]] w fun e w' => (∃ r : Int, e = .returned (.int .i64 r) ∧ Hit Z p r) ∧ Below w.heap.size w w' := by
  obtain ⟨o, cap, rfl, hcell⟩ := hr
  have HC : Hid (∀ i (h : i < Z.length), ∃ a : Addr, o = some a ∧ w.cell? (a.add (i * 3)) = some (.int .i64 Z[i].1) ∧ w.cell? (a.add (i * 3 + 1)) = some (.int .i64 Z[i].2.1) ∧ w.cell? (a.add (i * 3 + 2)) = some Z[i].2.2) := hcell
  have HB : Hid (w.heap[cb]? = some (.cells #[.int .i64 t] tI)) := hcb
  have HO : Hid (One Z) := ho
  have HP : Hid (Pred g cb t p) := hp
  obtain ⟨N, HN⟩ : ∃ N, Hid (Z.length = N) := ⟨_, rfl⟩
  rw [HN.out] at hl
  rw [HN.out]
  clear hcell hcb hp ho
  go_enter Try.func63, Try.ntmps63
  go_wp2_with fail
  go_loopw [8, 5] (fun iv _ wr => ∃ i : Nat, iv = .int .i64 (i : Int) ∧ i ≤ N ∧ Hid (∀ j (h : j < Z.length), j < i → p Z[j] = false) ∧ Hid (Below w.heap.size w wr)) (fun iv _ _ => N + 1 - (intOf iv).toNat)
  case atStart => exact ⟨0, rfl, Nat.zero_le _, fun j h hj => absurd hj (Nat.not_lt_zero _), Below.refl _ _⟩
  case round =>
    obtain ⟨i, rfl, hi, HA, HW⟩ := hrel
    by_cases hlt : i < N
    · have hi2 : i < Z.length := by rw [HN.out]; exact hlt
      have HI : Hid (i < Z.length) := hi2
      obtain ⟨a, rfl, c0, c1, c2⟩ := HC.out i hi2
      have kk : ∀ q u, w.cell? q = some u → wr.cell? q = some u := fun q u hq => (HW.out.cell (World.block_lt_of_cell? w _ hq)).trans hq
      replace c0 := kk _ _ c0
      replace c1 := kk _ _ c1
      replace c2 := kk _ _ c2
      have q0 : (i : Int) < (N : Int) := by omega
      have q1 : (0 : Int) ≤ (i : Int) := by omega
      have q3 : (i : Int) + 1 ≤ 9223372036854775807 := by omega
      rw [add_field _ _ _ (by decide)] at c1 c2
      have hcall := HP.out wr (Z[i]'hi2) (HO.out _ (List.getElem_mem hi2)) (kept HW.out HB.out)
      obtain ⟨x, HX⟩ : ∃ x : XT, Hid (∀ h : i < Z.length, Z[i]'h = x) := ⟨Z[i]'hi2, fun _ => rfl⟩
      rw [HX.out hi2] at c0 c1 c2 hcall
      obtain ⟨x0, x1, x2⟩ := x
      unfold agv at hcall
      dsimp only at c0 c1 c2 hcall
      have hone : x2.oneCell' = true := by have := HO.out _ (List.getElem_mem hi2); rw [HX.out hi2] at this; exact this
      obtain ⟨pv, HPV⟩ : ∃ pv, Hid (p (x0, x1, x2) = pv) := ⟨_, rfl⟩
      rw [HPV.out] at hcall
      clear kk hi hi2
      cases pv
      · go_wp2_with (go_at_fn g; refine hcall.mono ?_; rintro e w' ⟨rfl, hw'⟩)
        have HW2 : Hid (Below w.heap.size w w') := keepB HW.out hw'
        refine ⟨⟨i + 1, by simp, by omega, ?_, HW2⟩, ?_⟩
        · intro j hj hji
          by_cases e : j = i
          · subst e
            rw [HX.out hj]; exact HPV.out
          · exact HA.out j hj (by omega)
        · simp only [intOf]; omega
      · go_wp2_with (go_at_fn g; refine hcall.mono ?_; rintro e w' ⟨rfl, hw'⟩)
        go_ret
        exact ⟨⟨_, rfl, .inr ⟨i, HI.out, rfl, by rw [HX.out HI.out]; exact HPV.out, HA.out⟩⟩, keepB HW.out hw'⟩
    · obtain rfl : i = N := by omega
      have HE : Hid (∀ x ∈ Z, p x = false) := fun x hx => by
        obtain ⟨j, hj, rfl⟩ := List.getElem_of_mem hx
        exact HA.out j hj (by rw [← HN.out]; exact hj)
      clear hi
      go_wp2_with fail
      go_ret
      exact ⟨⟨_, rfl, .inl ⟨rfl, HE.out⟩⟩, HW.out⟩
end Go.Proofs.Ytgchdjjafgkcbaa.Ih
