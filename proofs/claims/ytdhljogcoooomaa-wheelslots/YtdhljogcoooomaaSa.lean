/- WheelSlots: two wheels side by side; same. -/
import Derived.Test.YtdhljogcoooomaaVe
import Derived.Test.YtdhljogcoooomaaXe
import Derived.Test.YtdhljogcoooomaaPick
namespace Go.Proofs.Ytdhljogcoooomaa.Sa
set_option linter.unusedVariables false
set_option linter.unusedSimpArgs false
open Go.RowKit Go.Maps Lib0 Kb Xp Ii Di Ei Fi Gi Hi Ki Ji Mi Ti Ci Va Vb Vc Vd Ve
attribute [local go_sem] Oper.semAt_some
abbrev tB : TypeId := 4
theorem row_at {w : World} {base e n : Nat} {v : Value} {xs : List Value} (h : w.ownsRow base e 1 v n xs) (i : Nat) (hi : i < n) : ∃ g cap u, v = .slice (some ⟨g, 0, none⟩) n cap ∧ xs[i]? = some u ∧ w.cell? ⟨g, i, none⟩ = some u ∧ w.frozen? ⟨g, i, none⟩ = false := by
  obtain ⟨g, cap, hv, -, -⟩ := h.form (by omega)
  have hl : xs.length = n := by have := h.1; omega
  obtain ⟨c, hc⟩ := own_ty h (g := g) (by rw [hv]; rfl)
  refine ⟨g, cap, xs[i], hv, List.getElem?_eq_getElem (by omega), ?_, frozen_of_row _ _ _ _ _ hc⟩
  have := h.cells (g := g) (by rw [hv]; rfl) i _ (List.getElem?_eq_getElem (by omega))
  rwa [add_zero] at this
theorem own_below {w x : World} {base e size n : Nat} {v : Value} {xs : List Value} (h : w.ownsRow base e size v n xs) (k : Below w.heap.size w x) : x.ownsRow base e size v n xs := own_keep h fun g hg => k.block g (h.lt g hg).2
def ints (zs : List Int) : List Value := zs.map (Value.int .i64)
set_option maxRecDepth 100000 in
theorem same_yes (w : World) (b1 b2 : Nat) (va vb : Value) (zs : List Int) (ha : w.ownsRow b1 tI 1 va zs.length (ints zs)) (hb : w.ownsRow b2 tI 1 vb zs.length (ints zs)) (hl : zs.length ≤ 4611686018427387904) :
    Calls Try.prog 30 #[va, vb] w fun e w' => e = .returned (.bool true) ∧ Below w.heap.size w w' := by
  have HA : Hid (w.ownsRow b1 tI 1 va zs.length (ints zs)) := ha
  have HB : Hid (w.ownsRow b2 tI 1 vb zs.length (ints zs)) := hb
  obtain ⟨oa, ca, rfl, -, -, -⟩ := own_form ha
  obtain ⟨ob, cb, rfl, -, -, -⟩ := own_form hb
  obtain ⟨N, HN⟩ : ∃ N, Hid (zs.length = N) := ⟨_, rfl⟩
  rw [HN.out] at HA HB hl ⊢
  clear ha hb
  go_enter Try.func30, Try.ntmps30
  go_wp2_with fail
  go_loopw [5] (fun iv wr => ∃ i : Nat, iv = .int .i64 (i : Int) ∧ i ≤ N ∧ Hid (Below w.heap.size w wr)) (fun iv _ => N + 1 - (intOf iv).toNat)
  case atStart => exact ⟨0, rfl, Nat.zero_le _, Below.refl _ _⟩
  case round =>
    obtain ⟨i, rfl, hi, HW⟩ := hrel
    by_cases hlt : i < N
    · obtain ⟨ga, ca', ua, ea, xa, c0, f0⟩ := row_at (own_below HA.out HW.out) i hlt
      obtain ⟨gb, cb', ub, eb, xb, c1, f1⟩ := row_at (own_below HB.out HW.out) i hlt
      injection ea with ea1 ea2 ea3
      injection eb with eb1 eb2 eb3
      subst ea1
      subst eb1
      have hu : ub = ua := by
        rw [xa] at xb
        injection xb with h1
        exact h1.symm
      rw [hu] at c1
      obtain ⟨z, hz⟩ : ∃ z, ua = .int .i64 z := by
        rw [ints, List.getElem?_map, Option.map_eq_some_iff] at xa
        obtain ⟨z, -, h2⟩ := xa
        exact ⟨z, h2.symm⟩
      rw [hz] at c0 c1
      have q0 : (i : Int) < (N : Int) := by omega
      have q1 : (0 : Int) ≤ (i : Int) := by omega
      have q2 : (i : Int) + 1 ≤ 9223372036854775807 := by omega
      clear xa xb hu hz ea2 ea3 eb2 eb3 f0 f1
      go_wp2_with fail
      go_quiet (fail)
      go_wp2_with fail
      refine ⟨⟨i + 1, by simp, by omega, Kb.below_drewN HW.out _⟩, ?_⟩
      simp only [intOf]; omega
    · obtain rfl : i = N := by omega
      have q0 : ¬ (i : Int) < (i : Int) := by omega
      clear hi
      go_wp2_with fail
      go_ret
      exact ⟨rfl, HW.out⟩
theorem map_filter_emb (T : List T3) (p : XT → Bool) : (T.map emb).filter p = (T.filter fun x => p (emb x)).map emb := by
  rw [List.filter_map]; rfl
theorem thgs_emb (T : List T3) : thgs (T.map emb) = ints (T.map fun x => x.2.2) := by
  rw [thgs, ints, List.map_map, List.map_map]; rfl
/-- two wheels -/
structure Two (w0 w : World) (a b na nb : Nat) (Ta : List T3) (nowa lasta : Int) (Tb : List T3) (nowb lastb : Int) (rb : Nat) : Prop where
  wl : ∃ A B, Wl w a A na (Ta.map emb) nowa lasta ∧ Wl w b B nb (Tb.map emb) nowb lastb ∧ (∀ g, A g → ¬ B g) ∧ (∀ g, A g → w0.heap.size ≤ g) ∧ ∀ g, B g → w0.heap.size ≤ g
  below : Below w0.heap.size w0 w
  oka : Ok na (Ta.map emb) nowa lasta
  okb : Ok nb (Tb.map emb) nowb lastb
  res : w.heap[rb]? = some (.cells #[.bool false] tB)
theorem not_res {w : World} {a : Nat} {A : Nat → Prop} {n : Nat} {L : LT} {now last : Int} (h : Wl w a A n L now last) {g : Nat} {c : Array Value} {t : TypeId} {x : Nat × Nat} (hg : w.heap[g]? = some (.cells c t x)) (ht : t ≠ tW ∧ t ≠ tS ∧ t ≠ tL) : ¬ A g := by
  obtain ⟨sb, mb, S, cc, D, hm, hB⟩ := h
  intro hb
  rcases (hB g).1 hb with rfl | rfl | rfl | ⟨j, hj, e⟩
  · exact ty_ne hg hm.blk ht.1 rfl
  · exact ty_ne hg hm.slots ht.2.1 rfl
  · exact map_ne hg hm.map rfl
  · obtain ⟨c2, h2⟩ := own_ty (hm.row j hj) e
    exact ty_ne hg h2 ht.2.2 rfl
theorem fresh_below {w0 w w' : World} {B : Nat → Prop} (hb : Below w0.heap.size w0 w) (h2 : FrP B w w') (hB : ∀ g, B g → w0.heap.size ≤ g) : Below w0.heap.size w0 w' :=
  ((FrP.of (B := fun _ => False) hb).trans h2 (fun g hg => .inr (hB g hg))).below (fun _ h => h.elim)
section
variable {w0 w w' : World} {a b na nb : Nat} {Ta Tb : List T3} {nowa lasta nowb lastb : Int} {rb : Nat}
theorem Two.keep (h : Two w0 w a b na nb Ta nowa lasta Tb nowb lastb rb) (k : Below w.heap.size w w') : Two w0 w' a b na nb Ta nowa lasta Tb nowb lastb rb := by
  obtain ⟨A, B, h1, h2, h3⟩ := h.wl
  exact ⟨⟨A, B, h1.below k, h2.below k, h3⟩, keepB h.below k, h.oka, h.okb, kept k h.res⟩
theorem Two.forA (h : Two w0 w a b na nb Ta nowa lasta Tb nowb lastb rb) : ∃ A, Wl w a A na (Ta.map emb) nowa lasta ∧ ∀ {T' : List T3} {n' l' : Int} {w' : World}, Trn w a A na (T'.map emb) n' l' w' → Ok na (T'.map emb) n' l' → Two w0 w' a b na nb T' n' l' Tb nowb lastb rb := by
  obtain ⟨A, B, h1, h2, h3, h4, h5⟩ := h.wl
  refine ⟨A, h1, fun {T' n' l' w'} ht ho => ?_⟩
  obtain ⟨A', t1, t2, t3⟩ := ht
  refine ⟨⟨A', B, t1, h2.keep fun g hg => t2.block g (h2.lt g hg) (fun e => h3 g e hg), fun g hg hb => ?_, fun g hg => ?_, h5⟩, fresh_below h.below t2 h4, ho, h.okb, (t2.block rb (Array.getElem?_eq_some_iff.1 h.res).1 (not_res h1 h.res (by decide))).trans h.res⟩
  · rcases t3 g hg with e | e
    · exact h3 g e hb
    · have := h2.lt g hb; omega
  · rcases t3 g hg with e | e
    · exact h4 g e
    · exact Nat.le_trans h.below.size e
theorem Two.swap (h : Two w0 w a b na nb Ta nowa lasta Tb nowb lastb rb) : Two w0 w b a nb na Tb nowb lastb Ta nowa lasta rb := by
  obtain ⟨A, B, h1, h2, h3, h4, h5⟩ := h.wl
  exact ⟨⟨B, A, h2, h1, fun g hb ha => h3 g ha hb, h5, h4⟩, h.below, h.okb, h.oka, h.res⟩
theorem Two.forB (h : Two w0 w a b na nb Ta nowa lasta Tb nowb lastb rb) : ∃ B, Wl w b B nb (Tb.map emb) nowb lastb ∧ ∀ {T' : List T3} {n' l' : Int} {w' : World}, Trn w b B nb (T'.map emb) n' l' w' → Ok nb (T'.map emb) n' l' → Two w0 w' a b na nb Ta nowa lasta T' n' l' rb := by
  obtain ⟨B, h1, h2⟩ := h.swap.forA
  exact ⟨B, h1, fun ht ho => (h2 ht ho).swap⟩
end
end Go.Proofs.Ytdhljogcoooomaa.Sa
