import Derived.Test.YtgchdjjafgkcbaaQf29
import Derived.Test.YtgchdjjafgkcbaaQf21
/- All: an iterator over what is laid down, in order. -/
namespace Go.Proofs.Ytgchdjjafgkcbaa.Ve
set_option linter.unusedVariables false
set_option linter.unusedSimpArgs false
open Go.RowKit Go.Maps Go.Shelf Lib0 Kb Xp Ih Dh Eh Fh Gh Hh Kh Jh Mh Th Ch Va Vb Vc Vd Sr
attribute [local go_sem] Oper.semAt_some
abbrev tPW : TypeId := 61
theorem grown_of {w x : World} (h : Below w.heap.size w x) : w.grownBy x none := ⟨h.os, h.tape, h.output, h.size, fun b hb _ => h.block b hb⟩
theorem round_wide {n m : Nat} {P : Program} {l : Nat} {f : FuncId} {tmps : Array Value} {assign body : Code} {w : World} {R : Ending → World → Prop} (h : RoundIn Fence.wide n P l f tmps assign body w R) : RoundIn Fence.wide m P l f tmps assign body w R :=
  ⟨h.1, fun c cs _ => h.2 c cs (room_wide _)⟩
/-- what the iterator leans on: its own row stays -/
structure Kept3 (Kp : World → World → Prop) (Safe : World → Nat → Prop) : Prop where
  turn : ∀ {W W' : World} {g : Nat} {c : Array Value}, Kp W W' → Safe W g → W.heap[g]? = some (.cells c tL (0, 0)) → W'.heap[g]? = some (.cells c tL (0, 0)) ∧ Safe W' g
  up : ∀ {W W' : World} {g : Nat}, Below W.heap.size W W' → Safe W g → Safe W' g
set_option maxRecDepth 100000 in
set_option maxHeartbeats 1600000 in
theorem goes_all {Kp : World → World → Prop} {Safe : World → Nat → Prop} (hK : Kept3 Kp Safe) (n : Nat) (w : World) (b : Nat) (B : Nat → Prop) (nn : Nat) (T : List T3) (now last : Int) (bt : Nat) (hS : ∀ (W y : World) g, Below w.heap.size w W → Below W.heap.size W y → W.heap.size ≤ g → Safe y g) (h : Wl w b B nn (T.map emb) now last) (ok : Ok nn (T.map emb) now last) (hb : w.heap[bt]? = some (.cells #[.pointer (some ⟨b, 0, none⟩)] tPW)) :
    SeqL n Try.prog 40 #[.pointer (some ⟨bt, 0, none⟩)] (fun x : T3 => #[.int .i64 x.1, .pointer (some ⟨x.2.2, 0, none⟩)]) Kp (ordT T) w := fun l J Jx W hW hJ hJx hY h0 => by
  have hWl := h.below hW
  have c0 : W.cell? ⟨bt, 0, none⟩ = some (.pointer (some ⟨b, 0, none⟩)) := by simp [World.cell?, kept hW hb]
  have hio := inorder_any W b B nn T now last hWl ok
  have hlenT : T.length ≤ 5864062014805 := by
    obtain ⟨sb, mb, S, c, D, hm, -⟩ := h
    have h1 := Wm.len hm
    have h2 := ok.last1
    have h3 := ok.last0
    rw [List.length_map] at h1
    omega
  have hlen := ord_len T
  obtain ⟨A, HA⟩ : ∃ A, Hid (ordT T = A) := ⟨_, rfl⟩
  rw [HA.out] at hio hlen hY ⊢
  have HS : Hid (∀ (y : World) g, Below W.heap.size W y → W.heap.size ≤ g → Safe y g) := fun y g h1 h2 => hS W y g hW h1 h2
  obtain ⟨N, HN⟩ : ∃ N, Hid (A.length = N) := ⟨_, rfl⟩
  have hN : N ≤ 5864062014805 := by have := HN.out; omega
  clear h hWl ok hb hS hlenT hlen
  refine callsIn_of_wp Try.func40 rfl trivial ?_ rfl
  simp only [Try.ntmps40, List.size_toArray, List.length_cons, List.length_nil, Nat.reduceAdd, Nat.reduceSub, Array.replicate_succ, Array.replicate_zero, List.push_toArray, List.append_toArray, List.nil_append, List.cons_append, Array.append_empty]
  gi_wp2
  refine ⟨trivial, fun h => by simp [Fence.wide] at h, (callsIn_wide.2 hio).mono ?_⟩
  rintro e y ⟨v, rfl, ho, hby⟩
  have HJ0 : Hid (J [] y) := hJ [] W y none h0 (grown_of hby) (fun r e => by cases e)
  have HBY : Hid (Below W.heap.size W y) := hby
  rw [HN.out] at ho
  have HO : Hid (y.ownsRow W.heap.size tL 3 v N (gc (A.map emb))) := ho
  obtain ⟨o, cap, rfl, -, -, -⟩ := own_form ho
  clear hio ho hby h0 c0
  gi_wp2
  gi_loopw [4, 8] (fun _ vi wr => ∃ i : Nat, i ≤ N ∧ vi = .int .i64 (i : Int) ∧ Hid (J (A.take i) wr) ∧ Hid (W.heap.size ≤ wr.heap.size) ∧ Hid (wr.ownsRow W.heap.size tL 3 (.slice o N cap) N (gc (A.map emb)) ∧ ∀ g, (Value.slice o N cap).ownBlock = some g → Safe wr g)) (fun _ vi _ => N - (intOf vi).toNat)
  case atStart => exact ⟨0, Nat.zero_le _, rfl, HJ0.out, HBY.out.size, HO.out, fun g hg => HS.out y g HBY.out (HO.out.lt g hg).1⟩
  case round =>
    obtain ⟨i, hi, rfl, HJ, HSZ, HR⟩ := hrel
    rename World => wr
    by_cases hlt : i < N
    · have hiA : i < A.length := by rw [HN.out]; exact hlt
      have hiM : i < (A.map emb).length := by rw [List.length_map]; exact hiA
      have hlN : (A.map emb).length = N := by rw [List.length_map, HN.out]
      have hrow := HR.out.1
      rw [← hlN] at hrow
      obtain ⟨o', cap', ev, hcell⟩ := rowg_own hrow
      rw [hlN] at ev
      injection ev with e1 e2 e3
      subst e1
      subst e3
      obtain ⟨a, ea, c0, c1, c2⟩ := hcell i hiM
      subst ea
      rw [add_field _ _ _ (by decide)] at c1 c2
      rw [List.getElem_map] at c0 c1 c2
      obtain ⟨x, HX⟩ : ∃ x : T3, Hid (∀ h : i < A.length, A[i]'h = x) := ⟨A[i]'hiA, fun _ => rfl⟩
      rw [HX.out hiA] at c0 c1 c2
      have HT : Hid (A.take i ++ [x] = A.take (i + 1)) := by
        show _ = _
        rw [List.take_succ_eq_append_getElem hiA, HX.out hiA]
      have HP : Hid (A.take (i + 1) <+: A) := List.take_prefix _ _
      obtain ⟨x0, x1, x2⟩ := x
      unfold emb at c0 c1 c2
      dsimp only at c0 c1 c2
      obtain ⟨W1, hW1⟩ : ∃ W1, wr.alloc (.cells #[.int .i64 x0, .int .i64 x1, .pointer (some ⟨x2, 0, none⟩)] tL) = W1 := ⟨_, rfl⟩
      have HB1 : Hid (Below wr.heap.size wr W1) := hW1 ▸ below_one _ _
      have HX1 : Hid (W1.heap[wr.heap.size]? = some (.cells #[.int .i64 x0, .int .i64 x1, .pointer (some ⟨x2, 0, none⟩)] tL)) := hW1 ▸ h1_0 _ _
      have HJ1 : J (A.take i) W1 := hJ _ wr W1 none HJ.out (grown_of HB1.out) (fun r e => by cases e)
      have hY1 := hY (A.take i) (x0, x1, x2) W1 HJ1 (by rw [HT.out]; exact HP.out)
      obtain ⟨fn, tmps, assign, body, hy, hR⟩ := hY1
      rw [HT.out] at hR
      dsimp only at hy
      have HR1 : Hid (W1.ownsRow W.heap.size tL 3 (.slice (some a) N cap) N (gc (A.map emb)) ∧ ∀ g, (Value.slice (some a) N cap).ownBlock = some g → Safe W1 g) := ⟨own_keep HR.out.1 fun g hg => HB1.out.block g (HR.out.1.lt g hg).2, fun g hg => hK.up HB1.out (HR.out.2 g hg)⟩
      have d0 : W1.cell? ⟨wr.heap.size, 0, none⟩ = some (.int .i64 x0) := by simp [World.cell?, HX1.out]
      have d2 : W1.cell? ⟨wr.heap.size, 2, none⟩ = some (.pointer (some ⟨x2, 0, none⟩)) := by simp [World.cell?, HX1.out]
      have q0 : (i : Int) < (N : Int) := by omega
      have q1 : (0 : Int) ≤ (i : Int) := by omega
      have q2 : (i : Int) + 1 ≤ 9223372036854775807 := by omega
      clear hiA hiM hlN hrow hcell e2 HJ1 HX HT
      gi_wp2
      try rw [hW1]
      refine ⟨fun h => by simp [Fence.wide] at h, (round_wide hR).mono ?_⟩
      clear hR hy d0 d2 c0 c1 c2
      rintro e W3 ⟨hkf, hcs⟩
      rcases hcs with ⟨rfl, hJ3, hk3⟩ | ⟨rfl, hJx3⟩
      · have HK3 : Hid (W3.ownsRow W.heap.size tL 3 (.slice (some a) N cap) N (gc (A.map emb)) ∧ ∀ g, (Value.slice (some a) N cap).ownBlock = some g → Safe W3 g) := by
          have key : ∀ g, (Value.slice (some a) N cap).ownBlock = some g → W3.heap[g]? = W1.heap[g]? ∧ Safe W3 g := fun g hg => by
            obtain ⟨c, hc⟩ := own_ty HR1.out.1 hg
            have := hK.turn hk3 (HR1.out.2 g hg) hc
            exact ⟨this.1.trans hc.symm, this.2⟩
          exact ⟨own_keep HR1.out.1 fun g hg => (key g hg).1, fun g hg => (key g hg).2⟩
        have HSZ3 : Hid (W.heap.size ≤ W3.heap.size) := Nat.le_trans HSZ.out (Nat.le_trans HB1.out.size hkf.size)
        gi_wp2
        exact ⟨⟨i + 1, by omega, by go_num, hJ3, HSZ3, HK3⟩, by simp [intOf]; omega⟩
      · gi_wp2
        refine bodyPost_ret (results_none rfl _ _ _) rfl ?_
        exact ⟨⟨_, rfl⟩, .inr ⟨_, HP.out, hJx3⟩⟩
    · have hge : ¬ (i : Int) < (N : Int) := by omega
      have HE : Hid (J A wr) := by
        have := HJ.out
        rw [List.take_of_length_le (by rw [HN.out]; omega)] at this
        exact this
      gi_wp2
      go_end0
      exact ⟨⟨_, rfl⟩, .inl HE.out⟩
end Go.Proofs.Ytgchdjjafgkcbaa.Ve
/- Table.All: what a range over the wheel keeps. -/
namespace Go.Proofs.Ytgchdjjafgkcbaa.Vf
set_option linter.unusedVariables false
set_option linter.unusedSimpArgs false
open Go.RowKit Go.Maps Go.Shelf Lib0 Kb Xp Ih Dh Eh Fh Gh Hh Kh Jh Mh Th Ch Va Vb Vc Vd Ve Sr
/-- what a body keeps: every block of what is laid down -/
def KL (A B : World) : Prop := ∀ (k : Nat) (c : Array Value) (fr : Nat × Nat), A.heap[k]? = some (Obj.cells c tL fr) → B.heap[k]? = A.heap[k]?
theorem kl_r (A : World) : KL A A := fun _ _ _ _ => rfl
theorem kl_t {A B C : World} (h : KL A B) (k : KL B C) : KL A C := fun i c fr hi => (k i c fr ((h i c fr hi).trans hi)).trans (h i c fr hi)
theorem kl_below {A B : World} (h : Below A.heap.size A B) : KL A B := fun k c fr hk => h.block k (Array.getElem?_eq_some_iff.1 hk).1
theorem kl_b (W : World) (l : Nat) (o o' : Obj) (h : W.heap[l]? = some o) (hc : o.isCells = false) : KL W (W.putObj l o') :=
  fun k c fr hk => World.putObj_heap_other (fun e => by subst e; rw [h] at hk; cases hk; simp [Obj.isCells] at hc)
theorem kl_set {A : World} {g : Nat} {c : Array Value} {t : TypeId} {fr : Nat × Nat} (h : A.heap[g]? = some (.cells c t fr)) (ht : t ≠ tL) (o : Nat) (v : Value) : KL A (A.setCell ⟨g, o, none⟩ v) :=
  fun k c' fr' hk => setCell_ne (p := ⟨g, o, none⟩) (fun e : g = k => by subst e; rw [h] at hk; cases hk; exact ht rfl) v
theorem kl_grown {A B : World} {row : Option Nat} (h : A.grownBy B row) (hr : ∀ r, row = some r → ∃ c t fr, A.heap[r]? = some (.cells c t fr) ∧ t ≠ tL) : KL A B :=
  fun k c fr hk => h.block k (Array.getElem?_eq_some_iff.1 hk).1 (fun e => by obtain ⟨c2, t, fr2, h1, h2⟩ := hr k e.symm; rw [hk] at h1; cases h1; exact h2 rfl)
theorem kl_kept : Kept3 KL (fun _ _ => True) := ⟨fun hk _ hg => ⟨(hk _ _ _ hg).trans hg, trivial⟩, fun _ _ => trivial⟩
theorem gk {A B : World} {row : Option Nat} {b : Nat} {o : Obj} (h : A.grownBy B row) (e : A.heap[b]? = some o) (hne : row ≠ some b) : B.heap[b]? = some o := (h.block b (Array.getElem?_eq_some_iff.1 e).1 (fun e2 => hne e2.symm)).trans e
theorem kf_set {n : Nat} {A : World} {g : Nat} {c : Array Value} {t : TypeId} {fr : Nat × Nat} (h : A.heap[g]? = some (.cells c t fr)) (o : Nat) (v : Value) : KeepsFrom n A (A.setCell ⟨g, o, none⟩ v) :=
  ⟨by rw [setCell_size]; exact Nat.le_refl _, fun k ob _ e ho => (setCell_ne (p := ⟨g, o, none⟩) (fun e2 : g = k => by subst e2; rw [h] at e; cases e; cases ho) v).trans e⟩
theorem kf_below {n : Nat} {A B : World} (h : Below A.heap.size A B) : KeepsFrom n A B := ⟨h.size, fun k ob _ e _ => kept h e⟩
theorem kf_grown {n : Nat} {A B : World} {row : Option Nat} (h : A.grownBy B row) (hr : ∀ r, row = some r → ∃ c t fr, A.heap[r]? = some (.cells c t fr)) : KeepsFrom n A B :=
  ⟨h.size, fun k ob _ e ho => gk h e (fun e2 => by obtain ⟨c, t, fr, h1⟩ := hr k e2; rw [e] at h1; cases h1; cases ho)⟩
theorem cells_grown {A B : World} {row : Option Nat} {b : Nat} {c : Array Value} {t : TypeId} {fr : Nat × Nat} (h : A.grownBy B row) (hr : ∀ r, row = some r → ∃ o : Obj, A.heap[r]? = some o ∧ o.isCells = false) (e : A.heap[b]? = some (.cells c t fr)) : B.heap[b]? = some (.cells c t fr) :=
  gk h e fun e2 => by obtain ⟨o, h1, h2⟩ := hr b e2; rw [e] at h1; cases h1; cases h2
/-- All answers an iterator -/
theorem all_any (b : Nat) (w : World) : Calls Try.prog 30 #[.pointer (some ⟨b, 0, none⟩)] w fun e w' => e = .returned (.func (.func 40) #[] #[.pointer (some ⟨w.heap.size, 0, none⟩)]) ∧ w' = w.alloc (.cells #[.pointer (some ⟨b, 0, none⟩)] tPW) := by
  have hmf : ∀ (fn : Fn) (first cap : Array Value) (w : World), (Instr.makeFunc fn first cap).run Try.prog w = .ok (.func fn first cap) w := fun _ _ _ _ => rfl
  go_enter Try.func30, Try.ntmps30
  go_wp2
  go_ret
  exact ⟨rfl, rfl⟩
end Go.Proofs.Ytgchdjjafgkcbaa.Vf
