/- WheelOnce: what holds between its statements. -/
import Derived.Test.YtdhljogcoooomaaOc
namespace Go.Proofs.Ytdhljogcoooomaa.Oe
set_option linter.unusedVariables false
set_option linter.unusedSimpArgs false
open Go.RowKit Go.Maps Lib0 Kb Xp Oq Il Dl El Fl Gl Hl Kl Jl Ml Tl Cl Om Oc
structure On (w0 w : World) (b n : Nat) (due : List Int) (dn : List Bool) (th : Nat → Value) (now last : Int) (vdu : Value) (dueR : List Int) (vdn : Value) (dnR : List Bool) : Prop where
  wl : ∃ B, Wl w b B n (Lof due dn th) now last ∧ ∀ g, B g → w0.heap.size ≤ g
  below : Below w0.heap.size w0 w
  ok : Ok n (Lof due dn th) now last
  rdu : w.ownsRow w0.heap.size tI 1 vdu dueR.length (dueR.map (Value.int .i64))
  rdn : w.ownsRow w0.heap.size tB 1 vdn dnR.length (dnR.map Value.bool)
  len : dn.length = due.length
  rth : Thg w th due.length
  tne : ∀ k, k < due.length → ∀ g, (th k).ownBlock = some g → vdu.ownBlock ≠ some g
  db : ∀ k, k < due.length → 0 ≤ due.getD k 0 ∧ due.getD k 0 ≤ now + 200
theorem On.keep {w0 w x : World} {b n : Nat} {due : List Int} {dn : List Bool} {th : Nat → Value} {now last : Int} {vdu vdn : Value} {dueR : List Int} {dnR : List Bool} (h : On w0 w b n due dn th now last vdu dueR vdn dnR) (k : Below w.heap.size w x) : On w0 x b n due dn th now last vdu dueR vdn dnR := by
  obtain ⟨B, h1, h2⟩ := h.wl
  exact ⟨⟨B, h1.below k, h2⟩, keepB h.below k, h.ok, own_below h.rdu k, own_below h.rdn k, h.len, h.rth.keep fun g c hg => k.block g (Array.getElem?_eq_some_iff.1 hg).1, h.tne, h.db⟩
def upT (th : Nat → Value) (i : Nat) (v : Value) : Nat → Value := fun k => if k = i then v else th k
theorem fresh_below {w0 w w' : World} {B : Nat → Prop} (hb : Below w0.heap.size w0 w) (h2 : FrP B w w') (hB : ∀ g, B g → w0.heap.size ≤ g) : Below w0.heap.size w0 w' :=
  ((FrP.of (B := fun _ => False) hb).trans h2 (fun g hg => .inr (hB g hg))).below (fun _ h => h.elim)
/-- one more is laid down: the wheel alone knows it -/
theorem On.add {w0 w w' : World} {b n : Nat} {B : Nat → Prop} {due : List Int} {dn : List Bool} {th : Nat → Value} {now t : Int} {vdu vdn : Value} (h : On w0 w b n due dn th now due.length vdu due vdn dn) (bk cap : Nat) (hbk : w.heap[bk]? = some (.cells #[.int .i64 (due.length : Nat)] tI)) (hne : vdu.ownBlock ≠ some bk) (hB1 : Wl w b B n (Lof due dn th) now due.length) (hB2 : ∀ g, B g → w0.heap.size ≤ g) (ht1 : 1 ≤ t) (ht2 : t ≤ 200) (hlen : due.length ≤ 49)
    (hT : Trn w b B n (Lof due dn th ++ [((due.length : Int) + 1, now + t, .slice (some ⟨bk, 0, none⟩) 1 cap)]) now ((due.length : Int) + 1) w') : On w0 w' b n (due ++ [now + t]) (dn ++ [false]) (upT th due.length (.slice (some ⟨bk, 0, none⟩) 1 cap)) now ((due.length : Int) + 1) vdu due vdn dn := by
  have e := lof_add (due := due) (dn := dn) (th := th) (th' := upT th due.length (.slice (some ⟨bk, 0, none⟩) 1 cap)) (d := now + t) h.len (fun k hk => by rw [upT, if_neg (by omega)])
  rw [show upT th due.length (.slice (some ⟨bk, 0, none⟩) 1 cap) due.length = .slice (some ⟨bk, 0, none⟩) 1 cap by rw [upT, if_pos rfl]] at e
  obtain ⟨B', h1, h2, h3⟩ := hT
  have n0 := h.ok.now0
  have kk : ∀ (g : Nat) (c : Array Value) t, t = tI ∨ t = tB → w.heap[g]? = some (Obj.cells c t (0, 0)) → w'.heap[g]? = w.heap[g]? := fun g c t ht hg => by
    refine h2.block g (Array.getElem?_eq_some_iff.1 hg).1 (wl_kind hB1 hg ?_)
    rcases ht with rfl | rfl <;> decide
  refine ⟨⟨B', by rw [e]; exact h1, fun g hg => ?_⟩, fresh_below h.below h2 hB2, ?_, own_keep h.rdu fun g hg => ?_, own_keep h.rdn fun g hg => ?_, by simp [h.len], fun k hk => ?_, fun k hk g hg => ?_, fun k hk => ?_⟩
  · rcases h3 g hg with h4 | h4
    · exact hB2 g h4
    · exact Nat.le_trans h.below.size h4
  · rw [e]
    exact Hl.Ok.add h.ok rfl ht1 (by omega) (by omega)
  · obtain ⟨c, hc⟩ := own_ty h.rdu hg
    exact kk g c _ (.inl rfl) hc
  · obtain ⟨c, hc⟩ := own_ty h.rdn hg
    exact kk g c _ (.inr rfl) hc
  · rw [List.length_append, List.length_singleton] at hk
    by_cases ek : k = due.length
    · subst ek
      exact ⟨bk, cap, by rw [upT, if_pos rfl], (kk bk _ _ (.inl rfl) hbk).trans hbk⟩
    · obtain ⟨bk2, cap2, a1, a2⟩ := h.rth k (by omega)
      exact ⟨bk2, cap2, by rw [upT, if_neg ek]; exact a1, (kk bk2 _ _ (.inl rfl) a2).trans a2⟩
  · rw [List.length_append, List.length_singleton] at hk
    by_cases ek : k = due.length
    · subst ek
      rw [upT, if_pos rfl] at hg
      have : bk = g := by simpa [Value.ownBlock] using hg
      subst this
      exact hne
    · rw [upT, if_neg ek] at hg
      exact h.tne k (by omega) g hg
  · rw [List.length_append, List.length_singleton] at hk
    rw [getD_snoc]
    by_cases ek : k = due.length
    · rw [if_pos ek]; omega
    · rw [if_neg ek]; exact h.db k (by omega)
/-- what is due is written down -/
theorem On.due {w0 w w1 w' : World} {b n : Nat} {due : List Int} {dn : List Bool} {th : Nat → Value} {now last : Int} {vdu vdn v' : Value} {dueR : List Int} {dnR : List Bool} (h : On w0 w b n due dn th now last vdu dueR vdn dnR) (k1 : Below w.heap.size w w1) (d : Int) (ho : w'.ownsRow w0.heap.size tI 1 v' (dueR.length + 1) (dueR.map (Value.int .i64) ++ [.int .i64 d])) (hg : w1.grownBy w' vdu.ownBlock) (hloc : v'.ownBlock = vdu.ownBlock ∨ v'.ownBlock = some w1.heap.size) : On w0 w' b n due dn th now last v' (dueR ++ [d]) vdn dnR := by
  have h1 := h.keep k1
  obtain ⟨B, hw, hB⟩ := h1.wl
  have hty : ∀ g, vdu.ownBlock = some g → ∃ c, w1.heap[g]? = some (Obj.cells c tI (0, 0)) := fun g e => own_ty h1.rdu e
  have kk : ∀ g, g < w1.heap.size → vdu.ownBlock ≠ some g → w'.heap[g]? = w1.heap[g]? := fun g a1 a2 => hg.block g a1 (fun e => a2 e.symm)
  refine ⟨⟨B, hw.keep fun g hb => kk g (hw.lt g hb) (fun e => ?_), hB⟩, h1.below.grown hg h1.below.size (fun g e => (h1.rdu.lt g e).1), h.ok, ?_, own_keep h1.rdn fun g e => ?_, h.len, fun k hk => ?_, fun k hk g e e2 => ?_, h.db⟩
  · obtain ⟨c, hc⟩ := hty g e
    exact wl_kind hw hc (by decide) hb
  · rw [List.length_append, List.map_append]; exact ho
  · refine kk g (h1.rdn.lt g e).2 (fun e2 => ?_)
    obtain ⟨c, hc⟩ := hty g e2
    obtain ⟨c2, hc2⟩ := own_ty h1.rdn e
    exact ty_ne hc hc2 (by decide) rfl
  · obtain ⟨bk, cap, a1, a2⟩ := h1.rth k hk
    refine ⟨bk, cap, a1, (kk bk (Array.getElem?_eq_some_iff.1 a2).1 ?_).trans a2⟩
    exact h.tne k hk bk (by rw [a1]; rfl)
  · rcases hloc with e3 | e3
    · rw [e3] at e2; exact h.tne k hk g e e2
    · rw [e3] at e2
      obtain ⟨bk, cap, a1, a2⟩ := h1.rth k hk
      rw [a1] at e
      have e4 : bk = g := by simpa [Value.ownBlock] using e
      have e5 : w1.heap.size = g := by simpa using e2
      have := (Array.getElem?_eq_some_iff.1 a2).1
      omega
/-- what is done is written down -/
theorem On.done {w0 w w1 w' : World} {b n : Nat} {due : List Int} {dn : List Bool} {th : Nat → Value} {now last : Int} {vdu vdn v' : Value} {dueR : List Int} {dnR : List Bool} (h : On w0 w b n due dn th now last vdu dueR vdn dnR) (k1 : Below w.heap.size w w1) (d : Bool) (ho : w'.ownsRow w0.heap.size tB 1 v' (dnR.length + 1) (dnR.map Value.bool ++ [.bool d])) (hg : w1.grownBy w' vdn.ownBlock) : On w0 w' b n due dn th now last vdu dueR v' (dnR ++ [d]) := by
  have h1 := h.keep k1
  obtain ⟨B, hw, hB⟩ := h1.wl
  have hty : ∀ g, vdn.ownBlock = some g → ∃ c, w1.heap[g]? = some (Obj.cells c tB (0, 0)) := fun g e => own_ty h1.rdn e
  have kk : ∀ g, g < w1.heap.size → vdn.ownBlock ≠ some g → w'.heap[g]? = w1.heap[g]? := fun g a1 a2 => hg.block g a1 (fun e => a2 e.symm)
  refine ⟨⟨B, hw.keep fun g hb => kk g (hw.lt g hb) (fun e => ?_), hB⟩, h1.below.grown hg h1.below.size (fun g e => (h1.rdn.lt g e).1), h.ok, own_keep h1.rdu fun g e => ?_, ?_, h.len, fun k hk => ?_, h.tne, h.db⟩
  · obtain ⟨c, hc⟩ := hty g e
    exact wl_kind hw hc (by decide) hb
  · refine kk g (h1.rdu.lt g e).2 (fun e2 => ?_)
    obtain ⟨c, hc⟩ := hty g e2
    obtain ⟨c2, hc2⟩ := own_ty h1.rdu e
    exact ty_ne hc hc2 (by decide) rfl
  · rw [List.length_append, List.map_append]; exact ho
  · obtain ⟨bk, cap, a1, a2⟩ := h1.rth k hk
    refine ⟨bk, cap, a1, (kk bk (Array.getElem?_eq_some_iff.1 a2).1 (fun e => ?_)).trans a2⟩
    obtain ⟨c, hc⟩ := hty bk e
    exact ty_ne a2 hc (by decide) rfl
theorem comes_on (w0 w : World) (b n : Nat) (due : List Int) (dn : List Bool) (th : Nat → Value) (now : Int) (vdu vdn : Value) (h : On w0 w b n due dn th now due.length vdu due vdn dn) (hl : due.length ≤ 50) (hnow : now + 1 ≤ 1000000000) :
    Calls Try.prog 27 #[.pointer (some ⟨b, 0, none⟩), vdu, vdn] w fun e w' => e = .returned (.bool true) ∧ ∃ dn', On w0 w' b n due dn' th (now + 1) due.length vdu due vdn dn' ∧ ∀ k, k < due.length → dn'.getD k true = (dn.getD k true || due.getD k 0 == now + 1) := by
  obtain ⟨B, hw, hB⟩ := h.wl
  refine (comes_any w b B n due dn th now due.length vdu vdn hw h.ok (own_base h.rdu fun g _ => Nat.zero_le _) (own_base h.rdn fun g _ => Nat.zero_le _) h.len h.rth hl hnow (by omega) (fun k hk => by have := h.db k hk; omega)).mono ?_
  rintro e w' ⟨rfl, dn', B', a1, a2, a3, a4, a5, a6⟩
  refine ⟨rfl, dn', ⟨⟨B', a3, fun g hg => ?_⟩, ?_, ?_, own_keep h.rdu fun g hg => ?_, own_base a4 fun g hg => (h.rdn.lt g hg).1, a1.trans h.len, h.rth.keep fun g c hg => ?_, h.tne, fun k hk => ?_⟩, a2⟩
  · rcases a6 g hg with h4 | h4
    · exact hB g h4
    · exact Nat.le_trans h.below.size h4
  · refine ((FrP.of (B := fun _ => False) h.below).trans a5 (fun g hg => .inr ?_)).below (fun _ h => h.elim)
    rcases hg with h4 | h4
    · exact hB g h4
    · exact (h.rdn.lt g h4).1
  · have := Tl.Ok.tick h.ok (by omega)
    rw [lof_less (dn' := dn') a2] at this
    exact this
  · obtain ⟨c, hc⟩ := own_ty h.rdu hg
    refine a5.block g (h.rdu.lt g hg).2 (fun e => ?_)
    rcases e with e | e
    · exact wl_kind hw hc (by decide) e
    · obtain ⟨c2, hc2⟩ := own_ty h.rdn e
      exact ty_ne hc hc2 (by decide) rfl
  · refine a5.block g (Array.getElem?_eq_some_iff.1 hg).1 (fun e => ?_)
    rcases e with e | e
    · exact wl_kind hw hg (by decide) e
    · obtain ⟨c2, hc2⟩ := own_ty h.rdn e
      exact ty_ne hg hc2 (by decide) rfl
  · have := h.db k hk; omega
theorem cancel_on (w0 w : World) (b n : Nat) (due : List Int) (dn : List Bool) (th : Nat → Value) (now : Int) (vdu vdn : Value) (c : Nat) (h : On w0 w b n due dn th now due.length vdu due vdn dn) (hl : due.length ≤ 50) (hc : c < due.length) :
    Calls Try.prog 28 #[.pointer (some ⟨b, 0, none⟩), .int .i64 ((c : Int) + 1)] w fun e w' => ∃ (v : Value) (g : Int), e = .returned (.tuple #[v, .int .i64 g]) ∧ On w0 w' b n due (dn.set c true) th now due.length vdu due vdn dn ∧ ((dn.getD c true = true ∧ g = 170 ∧ v = .slice none 0 0) ∨ (dn.getD c true = false ∧ g = 0 ∧ v = th c)) := by
  obtain ⟨B, hw, hB⟩ := h.wl
  have hlk := lof_lk (due := due) (dn := dn) (th := th) hc
  have hcd : c < dn.length := by rw [h.len]; exact hc
  cases e : dn.getD c true with
  | true =>
    rw [e, if_pos rfl] at hlk
    refine (cancel_no w b B n _ now due.length ((c : Int) + 1) hw (wf64 (by omega) (by omega)) hlk).mono ?_
    rintro e2 w' ⟨rfl, hb⟩
    refine ⟨_, _, rfl, ?_, .inl ⟨rfl, rfl, rfl⟩⟩
    have : dn.set c true = dn := by
      rw [getD_at hcd] at e
      rw [← e, List.set_getElem_self]
    rw [this]
    exact h.keep hb
  | false =>
    rw [e, if_neg (by simp)] at hlk
    refine (cancel_yes w b B n _ now due.length ((c : Int) + 1) _ hw h.ok (by omega) (wf64 (by omega) (by omega)) hlk).mono ?_
    rintro e2 w' ⟨rfl, B', h1, h2, h3⟩
    refine ⟨_, _, rfl, ?_, .inr ⟨rfl, rfl, rfl⟩⟩
    have e3 : (Lof due dn th).filter (fun y => !(y.1 == (c : Int) + 1)) = Lof due (dn.set c true) th := lof_less fun k hk => by
      rw [getD_set hcd]
      congr 1
      show (k == c) = ((k : Int) + 1 == (c : Int) + 1)
      by_cases ek : k = c
      · subst ek; simp
      · rw [beq_eq_false_iff_ne.2 ek, beq_eq_false_iff_ne.2 (by omega)]
    have hok := Cl.Ok.cancel h.ok (fun y => !(y.1 == (c : Int) + 1))
    rw [e3] at h1 hok
    refine ⟨⟨B', h1, fun g hg => ?_⟩, fresh_below h.below h2 hB, hok, own_keep h.rdu fun g hg => ?_, own_keep h.rdn fun g hg => ?_, by rw [List.length_set, h.len], h.rth.keep fun g c hg => ?_, h.tne, h.db⟩
    · rcases h3 g hg with h4 | h4
      · exact hB g h4
      · exact Nat.le_trans h.below.size h4
    · obtain ⟨c, hc⟩ := own_ty h.rdu hg
      exact h2.block g (h.rdu.lt g hg).2 (wl_kind hw hc (by decide))
    · obtain ⟨c, hc⟩ := own_ty h.rdn hg
      exact h2.block g (h.rdn.lt g hg).2 (wl_kind hw hc (by decide))
    · exact h2.block g (Array.getElem?_eq_some_iff.1 hg).1 (wl_kind hw hg (by decide))
/-- a mark in what is done -/
theorem On.mark {w0 w : World} {b n : Nat} {due : List Int} {dn : List Bool} {th : Nat → Value} {now last : Int} {vdu : Value} {dueR : List Int} {dnR : List Bool} {gd N cap : Nat} (h : On w0 w b n due dn th now last vdu dueR (.slice (some ⟨gd, 0, none⟩) N cap) dnR) (k : Nat) (hk : k < dnR.length) : On w0 (w.setCell ⟨gd, k, none⟩ (.bool true)) b n due dn th now last vdu dueR (.slice (some ⟨gd, 0, none⟩) N cap) (dnR.set k true) := by
  obtain ⟨B, hw, hB⟩ := h.wl
  obtain ⟨c0, hc0⟩ := own_ty h.rdn (g := gd) rfl
  have kk : ∀ g, gd ≠ g → (w.setCell ⟨gd, k, none⟩ (.bool true)).heap[g]? = w.heap[g]? := fun g hg => setCell_ne (p := ⟨gd, k, none⟩) hg _
  refine ⟨⟨B, hw.keep fun g hg => kk g (fun e => ?_), hB⟩, ?_, h.ok, own_keep h.rdu fun g hg => kk g ?_, ?_, h.len, h.rth.keep fun g c hg => kk g (ty_ne hc0 hg (by decide)), h.tne, h.db⟩
  · subst e; exact wl_kind hw hc0 (by decide) hg
  · exact ((FrP.of (B := fun _ => False) h.below).set (p := ⟨gd, k, none⟩) (.inr (h.rdn.lt gd rfl).1) _).below (fun _ h => h.elim)
  · obtain ⟨c, hc⟩ := own_ty h.rdu hg
    exact ty_ne hc0 hc (by decide)
  · exact own_base (Dn.set (own_base h.rdn fun g _ => Nat.zero_le _) k hk) fun g hg => (h.rdn.lt g hg).1
end Go.Proofs.Ytdhljogcoooomaa.Oe
