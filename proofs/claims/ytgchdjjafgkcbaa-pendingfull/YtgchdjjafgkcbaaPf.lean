/- A table's state, plain; New. -/
import Derived.Test.YtgchdjjafgkcbaaPe
namespace Go.Proofs.Ytgchdjjafgkcbaa.Pf
set_option linter.unusedVariables false
set_option linter.unusedSimpArgs false
open Go.RowKit Go.Maps Lib0 Kb Xp Za Ze Ih Fh Hh Pa Pb Pc Pe
attribute [local go_sem] Oper.semAt_some
structure Mt (Dk Dh : DataW Value) (KP : Rq → Prop) (HP : Nat → Rq → Prop) : Prop where
  tk : Maps.Tidy Dk
  th : Maps.Tidy Dh
  key : ∀ l, Maps.has Dk l = true ↔ ∃ r, KP r ∧ kl r = l
  hel : ∀ l, Maps.has Dh l = true ↔ ∃ g r, HP g r ∧ nl r = l
  at_ : ∀ g r, HP g r → ∀ z, Dh.atKey (nl r) z = .held (.pointer (some ⟨g, 0, none⟩))
theorem Mt.congr {Dk Dh : DataW Value} {KP KP' : Rq → Prop} {HP HP' : Nat → Rq → Prop} (h : Mt Dk Dh KP HP) (hk : ∀ r, KP r ↔ KP' r) (hh : ∀ g r, HP g r ↔ HP' g r) : Mt Dk Dh KP' HP' := by
  have e1 : KP = KP' := funext fun r => propext (hk r)
  have e2 : HP = HP' := funext fun g => funext fun r => propext (hh g r)
  rw [← e1, ← e2]; exact h
theorem mt_nil : Mt (.map []) (.map []) (fun _ => False) (fun _ _ => False) := ⟨Maps.tidy_empty, Maps.tidy_empty, fun l => ⟨fun h => (by cases h), fun ⟨r, h, _⟩ => h.elim⟩, fun l => ⟨fun h => (by cases h), fun ⟨g, r, h, _⟩ => h.elim⟩, fun g r h => h.elim⟩
theorem kl_key (r : Rq) : WideAt.IsKeyLit (kl r) := trivial
theorem nl_key (r : Rq) : WideAt.IsKeyLit (nl r) := trivial
theorem Mt.putK {Dk Dh : DataW Value} {KP : Rq → Prop} {HP : Nat → Rq → Prop} (h : Mt Dk Dh KP HP) (r : Rq) : Mt (Dk.put (kl r) (.agg [])) Dh (fun q => KP q ∨ q = r) HP := by
  refine ⟨h.tk.put (kl_key r) _, h.th, fun l => ?_, h.hel, h.at_⟩
  by_cases e : l = kl r
  · subst e
    rw [Maps.has_put_same h.tk.isMap (kl_key r)]
    exact ⟨fun _ => ⟨r, .inr rfl, rfl⟩, fun _ => rfl⟩
  · rw [Maps.has_put_other e, h.key]
    constructor
    · rintro ⟨q, h1, h2⟩; exact ⟨q, .inl h1, h2⟩
    · rintro ⟨q, h1 | h1, h2⟩
      · exact ⟨q, h1, h2⟩
      · rw [h1] at h2; exact absurd h2.symm e
theorem Mt.delK {Dk Dh : DataW Value} {KP : Rq → Prop} {HP : Nat → Rq → Prop} (h : Mt Dk Dh KP HP) (r : Rq) : Mt (Dk.del (kl r)) Dh (fun q => KP q ∧ kl q ≠ kl r) HP := by
  refine ⟨h.tk.del _, h.th, fun l => ?_, h.hel, h.at_⟩
  by_cases e : l = kl r
  · subst e
    rw [Maps.has_del_same]
    exact ⟨fun h => (by cases h), fun ⟨q, h1, h2⟩ => absurd h2 h1.2⟩
  · rw [Maps.has_del_other e, h.key]
    constructor
    · rintro ⟨q, h1, h2⟩; exact ⟨q, ⟨h1, by rw [h2]; exact e⟩, h2⟩
    · rintro ⟨q, h1, h2⟩; exact ⟨q, h1.1, h2⟩
theorem Mt.putH {Dk Dh : DataW Value} {KP : Rq → Prop} {HP : Nat → Rq → Prop} (h : Mt Dk Dh KP HP) (g : Nat) (r : Rq) (hn : ∀ k q, HP k q → nl q ≠ nl r) : Mt Dk (Dh.put (nl r) (.held (.pointer (some ⟨g, 0, none⟩)))) KP (fun k q => HP k q ∨ (k = g ∧ q = r)) := by
  refine ⟨h.tk, h.th.put (nl_key r) _, h.key, fun l => ?_, fun k q hq z => ?_⟩
  · by_cases e : l = nl r
    · subst e
      rw [Maps.has_put_same h.th.isMap (nl_key r)]
      exact ⟨fun _ => ⟨g, r, .inr ⟨rfl, rfl⟩, rfl⟩, fun _ => rfl⟩
    · rw [Maps.has_put_other e, h.hel]
      constructor
      · rintro ⟨k, q, h1, h2⟩; exact ⟨k, q, .inl h1, h2⟩
      · rintro ⟨k, q, h1 | h1, h2⟩
        · exact ⟨k, q, h1, h2⟩
        · rw [h1.2] at h2; exact absurd h2.symm e
  · rcases hq with hq | ⟨rfl, rfl⟩
    · rw [Maps.atKey_put_other (hn k q hq)]; exact h.at_ k q hq z
    · exact Maps.atKey_put_same h.th.isMap (nl_key q) _ _
theorem Mt.delH {Dk Dh : DataW Value} {KP : Rq → Prop} {HP : Nat → Rq → Prop} (h : Mt Dk Dh KP HP) (r : Rq) : Mt Dk (Dh.del (nl r)) KP (fun k q => HP k q ∧ nl q ≠ nl r) := by
  refine ⟨h.tk, h.th.del _, h.key, fun l => ?_, fun k q hq z => ?_⟩
  · by_cases e : l = nl r
    · subst e
      rw [Maps.has_del_same]
      exact ⟨fun h => (by cases h), fun ⟨k, q, h1, h2⟩ => absurd h2 h1.2⟩
    · rw [Maps.has_del_other e, h.hel]
      constructor
      · rintro ⟨k, q, h1, h2⟩; exact ⟨k, q, ⟨h1, by rw [h2]; exact e⟩, h2⟩
      · rintro ⟨k, q, h1, h2⟩; exact ⟨k, q, h1.1, h2⟩
  · rw [Maps.atKey_del_other hq.2]; exact h.at_ k q hq.1 z
structure St where
  LW : List XQ
  LR : List XQ
  now : Int
  lw : Int
  lr : Int
  old : Int
def KPs (L : List XQ) (r : Rq) : Prop := ∃ x ∈ L, x.2.2.2 = r
def HPs (L : List XQ) (g : Nat) (r : Rq) : Prop := ∃ x ∈ L, x.2.2.1 = g ∧ x.2.2.2 = r
structure Iv (C : Cf) (S : St) : Prop where
  okw : Ok 256 (S.LW.map tx) S.now S.lw
  okr : Ok 256 (S.LR.map tx) S.now S.lr
  ro : ∀ x ∈ S.LW ++ S.LR, Ro x.2.2.2
  nd : (S.LW ++ S.LR).Pairwise fun x y => nl x.2.2.2 ≠ nl y.2.2.2
  kd : S.LW.Pairwise fun x y => kl x.2.2.2 ≠ kl y.2.2.2
  lenw : (S.LW.length : Int) ≤ C.most
  lenr : (S.LR.length : Int) ≤ C.most
  old0 : 0 ≤ S.old
  old1 : ∀ x ∈ S.LR, S.old < x.1
  old2 : S.old ≤ S.lr
structure Tb (w : World) (base b : Nat) (C : Cf) (S : St) : Prop where
  mem : ∃ wb rb kb hb Bw Br ck ch Dk Dh, Tm w base b wb rb kb hb Bw Br ck ch Dk Dh C S.old (S.LW.map tx) (S.LR.map tx) S.now S.now S.lw S.lr ∧ Mt Dk Dh (KPs S.LW) (HPs (S.LW ++ S.LR)) ∧ ck ≤ S.lw.toNat ∧ ch ≤ S.lw.toNat
  hw : ∀ x ∈ S.LW, Hd w base x.2.2.1 x.2.2.2 x.1 false
  hr : ∀ x ∈ S.LR, Hd w base x.2.2.1 x.2.2.2 x.1 true
  iv : Iv C S
theorem Tb.below {w x : World} {base b : Nat} {C : Cf} {S : St} (h : Tb w base b C S) (k : Below w.heap.size w x) : Tb x base b C S := by
  obtain ⟨wb, rb, kb, hb, Bw, Br, ck, ch, Dk, Dh, h1, h2, h3⟩ := h.mem
  exact ⟨⟨wb, rb, kb, hb, Bw, Br, ck, ch, Dk, Dh, h1.below k, h2, h3⟩, fun y hy => (h.hw y hy).keep (Kx.of k), fun y hy => (h.hr y hy).keep (Kx.of k), h.iv⟩
def S0 : St := ⟨[], [], 0, 0, 0, 0⟩
theorem iv0 {C : Cf} (h : Co C) : Iv C S0 := ⟨Th.Ok.new (by decide) (by decide), Th.Ok.new (by decide) (by decide), fun x hx => (by cases hx), List.Pairwise.nil, List.Pairwise.nil, by have := h.m0; show (0 : Int) ≤ _; omega, by have := h.m0; show (0 : Int) ≤ _; omega, Int.le_refl _, fun x hx => (by cases hx), Int.le_refl _⟩
theorem new256 (w : World) : Calls Try.prog 34 #[.int .i64 256] w fun e w' => ∃ b, e = .returned (.tuple #[.pointer (some ⟨b, 0, none⟩), .int .i64 0]) ∧ ∃ B, Wl w' b B 256 [] 0 0 ∧ Below w.heap.size w w' ∧ ∀ g, B g → w.heap.size ≤ g := Fh.new_yes 256 w (by decide) (by decide)
def PostN (w : World) (timeout late : Int) (e : Ending) (w' : World) : Prop := ∃ wb rb, e = .returned (.agg #[.pointer (some ⟨wb, 0, none⟩), .pointer (some ⟨rb, 0, none⟩), .int .i64 timeout, .int .i64 late, .int .i64 0]) ∧ ∃ Bw Br, Wl w' wb Bw 256 [] 0 0 ∧ Wl w' rb Br 256 [] 0 0 ∧ (∀ g, Bw g → ¬ Br g) ∧ (∀ g, Bw g → w.heap.size ≤ g) ∧ (∀ g, Br g → w.heap.size ≤ g) ∧ Below w.heap.size w w'
theorem newTimers_any (timeout late : Int) (w : World) : Calls Try.prog 21 #[.int .i64 timeout, .int .i64 late] w (PostN w timeout late) := by
  obtain ⟨y, hy⟩ : ∃ y, w.alloc (.cells #[.pointer none, .pointer none, .int .i64 0, .int .i64 0, .int .i64 0] 63) = y := ⟨_, rfl⟩
  have HY : Hid (Below w.heap.size w y) := hy ▸ below_one _ _
  have HX : Hid (y.heap[w.heap.size]? = some (.cells #[.pointer none, .pointer none, .int .i64 0, .int .i64 0, .int .i64 0] 63)) := hy ▸ h1_0 _ _
  go_enter Try.func21, Try.ntmps21
  go_wp2_with fail
  try rw [hy]
  clear hy
  refine (new256 y).mono ?_
  rintro e y2 ⟨wb, rfl, Bw, hw, hb, hl⟩
  have HW : Hid (Wl y2 wb Bw 256 [] 0 0 ∧ Below y.heap.size y y2 ∧ ∀ g, Bw g → y.heap.size ≤ g) := ⟨hw, hb, hl⟩
  clear hw hb hl
  go_wp2_with fail
  refine (new256 y2).mono ?_
  rintro e y3 ⟨rb, rfl, Br, hw, hb, hl⟩
  have HR : Hid (Wl y3 rb Br 256 [] 0 0 ∧ Below y2.heap.size y2 y3 ∧ ∀ g, Br g → y2.heap.size ≤ g) := ⟨hw, hb, hl⟩
  clear hw hb hl
  have HX3 : Hid (y3.heap[w.heap.size]? = some (.cells #[.pointer none, .pointer none, .int .i64 0, .int .i64 0, .int .i64 0] 63)) := kept HR.out.2.1 (kept HW.out.2.1 HX.out)
  go_wp2_with (first | (refine wpList_store_row rfl 63 _ _ rfl w.heap.size _ rfl rfl _ _ HX3.out (by kernel_rfl) rfl (by simp [Value.oneCell']) ?_) | fail)
  have s1 := HY.out.size
  have s2 := HW.out.2.1.size
  have s3 := HR.out.2.1.size
  have l1 : w.heap.size < y.heap.size := (Array.getElem?_eq_some_iff.1 HX.out).1
  have HK : Hid (∀ g, y.heap.size ≤ g → (y3.setRow w.heap.size #[.pointer (some ⟨wb, 0, none⟩), .pointer (some ⟨rb, 0, none⟩), .int .i64 timeout, .int .i64 late, .int .i64 0]).heap[g]? = y3.heap[g]?) := fun g hg => setRow_ne (by omega) _
  refine bodyPost_ret (v := .agg #[.pointer (some ⟨wb, 0, none⟩), .pointer (some ⟨rb, 0, none⟩), .int .i64 timeout, .int .i64 late, .int .i64 0]) (results_cell_row (fn := Try.f21) rfl _ _ w.heap.size 63 _ _ _ rfl (setRow_at HX3.out _) Try.underlying63 rfl (by kernel_rfl)) rfl ⟨wb, rb, rfl, Bw, Br, ?_, ?_, ?_, ?_, ?_, ?_⟩
  · exact (HW.out.1.below HR.out.2.1).keep fun g hg => HK.out g (HW.out.2.2 g hg)
  · exact HR.out.1.keep fun g hg => HK.out g (by have := HR.out.2.2 g hg; omega)
  · intro g h1 h2
    have := HW.out.1.lt g h1
    have := HR.out.2.2 g h2
    omega
  · intro g hg; have := HW.out.2.2 g hg; omega
  · intro g hg; have := HR.out.2.2 g hg; omega
  · exact below_setRow (keepB (keepB HY.out HW.out.2.1) HR.out.2.1) (Nat.le_refl _) _
end Go.Proofs.Ytgchdjjafgkcbaa.Pf
