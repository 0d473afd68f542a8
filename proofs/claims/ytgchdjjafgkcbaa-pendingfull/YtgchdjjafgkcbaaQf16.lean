import Derived.Test.YtgchdjjafgkcbaaQf15
/- A table's state, plain; New. -/
namespace Go.Proofs.Ytgchdjjafgkcbaa.Pf
set_option linter.unusedVariables false
set_option linter.unusedSimpArgs false
open Go.RowKit Go.Maps Lib0 Kb Xp Za Ze Ih Fh Hh Pa Pb Pc Pe
attribute [local go_sem] Oper.semAt_some
structure Mt (Dk Dh : DataW Value) (KP : Rq → Prop) (HP : Nat → Rq → Prop) : Prop where
  tk : Maps.Tidy Dk
  th : Maps.Tidy Dh
  key : ∀ l, Maps.has Dk l = true ↔ ∃ r, KP r ∧ kl r = l
  hel : ∀ l, Maps.has Dh l = true ↔ ∃ g r, HP g r ∧ nl r = l
  at_ : ∀ g r, HP g r → ∀ z, Dh.atKey (nl r) z = .held (.pointer (some ⟨g, 0, none⟩))
theorem Mt.congr {Dk Dh : DataW Value} {KP KP' : Rq → Prop} {HP HP' : Nat → Rq → Prop} (h : Mt Dk Dh KP HP) (hk : ∀ r, KP r ↔ KP' r) (hh : ∀ g r, HP g r ↔ HP' g r) : Mt Dk Dh KP' HP' := by
  have e1 : KP = KP' := funext fun r => propext (hk r)
  have e2 : HP = HP' := funext fun g => funext fun r => propext (hh g r)
  rw [← e1, ← e2]; exact h
theorem mt_nil : Mt (.map []) (.map []) (fun _ => False) (fun _ _ => False) := ⟨Maps.tidy_empty, Maps.tidy_empty, fun l => ⟨fun h => (by cases h), fun ⟨r, h, _⟩ => h.elim⟩, fun l => ⟨fun h => (by cases h), fun ⟨g, r, h, _⟩ => h.elim⟩, fun g r h => h.elim⟩
theorem kl_key (r : Rq) : WideAt.IsKeyLit (kl r) := trivial
theorem nl_key (r : Rq) : WideAt.IsKeyLit (nl r) := trivial
theorem Mt.putK {Dk Dh : DataW Value} {KP : Rq → Prop} {HP : Nat → Rq → Prop} (h : Mt Dk Dh KP HP) (r : Rq) : Mt (Dk.put (kl r) (.agg [])) Dh (fun q => KP q ∨ q = r) HP := by
  refine ⟨h.tk.put (kl_key r) _, h.th, fun l => ?_, h.hel, h.at_⟩
  by_cases e : l = kl r
  · subst e
    rw [Maps.has_put_same h.tk.isMap (kl_key r)]
    exact ⟨fun _ => ⟨r, .inr rfl, rfl⟩, fun _ => rfl⟩
  · rw [Maps.has_put_other e, h.key]
    constructor
    · rintro ⟨q, h1, h2⟩; exact ⟨q, .inl h1, h2⟩
    · rintro ⟨q, h1 | h1, h2⟩
      · exact ⟨q, h1, h2⟩
      · rw [h1] at h2; exact absurd h2.symm e
theorem Mt.delK {Dk Dh : DataW Value} {KP : Rq → Prop} {HP : Nat → Rq → Prop} (h : Mt Dk Dh KP HP) (r : Rq) : Mt (Dk.del (kl r)) Dh (fun q => KP q ∧ kl q ≠ kl r) HP := by
  refine ⟨h.tk.del _, h.th, fun l => ?_, h.hel, h.at_⟩
  by_cases e : l = kl r
  · subst e
    rw [Maps.has_del_same]
    exact ⟨fun h => (by cases h), fun ⟨q, h1, h2⟩ => absurd h2 h1.2⟩
  · rw [Maps.has_del_other e, h.key]
    constructor
    · rintro ⟨q, h1, h2⟩; exact ⟨q, ⟨h1, by rw [h2]; exact e⟩, h2⟩
    · rintro ⟨q, h1, h2⟩; exact ⟨q, h1.1, h2⟩
theorem Mt.putH {Dk Dh : DataW Value} {KP : Rq → Prop} {HP : Nat → Rq → Prop} (h : Mt Dk Dh KP HP) (g : Nat) (r : Rq) (hn : ∀ k q, HP k q → nl q ≠ nl r) : Mt Dk (Dh.put (nl r) (.held (.pointer (some ⟨g, 0, none⟩)))) KP (fun k q => HP k q ∨ (k = g ∧ q = r)) := by
  refine ⟨h.tk, h.th.put (nl_key r) _, h.key, fun l => ?_, fun k q hq z => ?_⟩
  · by_cases e : l = nl r
    · subst e
      rw [Maps.has_put_same h.th.isMap (nl_key r)]
      exact ⟨fun _ => ⟨g, r, .inr ⟨rfl, rfl⟩, rfl⟩, fun _ => rfl⟩
    · rw [Maps.has_put_other e, h.hel]
      constructor
      · rintro ⟨k, q, h1, h2⟩; exact ⟨k, q, .inl h1, h2⟩
      · rintro ⟨k, q, h1 | h1, h2⟩
        · exact ⟨k, q, h1, h2⟩
        · rw [h1.2] at h2; exact absurd h2.symm e
  · rcases hq with hq | ⟨rfl, rfl⟩
    · rw [Maps.atKey_put_other (hn k q hq)]; exact h.at_ k q hq z
    · exact Maps.atKey_put_same h.th.isMap (nl_key q) _ _
theorem Mt.delH {Dk Dh : DataW Value} {KP : Rq → Prop} {HP : Nat → Rq → Prop} (h : Mt Dk Dh KP HP) (r : Rq) : Mt Dk (Dh.del (nl r)) KP (fun k q => HP k q ∧ nl q ≠ nl r) := by
  refine ⟨h.tk, h.th.del _, h.key, fun l => ?_, fun k q hq z => ?_⟩
  · by_cases e : l = nl r
    · subst e
      rw [Maps.has_del_same]
      exact ⟨fun h => (by cases h), fun ⟨k, q, h1, h2⟩ => absurd h2 h1.2⟩
    · rw [Maps.has_del_other e, h.hel]
      constructor
      · rintro ⟨k, q, h1, h2⟩; exact ⟨k, q, ⟨h1, by rw [h2]; exact e⟩, h2⟩
      · rintro ⟨k, q, h1, h2⟩; exact ⟨k, q, h1.1, h2⟩
  · rw [Maps.atKey_del_other hq.2]; exact h.at_ k q hq.1 z
structure St where
  LW : List XQ
  LR : List XQ
  now : Int
  lw : Int
  lr : Int
  old : Int
def KPs (L : List XQ) (r : Rq) : Prop := ∃ x ∈ L, x.2.2.2 = r
def HPs (L : List XQ) (g : Nat) (r : Rq) : Prop := ∃ x ∈ L, x.2.2.1 = g ∧ x.2.2.2 = r
structure Iv (C : Cf) (S : St) : Prop where
  okw : Ok 256 (S.LW.map tx) S.now S.lw
  okr : Ok 256 (S.LR.map tx) S.now S.lr
  ro : ∀ x ∈ S.LW ++ S.LR, Ro x.2.2.2
  nd : (S.LW ++ S.LR).Pairwise fun x y => nl x.2.2.2 ≠ nl y.2.2.2
  kd : S.LW.Pairwise fun x y => kl x.2.2.2 ≠ kl y.2.2.2
  lenw : (S.LW.length : Int) ≤ C.most
  lenr : (S.LR.length : Int) ≤ C.most
  old0 : 0 ≤ S.old
  old1 : ∀ x ∈ S.LR, S.old < x.1
  old2 : S.old ≤ S.lr
structure Tb (w : World) (base b : Nat) (C : Cf) (S : St) : Prop where
  mem : ∃ wb rb kb hb Bw Br ck ch Dk Dh, Tm w base b wb rb kb hb Bw Br ck ch Dk Dh C S.old (S.LW.map tx) (S.LR.map tx) S.now S.now S.lw S.lr ∧ Mt Dk Dh (KPs S.LW) (HPs (S.LW ++ S.LR)) ∧ ck ≤ S.lw.toNat ∧ ch ≤ S.lw.toNat
  hw : ∀ x ∈ S.LW, Hd w base x.2.2.1 x.2.2.2 x.1 false
  hr : ∀ x ∈ S.LR, Hd w base x.2.2.1 x.2.2.2 x.1 true
  iv : Iv C S
theorem Tb.below {w x : World} {base b : Nat} {C : Cf} {S : St} (h : Tb w base b C S) (k : Below w.heap.size w x) : Tb x base b C S := by
  obtain ⟨wb, rb, kb, hb, Bw, Br, ck, ch, Dk, Dh, h1, h2, h3⟩ := h.mem
  exact ⟨⟨wb, rb, kb, hb, Bw, Br, ck, ch, Dk, Dh, h1.below k, h2, h3⟩, fun y hy => (h.hw y hy).keep (Kx.of k), fun y hy => (h.hr y hy).keep (Kx.of k), h.iv⟩
def S0 : St := ⟨[], [], 0, 0, 0, 0⟩
theorem iv0 {C : Cf} (h : Co C) : Iv C S0 := ⟨Th.Ok.new (by decide) (by decide), Th.Ok.new (by decide) (by decide), fun x hx => (by cases hx), List.Pairwise.nil, List.Pairwise.nil, by have := h.m0; show (0 : Int) ≤ _; omega, by have := h.m0; show (0 : Int) ≤ _; omega, Int.le_refl _, fun x hx => (by cases hx), Int.le_refl _⟩
theorem new256 (w : World) : Calls Try.prog 34 #[.int .i64 256] w fun e w' => ∃ b, e = .returned (.tuple #[.pointer (some ⟨b, 0, none⟩), .int .i64 0]) ∧ ∃ B, Wl w' b B 256 [] 0 0 ∧ Below w.heap.size w w' ∧ ∀ g, B g → w.heap.size ≤ g := Fh.new_yes 256 w (by decide) (by decide)
def PostN (w : World) (timeout late : Int) (e : Ending) (w' : World) : Prop := ∃ wb rb, e = .returned (.agg #[.pointer (some ⟨wb, 0, none⟩), .pointer (some ⟨rb, 0, none⟩), .int .i64 timeout, .int .i64 late, .int .i64 0]) ∧ ∃ Bw Br, Wl w' wb Bw 256 [] 0 0 ∧ Wl w' rb Br 256 [] 0 0 ∧ (∀ g, Bw g → ¬ Br g) ∧ (∀ g, Bw g → w.heap.size ≤ g) ∧ (∀ g, Br g → w.heap.size ≤ g) ∧ Below w.heap.size w w'
theorem newTimers_any (timeout late : Int) (w : World) : Calls Try.prog 21 #[.int .i64 timeout, .int .i64 late] w (PostN w timeout late) := by
  obtain ⟨y, hy⟩ : ∃ y, w.alloc (.cells #[.pointer none, .pointer none, .int .i64 0, .int .i64 0, .int .i64 0] 63) = y := ⟨_, rfl⟩
  have HY : Hid (Below w.heap.size w y) := hy ▸ below_one _ _
  have HX : Hid (y.heap[w.heap.size]? = some (.cells #[.pointer none, .pointer none, .int .i64 0, .int .i64 0, .int .i64 0] 63)) := hy ▸ h1_0 _ _
  go_enter Try.func21, Try.ntmps21
  go_wp2_with fail
  try rw [hy]
  clear hy
  refine (new256 y).mono ?_
  rintro e y2 ⟨wb, rfl, Bw, hw, hb, hl⟩
  have HW : Hid (Wl y2 wb Bw 256 [] 0 0 ∧ Below y.heap.size y y2 ∧ ∀ g, Bw g → y.heap.size ≤ g) := ⟨hw, hb, hl⟩
  clear hw hb hl
  go_wp2_with fail
  refine (new256 y2).mono ?_
  rintro e y3 ⟨rb, rfl, Br, hw, hb, hl⟩
  have HR : Hid (Wl y3 rb Br 256 [] 0 0 ∧ Below y2.heap.size y2 y3 ∧ ∀ g, Br g → y2.heap.size ≤ g) := ⟨hw, hb, hl⟩
  clear hw hb hl
  have HX3 : Hid (y3.heap[w.heap.size]? = some (.cells #[.pointer none, .pointer none, .int .i64 0, .int .i64 0, .int .i64 0] 63)) := kept HR.out.2.1 (kept HW.out.2.1 HX.out)
  go_wp2_with (first | (refine wpList_store_row rfl 63 _ _ rfl w.heap.size _ rfl rfl _ _ HX3.out (by kernel_rfl) rfl (by simp [Value.oneCell']) ?_) | fail)
  have s1 := HY.out.size
  have s2 := HW.out.2.1.size
  have s3 := HR.out.2.1.size
  have l1 : w.heap.size < y.heap.size := (Array.getElem?_eq_some_iff.1 HX.out).1
  have HK : Hid (∀ g, y.heap.size ≤ g → (y3.setRow w.heap.size #[.pointer (some ⟨wb, 0, none⟩), .pointer (some ⟨rb, 0, none⟩), .int .i64 timeout, .int .i64 late, .int .i64 0]).heap[g]? = y3.heap[g]?) := fun g hg => setRow_ne (by omega) _
  refine bodyPost_ret (v := .agg #[.pointer (some ⟨wb, 0, none⟩), .pointer (some ⟨rb, 0, none⟩), .int .i64 timeout, .int .i64 late, .int .i64 0]) (results_cell_row (fn := Try.f21) rfl _ _ w.heap.size 63 _ _ _ rfl (setRow_at HX3.out _) Try.underlying63 rfl (by kernel_rfl)) rfl ⟨wb, rb, rfl, Bw, Br, ?_, ?_, ?_, ?_, ?_, ?_⟩
  · exact (HW.out.1.below HR.out.2.1).keep fun g hg => HK.out g (HW.out.2.2 g hg)
  · exact HR.out.1.keep fun g hg => HK.out g (by have := HR.out.2.2 g hg; omega)
  · intro g h1 h2
    have := HW.out.1.lt g h1
    have := HR.out.2.2 g h2
    omega
  · intro g hg; have := HW.out.2.2 g hg; omega
  · intro g hg; have := HR.out.2.2 g hg; omega
  · exact below_setRow (keepB (keepB HY.out HW.out.2.1) HR.out.2.1) (Nat.le_refl _) _
end Go.Proofs.Ytgchdjjafgkcbaa.Pf
/- New; Add. -/
namespace Go.Proofs.Ytgchdjjafgkcbaa.Pg
set_option linter.unusedVariables false
set_option linter.unusedSimpArgs false
open Go.RowKit Go.Maps Lib0 Kb Xp Za Ze Ih Fh Hh Pa Pb Pc Pe Pf
attribute [local go_sem] Oper.semAt_some
theorem new_yes (C : Cf) (h : Co C) (w : World) : Calls Try.prog 7 #[.int .i64 C.most, .int .i64 C.timeout, .int .i64 C.late] w fun e w' => ∃ b, e = .returned (.tuple #[.pointer (some ⟨b, 0, none⟩), .int .i64 0]) ∧ Tb w' w.heap.size b C S0 ∧ Below w.heap.size w w' := by
  have HI : Hid (∀ n m : Int, 1 ≤ n → n ≤ m → ∀ y, Calls Try.prog 20 #[.int .i64 n, .int .i64 m] y fun e w' => e = .returned (.bool true) ∧ w' = y) := fun n m h1 h2 y => by
    have := Pd.within_any n m y
    rwa [show (decide (1 ≤ n) && decide (n ≤ m)) = true by simp [h1, h2]] at this
  have HIV : Hid (Iv C S0) := iv0 h
  have H1 : Hid _ := HI.out C.most 10000 h.m0 h.m1
  have H2 : Hid _ := HI.out C.timeout 100000 h.t0 h.t1
  have H3 : Hid _ := HI.out C.late 100000 h.l0 h.l1
  obtain ⟨ms, tm, lt⟩ := C
  dsimp only at H1 H2 H3
  have hmm := @run_makeMap Try.prog
  clear h HI
  go_enter Try.func7, Try.ntmps7
  go_wp2_with fail
  refine (H1.out _).mono ?_
  rintro e y ⟨rfl, hy⟩
  rw [hy]
  clear hy y
  go_wp2_with fail
  refine (H2.out _).mono ?_
  rintro e y ⟨rfl, hy⟩
  rw [hy]
  clear hy y
  go_wp2_with fail
  refine (H3.out _).mono ?_
  rintro e y ⟨rfl, hy⟩
  rw [hy]
  clear hy y
  go_wp2_with fail
  refine (newTimers_any tm lt w).mono ?_
  rintro e y ⟨wb, rb, rfl, Bw, Br, h1, h2, h3, h4, h5, h6⟩
  have HN : Hid (Wl y wb Bw 256 [] 0 0 ∧ Wl y rb Br 256 [] 0 0 ∧ (∀ g, Bw g → ¬ Br g) ∧ (∀ g, Bw g → w.heap.size ≤ g) ∧ (∀ g, Br g → w.heap.size ≤ g) ∧ Below w.heap.size w y) := ⟨h1, h2, h3, h4, h5, h6⟩
  clear h1 h2 h3 h4 h5 h6
  go_wp2_with fail
  go_ret2
  obtain ⟨h1, h2, h3, h4, h5, h6⟩ := HN.out
  have h7 := h6.size
  have hB := below_three y (.map #[] 0) (.map #[] 0) (.cells #[.pointer (some ⟨wb, 0, none⟩), .pointer (some ⟨rb, 0, none⟩), .int .i64 tm, .int .i64 lt, .int .i64 0, .int .i64 ms, .map (some y.heap.size), .map (some (y.heap.size + 1))] tT)
  have k1 := World.ownsMap_made (H := Value) y Try.prog tK unitElem
  have k2 := World.ownsMap_made (H := Value) (y.alloc (.map #[] 0)) Try.prog tN Pc.heldE
  rw [World.size_alloc] at k2
  refine ⟨y.heap.size + 1 + 1, rfl, ⟨⟨wb, rb, y.heap.size, y.heap.size + 1, Bw, Br, 0, 0, .map [], .map [], ⟨h3_2 _ _ _ _, h1.below hB, h2.below hB, (k1.alloc _).alloc _, k2.alloc _, h3, ⟨fun e => ?_, fun e => ?_⟩, ⟨fun e => ?_, fun e => ?_⟩, by omega, ⟨by omega, by omega, by omega⟩, h4, h5, ?_⟩, ?_, Nat.le_refl _, Nat.le_refl _⟩, fun x hx => (by cases hx), fun x hx => (by cases hx), HIV.out⟩, keepB h6 hB⟩
  · have := h1.lt _ e; omega
  · have := h2.lt _ e; omega
  · have := h1.lt _ e; omega
  · have := h2.lt _ e; omega
  · exact Nat.le_trans h7 hB.size
  · exact mt_nil.congr (fun r => ⟨fun h => h.elim, fun ⟨x, hx, _⟩ => by cases hx⟩) (fun g r => ⟨fun h => h.elim, fun ⟨x, hx, _⟩ => by cases hx⟩)
theorem pcells {x : World} {g : Nat} {r : Rq} {v1 v2 : Value} (h : x.heap[g]? = some (.cells (pcs r v1 v2) tP (0, 0))) : x.cell? ⟨g, 0, none⟩ = some (.int .i64 r.link) ∧ x.cell? ⟨g, 1, none⟩ = some (.int .i64 r.cls) ∧ x.cell? ⟨g, 2, none⟩ = some (.string r.num) ∧ x.cell? ⟨g, 3, none⟩ = some (.string r.stp) ∧ x.cell? ⟨g, 4, none⟩ = some (.string r.trm) ∧ x.cell? ⟨g, 5, none⟩ = some (.int .i64 r.frm) ∧ x.cell? ⟨g, 6, none⟩ = some (.int .i64 r.to_) ∧ x.cell? ⟨g, 7, none⟩ = some (.int .i64 r.no) ∧ x.cell? ⟨g, 8, none⟩ = some (.string r.m1) ∧ x.cell? ⟨g, 9, none⟩ = some v1 ∧ x.cell? ⟨g, 10, none⟩ = some (.string r.m2) ∧ x.cell? ⟨g, 11, none⟩ = some v2 := by
  unfold pcs at h
  refine ⟨?_, ?_, ?_, ?_, ?_, ?_, ?_, ?_, ?_, ?_, ?_, ?_⟩ <;> simp [World.cell?, h]
theorem bool_of {b : Bool} {p : Prop} (h : b = true ↔ p) (hp : p) : b = true := h.2 hp
theorem bool_no {b : Bool} {p : Prop} (h : b = true ↔ p) (hp : ¬ p) : b = false := by
  cases b with
  | false => rfl
  | true => exact absurd (h.1 rfl) hp
section
variable {w : World} {base b : Nat} {C : Cf} {S : St}
theorem has_tb (h : Tb w base b C S) {r : Rq} (ho : Ro r) (B : Bool) (hB : B = true ↔ ∃ x ∈ S.LW, kl x.2.2.2 = kl r) : Calls Try.prog 18 #[.pointer (some ⟨b, 0, none⟩), kv r] w fun e w' => e = .returned (.bool B) ∧ Below w.heap.size w w' := by
  obtain ⟨wb, rb, kb, hb, Bw, Br, ck, ch, Dk, Dh, h1, h2, h3⟩ := h.mem
  have := Pd.has_any h1 r.link r.cls r.num r.stp r.trm (kl_of ho)
  have e : Maps.has Dk (kl r) = B := by
    apply Bool.eq_iff_iff.2
    rw [h2.key, hB]
    constructor
    · rintro ⟨q, ⟨x, hx, rfl⟩, e⟩; exact ⟨x, hx, e⟩
    · rintro ⟨x, hx, e⟩; exact ⟨_, ⟨x, hx, rfl⟩, e⟩
  rw [show keyL r.link r.cls r.num r.stp r.trm = kl r from rfl, e] at this
  exact this
theorem holds_tb (h : Tb w base b C S) {r : Rq} (ho : Ro r) (B : Bool) (hB : B = true ↔ ∃ x ∈ S.LW ++ S.LR, nl x.2.2.2 = nl r) : Calls Try.prog 23 #[.pointer (some ⟨b, 0, none⟩), nv r] w fun e w' => e = .returned (.bool B) ∧ Below w.heap.size w w' := by
  obtain ⟨wb, rb, kb, hb, Bw, Br, ck, ch, Dk, Dh, h1, h2, h3⟩ := h.mem
  have := Pd.holds_any h1 r.to_ r.no (nl_of ho)
  have e : Maps.has Dh (nl r) = B := by
    apply Bool.eq_iff_iff.2
    rw [h2.hel, hB]
    constructor
    · rintro ⟨g, q, ⟨x, hx, e1, e2⟩, e⟩; exact ⟨x, hx, by rw [e2]; exact e⟩
    · rintro ⟨x, hx, e⟩; exact ⟨_, _, ⟨x, hx, rfl, rfl⟩, e⟩
  rw [show nameL r.to_ r.no = nl r from rfl, e] at this
  exact this
theorem len_tb (h : Tb w base b C S) : Calls Try.prog 11 #[.pointer (some ⟨b, 0, none⟩)] w fun e w' => e = .returned (.int .i64 (S.LW.length : Nat)) ∧ w' = w := by
  obtain ⟨wb, rb, kb, hb, Bw, Br, ck, ch, Dk, Dh, h1, -⟩ := h.mem
  have := Pd.len_any h1
  rwa [List.length_map] at this
theorem late_tb (h : Tb w base b C S) : Calls Try.prog 12 #[.pointer (some ⟨b, 0, none⟩)] w fun e w' => e = .returned (.int .i64 (S.LR.length : Nat)) ∧ w' = w := by
  obtain ⟨wb, rb, kb, hb, Bw, Br, ck, ch, Dk, Dh, h1, -⟩ := h.mem
  have := Pd.late_any h1
  rwa [List.length_map] at this
end
end Go.Proofs.Ytgchdjjafgkcbaa.Pg
