/- Lent nodes whose owner changes one of them; what hangs on the tree alone. -/
import Derived.Test.YtgidjfhlooggkaaKe
import Derived.Test.YtgidjfhlooggkaaSb
import Derived.Test.YtgidjfhlooggkaaBt
namespace Go.Proofs.Ytgidjfhlooggkaa.Lc
set_option linter.unusedVariables false
set_option linter.unusedSimpArgs false
open Go.RowKit Kb Gd Nt Li Bo Bp Bq Bs Le Lw Ke Sb Wk
def setV (a : AT) (c : ByteArray) : AT := .mk a.tag c a.kv a.kids
def setT (a : AT) (t : Int) : AT := .mk t a.val a.kv a.kids
theorem cs_setV : ∀ (ts : List AT) (i : Nat) (h : i < ts.length) (c : ByteArray), cs (ts.set i (setV ts[i] c)) = (cs ts).set (i * 3 + 1) (.string c)
  | [], i, h, c => by simp at h
  | .mk t v kv ks :: ts, 0, h, c => by simp [cs, setV, AT.tag, AT.kv, AT.kids]
  | .mk t v kv ks :: ts, i + 1, h, c => by
    have := cs_setV ts i (by simpa using h) c
    simp only [List.set_cons_succ, List.getElem_cons_succ, cs, this]
    rw [show (i + 1) * 3 = i * 3 + 1 + 1 + 1 by omega]
    simp
theorem cs_setT : ∀ (ts : List AT) (i : Nat) (h : i < ts.length) (t' : Int), cs (ts.set i (setT ts[i] t')) = (cs ts).set (i * 3) (.int .i64 t')
  | [], i, h, c => by simp at h
  | .mk t v kv ks :: ts, 0, h, c => by simp [cs, setT, AT.val, AT.kv, AT.kids]
  | .mk t v kv ks :: ts, i + 1, h, c => by
    have := cs_setT ts i (by simpa using h) c
    simp only [List.set_cons_succ, List.getElem_cons_succ, cs, this]
    rw [show (i + 1) * 3 = i * 3 + 1 + 1 + 1 by omega]
    simp
theorem fp_set : ∀ (ts : List AT) (i : Nat) (h : i < ts.length) (t : Int) (c : ByteArray), fp (ts.set i (.mk t c ts[i].kv ts[i].kids)) = fp ts
  | [], i, h, t, c => by simp at h
  | .mk t v kv ks :: ts, 0, h, _, c => by simp [fp, AT.kv, AT.kids]
  | .mk t v kv ks :: ts, i + 1, h, _, c => by simp only [List.set_cons_succ, List.getElem_cons_succ, fp, fp_set ts i (by simpa using h)]
theorem lnt_set {w : World} {base : Nat} : ∀ (ts : List AT) (i : Nat) (h : i < ts.length) (t : Int) (c : ByteArray), c.size ≤ 1048576 → tagB t → lnt w base ts → lnt w base (ts.set i (.mk t c ts[i].kv ts[i].kids))
  | [], i, h, t, c, _, _, _ => by simp at h
  | .mk t v kv ks :: ts, 0, h, t', c, hc, ht, hl => by
    unfold lnt at hl
    simp only [List.set_cons_zero, List.getElem_cons_zero, AT.kv, AT.kids]
    unfold lnt
    exact ⟨⟨hl.1.1, hl.1.2.1, hc, ht⟩, hl.2⟩
  | .mk t v kv ks :: ts, i + 1, h, t', c, hc, ht, hl => by
    unfold lnt at hl
    simp only [List.set_cons_succ, List.getElem_cons_succ]
    unfold lnt
    exact ⟨hl.1, lnt_set ts i (by simpa using h) t' c hc ht hl.2⟩
theorem take_set3 {α : Type} : ∀ (l : List α) (n i : Nat) (x : α), (l.set i x).take n = (l.take n).set i x
  | [], n, i, x => by simp
  | a :: l, 0, i, x => by simp
  | a :: l, n + 1, 0, x => by simp
  | a :: l, n + 1, i + 1, x => by simp only [List.set_cons_succ, List.take_succ_cons, take_set3 l n i x]
theorem own_cell {w : World} {base g n cap o : Nat} {xs : List Value} (h : w.ownsRow base 40 3 (.slice (some ⟨g, 0, none⟩) n cap) n xs) (u : Value) : (w.setCell ⟨g, o, none⟩ u).ownsRow base 40 3 (.slice (some ⟨g, 0, none⟩) n cap) n (xs.set o u) := by
  refine ⟨by rw [List.length_set]; exact h.1, ?_⟩
  rcases h.2 with ⟨e, _⟩ | ⟨g', cap', cur, e, hb, hg, hn, hm, hs, ht⟩
  · cases e
  · injection e with e1 e2 e3
    injection e1 with e1
    injection e1 with e1
    subst e1; subst e3
    refine .inr ⟨g, cap, cur.setIfInBounds o u, rfl, hb, sc_heap hg o u, hn, hm, by simpa using hs, ?_⟩
    rw [Array.toList_setIfInBounds, take_set3, ht]
theorem frz {w : World} {base g n cap o : Nat} {xs : List Value} (h : w.ownsRow base 40 3 (.slice (some ⟨g, 0, none⟩) n cap) n xs) : w.frozen? ⟨g, o, none⟩ = false := by
  rcases h.2 with ⟨e, _⟩ | ⟨g', cap', cur, e, hb, hg, hn, hm, hs, ht⟩
  · cases e
  · injection e with e1 e2 e3
    injection e1 with e1
    injection e1 with e1
    subst e1
    simp [World.frozen?, hg]
/-- a cell of the list itself is changed -/
theorem Lnt.cell {w : World} {base o g cap N : Nat} {ats : List AT} (hN : ats.length = N) (h : Lnt w base (.slice (some ⟨g, 0, none⟩) N cap) ats) {u : Value} {i : Nat} {t : Int} {c : ByteArray} (hi : i < ats.length) (hc : c.size ≤ 1048576) (ht : tagB t) (e : cs (ats.set i (.mk t c ats[i].kv ats[i].kids)) = (cs ats).set o u) (ho : o < N * 3) :
    Lnt (w.setCell ⟨g, o, none⟩ u) base (.slice (some ⟨g, 0, none⟩) N cap) (ats.set i (.mk t c ats[i].kv ats[i].kids)) := by
  subst hN
  obtain ⟨g', cap', e', hr, hf⟩ := h.row
  injection e' with e1 e2 e3
  injection e1 with e1
  injection e1 with e1
  subst e1; subst e3
  have nd := List.nodup_append.1 h.apart
  refine ⟨⟨g, cap, by rw [List.length_set], ?_, by rw [List.length_set]; exact hf⟩, ?_, by rw [fp_set]; exact h.apart⟩
  · have := own_cell (o := o) hr u
    rw [List.length_set, e]
    rw [List.set_append_left _ _ (by rw [cs_len]; exact ho)] at this
    exact this
  · exact lnt_set ats i hi t c hc ht (lnt_keep ats (fun b hb => sc_ne (fun e2 => nd.2.2 g (by simp [Value.ownBlock]) b hb e2) _ _) h.kids)
theorem Lnt.setv {w : World} {base g cap N : Nat} {ats : List AT} (hN : ats.length = N) (h : Lnt w base (.slice (some ⟨g, 0, none⟩) N cap) ats) {i : Nat} (hi : i < ats.length) (c : ByteArray) (hc : c.size ≤ 1048576) :
    Lnt (w.setCell ⟨g, i * 3 + 1, none⟩ (.string c)) base (.slice (some ⟨g, 0, none⟩) N cap) (ats.set i (setV ats[i] c)) :=
  Lnt.cell hN h hi hc (rdL_at ats i hi h.reads.kids).2.2 (cs_setV ats i hi c) (by omega)
theorem Lnt.sett {w : World} {base g cap N : Nat} {ats : List AT} (hN : ats.length = N) (h : Lnt w base (.slice (some ⟨g, 0, none⟩) N cap) ats) {i : Nat} (hi : i < ats.length) (t : Int) (ht : tagB t) :
    Lnt (w.setCell ⟨g, i * 3, none⟩ (.int .i64 t)) base (.slice (some ⟨g, 0, none⟩) N cap) (ats.set i (setT ats[i] t)) :=
  Lnt.cell hN h hi (rdL_at ats i hi h.reads.kids).2.1 ht (cs_setT ats i hi t) (by omega)
theorem Lnt.cells {w : World} {base g cap N : Nat} {ats : List AT} (hN : ats.length = N) (h : Lnt w base (.slice (some ⟨g, 0, none⟩) N cap) ats) {i : Nat} (hi : i < N) :
    ∃ (t : Int) (v : ByteArray) (kv : Value), w.cell? ⟨g, i * 3, none⟩ = some (.int .i64 t) ∧ w.cell? ⟨g, i * 3 + 1, none⟩ = some (.string v) ∧ w.cell? ⟨g, i * 3 + 2, none⟩ = some kv ∧ (∀ o, w.frozen? ⟨g, o, none⟩ = false) ∧ base ≤ g ∧ g < w.heap.size := by
  subst hN
  obtain ⟨o', cap', e', _, hc⟩ := h.reads.row
  obtain ⟨a, ea, q0, q1, q2⟩ := hc i hi
  injection e' with e1 e2 e3
  rw [ea] at e1
  injection e1 with e1
  rw [← e1, add0] at q0 q1 q2
  obtain ⟨g', cap'', e'', hr, hf⟩ := h.row
  injection e'' with e4 e5 e6
  injection e4 with e4
  injection e4 with e4
  subst e4
  have hl := hr.lt g rfl
  exact ⟨_, _, _, q0, q1, q2, fun o => frz hr, hl.1, hl.2⟩
/-- what hangs on the tree alone -/
theorem ws_er : ∀ (xs ys : List AT) (i : Nat), er xs = er ys → wsR i xs = wsR i ys
  | [], [], i, _ => rfl
  | .mk t v kv ks :: ts, .mk t' v' kv' ks' :: ts', i, e => by
    simp only [er, List.cons.injEq, Tr.mk.injEq] at e
    obtain ⟨⟨rfl, rfl, e3⟩, e4⟩ := e
    have hl : ks.length = ks'.length := by rw [← er_len, ← er_len, e3]
    have h1 : ws1 i (.mk t v kv ks) = ws1 i (.mk t v kv' ks') := by
      unfold ws1
      show (if 500 ≤ i then (93 : Int) else if t < 0 ∨ 99 < t ∨ 0 < ks.length then 90 else _) = _
      rw [hl]
      rfl
    simp only [wsR, h1, ws_er ts ts' (i + 1) e4]
  | [], .mk t v kv ks :: ts, i, e => by simp [er] at e
  | .mk t v kv ks :: ts, [], i, e => by simp [er] at e
theorem es_er : ∀ (xs ys : List AT), er xs = er ys → esS xs = esS ys
  | [], [], _ => rfl
  | .mk t v kv ks :: ts, .mk t' v' kv' ks' :: ts', e => by
    simp only [er, List.cons.injEq, Tr.mk.injEq] at e
    obtain ⟨⟨rfl, rfl, e3⟩, e4⟩ := e
    have := es_er ts ts' e4
    unfold esS at this ⊢
    simp only [List.flatMap_cons, this, es1, AT.tag, AT.val]
  | [], .mk t v kv ks :: ts, e => by simp [er] at e
  | .mk t v kv ks :: ts, [], e => by simp [er] at e
theorem bs_er {xs ys : List AT} (e : er xs = er ys) : bsE xs = bsE ys ∧ bsS xs = bsS ys := by
  have h1 := ws_er xs ys 0 e
  have h2 := es_er xs ys e
  have h3 : bsE xs = bsE ys := by unfold bsE; rw [h1, h2]
  exact ⟨h3, by unfold bsS; rw [h3, h2]⟩
theorem cnt_subs (s : ByteArray) : Ag.cnt (Bt.trs (Go_.parseS s)) ≤ 500 := by
  have hflat : ∀ ts : List Tr, Ag.fineL ts → Ag.cnt ts = ts.length := by
    intro ts
    induction ts with
    | nil => intro _; simp [Ag.cnt]
    | cons a ts ih =>
      intro h
      obtain ⟨t, v, ks⟩ := a
      simp only [Ag.fineL] at h
      rw [h.1.2]
      simp only [Ag.cnt, List.length_cons, ih h.2]
      omega
  cases h : Go_.parseS s with
  | bad y a => simp [Bt.trs, Ag.cnt]
  | ok ts k b =>
    unfold Go_.parseS at h
    split at h
    · obtain ⟨h1, h2, h3⟩ := Ag.subs_en _ _ _ _ _ _ _ (by omega) (Nat.le_refl _) (by omega) (by omega) h
      simp only [Bt.trs]
      rw [hflat ts h1]
      omega
    · cases h
end Go.Proofs.Ytgidjfhlooggkaa.Lc
