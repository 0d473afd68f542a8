/- Find and Set, of both sides; what the law wants besides. -/
import Derived.Test.YtgidjfhlooggkaaFw
import Derived.Test.YtgidjfhlooggkaaBt
import Derived.Test.YtgidjfhlooggkaaLc
import Derived.Test.YtgidjfhlooggkaaSl
namespace Go.Proofs.Ytgidjfhlooggkaa.Fx
set_option linter.unusedVariables false
set_option linter.unusedSimpArgs false
open Go.RowKit Kb Ga Gb Gc Gd Nt Se Fq Li Fs Fw
theorem old_row {w x : World} {v : Value} {ts : List AT} (k : ∀ b, b < w.heap.size → x.heap[b]? = w.heap[b]?) (h : rowR w v ts) : rowR x v ts := by
  obtain ⟨o, cap, e, hl, hc⟩ := h
  have c := fun {p : Addr} {v : Value} (hc : w.cell? p = some v) => show x.cell? p = some v from by
    have hb := World.block_lt_of_cell? w _ hc
    unfold World.cell? at hc ⊢
    rw [k _ hb]
    exact hc
  refine ⟨o, cap, e, hl, fun i hi => ?_⟩
  obtain ⟨a, ea, h0, h1, h2⟩ := hc i hi
  exact ⟨a, ea, c h0, c h1, c h2⟩
theorem old_rdL {w x : World} (k : ∀ b, b < w.heap.size → x.heap[b]? = w.heap[b]?) : ∀ ts : List AT, rdL w ts → rdL x ts
  | [], _ => by unfold rdL; trivial
  | .mk t v kv ks :: ts, h => by
    unfold rdL at h ⊢
    exact ⟨⟨old_row k h.1.1, old_rdL k ks h.1.2.1, h.1.2.2⟩, old_rdL k ts h.2⟩
theorem old_rd {w x : World} {v : Value} {ts : List AT} (h : Rdn w v ts) (k : ∀ b, b < w.heap.size → x.heap[b]? = w.heap[b]?) : Rdn x v ts := ⟨old_row k h.row, old_rdL k ts h.kids⟩
theorem old_pt {w x : World} {u : Value} {ps : List Int} (h : Pth w u ps) (k : ∀ b, b < w.heap.size → x.heap[b]? = w.heap[b]?) : Pth x u ps := by
  obtain ⟨o, cap, e, h0, hl, hc⟩ := h
  refine ⟨o, cap, e, h0, hl, fun i hi => ?_⟩
  obtain ⟨a, ea, hc⟩ := hc i hi
  refine ⟨a, ea, ?_⟩
  have hb := World.block_lt_of_cell? w _ hc
  unfold World.cell? at hc ⊢
  rw [k _ hb]
  exact hc
def g0 : Option Tr → Int
  | none => 0
  | some a => ttag a
def g1 : Option Tr → ByteArray
  | none => ⟨#[]⟩
  | some a => tval a
def gk : Option Tr → List Tr
  | none => []
  | some a => tkids a
theorem g_of (ts : List AT) (ps : List Int) : f0 (Fd.look ts ps none) = g0 (lkT (er ts) ps none) ∧ f1 (Fd.look ts ps none) = g1 (lkT (er ts) ps none) ∧ er (fk (Fd.look ts ps none)) = gk (lkT (er ts) ps none) ∧ (Fd.look ts ps none).isSome = (lkT (er ts) ps none).isSome := by
  have h := look_er ps ts none
  simp only [Option.map_none] at h
  rw [← h]
  cases e : Fd.look ts ps none with
  | none => exact ⟨rfl, rfl, by simp [fk, gk, er], rfl⟩
  | some a => cases a; exact ⟨rfl, rfl, rfl, rfl⟩
/-- what the program's Find tells -/
def PostFi (w : World) (L : Option Tr) (e : Ending) (w' : World) : Prop := ∃ kv aks, e = .returned (.tuple #[.agg #[.int .i64 (g0 L), .string (g1 L), kv], .bool L.isSome]) ∧ er aks = gk L ∧ Nt.Own w' w.heap.size kv aks ∧ Below w.heap.size w w'
theorem find_uni (ts : List AT) (ps : List Int) (v u : Value) (w : World) (hr : Rdn w v ts) (hp : Pth w u ps) : Calls Try.prog 28 #[v, u] w (PostFi w (lkT (er ts) ps none)) := by
  have h := look_er ps ts none
  simp only [Option.map_none] at h
  refine (Fd.find_any ts ps v u w hr hp.ints).mono fun e w' hq => ?_
  obtain ⟨hb, hq⟩ := hq
  rw [← h]
  cases e2 : Fd.look ts ps none with
  | none =>
    rw [e2] at hq
    exact ⟨_, [], hq, by simp [er, gk], own_nil _ _, hb⟩
  | some a =>
    rw [e2] at hq
    obtain ⟨kv', aks, rfl, h1, h2⟩ := hq
    cases a
    exact ⟨kv', aks, rfl, h1, h2, hb⟩
def sE (L : Option Tr) : Int := match L with
  | none => 94
  | some a => if mkd (ttag a) = true ∨ tkids a ≠ [] then 94 else 0
def sT (ts : List Tr) (ps : List Int) (val : ByteArray) : List Tr := if sE (lkT ts ps none) = 0 then ptT ts ps val else []
def PostSe (w : World) (E : Int) (T : List Tr) (e : Ending) (w' : World) : Prop := ∃ v ats, e = .returned (.tuple #[v, .int .i64 E]) ∧ er ats = T ∧ Nt.Own w' w.heap.size v ats ∧ Below w.heap.size w w'
def PostSr (w : World) (E : Int) (T : List Tr) (e : Ending) (w' : World) : Prop := ∃ v ats, e = .returned (.tuple #[v, .int .i64 E]) ∧ er ats = T ∧ Rdn w' v ats ∧ Below w.heap.size w w'
set_option maxRecDepth 100000 in
theorem set_nil (ts : List AT) (v u : Value) (val : ByteArray) (w : World) (hr : Rdn w v ts) (hp : Fd.ints w u []) :
    Calls Try.prog 30 #[v, .string val, u] w fun e w' => e = .returned (.tuple #[.slice none 0 0, .int .i64 94]) ∧ Below w.heap.size w w' := by
  have sk := seek_at ts [] v u w hr hp
  obtain ⟨o, cap, rfl, -⟩ := hp
  obtain ⟨lo, lc, e, hLN, -⟩ := hr.row
  obtain ⟨LN, HLN⟩ : ∃ LN : Nat, Hid (ts.length = LN) := ⟨_, rfl⟩
  rw [HLN.out] at e
  subst e
  clear hr hLN
  simp only [List.length_nil] at sk ⊢
  simp only [Fd.look] at sk
  go_enter Try.func30, Try.ntmps30
  go_wp2_with fail
  refine sk.mono ?_
  rintro _ y ⟨q, rfl, hq, -, hy⟩
  replace hq : q = .pointer none := hq
  subst hq
  go_wp2
  go_ret2
  exact ⟨rfl, hy⟩
theorem set_uni (ts : List AT) (ps : List Int) (v u : Value) (val : ByteArray) (w : World) (hr : Rdn w v ts) (hp : Pth w u ps) (hv : val.size ≤ 1048576) : Calls Try.prog 30 #[v, .string val, u] w (PostSe w (sE (lkT (er ts) ps none)) (sT (er ts) ps val)) := by
  cases ps with
  | nil => exact (set_nil ts v u val w hr hp.ints).mono fun e w' ⟨h1, h2⟩ => ⟨_, [], h1, by simp [er, sT, sE, lkT], own_nil _ _, h2⟩
  | cons p ps =>
    refine (St.set_any ts p ps v u val w hr hp.ints hv).mono fun e w' hq => ?_
    obtain ⟨hb, hq⟩ := hq
    cases h : lkT (er ts) (p :: ps) none with
    | none =>
      rw [h] at hq
      exact ⟨_, [], hq, by simp [er, sT, sE, h], own_nil _ _, hb⟩
    | some a =>
      rw [h] at hq
      by_cases hc : mkd (ttag a) = true ∨ tkids a ≠ []
      · have e1 : sE (some a) = 94 := by simp only [sE]; rw [if_pos hc]
        refine ⟨_, [], by rw [e1]; exact hq.1 hc, by unfold sT; rw [h, e1, if_neg (by omega)]; simp [er], own_nil _ _, hb⟩
      · have e1 : sE (some a) = 0 := by simp only [sE]; rw [if_neg hc]
        obtain ⟨v', ats, h1, h2, h3⟩ := hq.2 (by cases hm : mkd (ttag a); rfl; exact absurd (.inl hm) hc) (Decidable.byContradiction fun hn => hc (.inr hn))
        exact ⟨v', ats, by rw [e1]; exact h1, by unfold sT; rw [h, e1, if_pos rfl]; exact h2, h3, hb⟩
set_option maxRecDepth 100000 in
set_option maxHeartbeats 1600000 in
theorem set_doc (ts : List AT) (ps : List Int) (v u : Value) (val : ByteArray) (w : World) (hr : Rdn w v ts) (hp : Pth w u ps) (hv : val.size ≤ 1048576) :
    Calls Try.prog 31 #[v, .string val, u] w (PostSr w (sE (lkT (er ts) ps none)) (sT (er ts) ps val)) := by
  have fd := find_doc ps ts v u w hr hp
  have frd := f_rd (ps := ps) hr.kids
  obtain ⟨e0, e1, ek, es⟩ := g_of ts ps
  have HR : Hid (Rdn w v ts) := hr
  have HP : Hid (Pth w u ps) := hp
  obtain ⟨o, cap, eu, hcap, hpl, hc⟩ := hp
  obtain ⟨N, HNN⟩ : ∃ N : Nat, Hid (ps.length = N) := ⟨_, rfl⟩
  rw [HNN.out] at eu
  subst eu
  obtain ⟨lo, lc, e, hLN, -⟩ := hr.row
  obtain ⟨LN, HLN⟩ : ∃ LN : Nat, Hid (ts.length = LN) := ⟨_, rfl⟩
  rw [HLN.out] at e
  subst e
  obtain ⟨fo, fc, hf2, -⟩ := frd.1.row
  obtain ⟨fl, Hfl⟩ : ∃ L, Hid ((fk (Fd.look ts ps none)).length = L) := ⟨_, rfl⟩
  rw [Hfl.out] at hf2
  unfold fv at fd
  have HKL : Hid ((gk (lkT (er ts) ps none)).length = fl) := by show _ = _; rw [← ek, er_len]; exact Hfl.out
  have HPS : Hid ((lkT (er ts) ps none).isSome = true → ps ≠ []) := fun h e => by subst e; simp [lkT] at h
  have HSO : Hid ((Fd.look ts ps none).isSome = (lkT (er ts) ps none).isSome) := es
  rw [hf2, e0, e1, es] at fd
  have htb := frd.2.2
  rw [e0] at htb
  unfold tagB at htb
  have mk := fun y => Mr.marked_ref (g0 (lkT (er ts) ps none)) y htb.1 htb.2
  have HSE : Hid (∀ E, sE (lkT (er ts) ps none) = E → sT (er ts) ps val = if E = 0 then ptT (er ts) ps val else []) := fun E h => by unfold sT; rw [h]
  have HST : Hid (sE (lkT (er ts) ps none) = if (lkT (er ts) ps none).isSome = true ∧ mkd (g0 (lkT (er ts) ps none)) = false ∧ fl = 0 then 0 else 94) := by
    show _ = _
    have hk := HKL.out
    cases hL : lkT (er ts) ps none with
    | none => simp [sE]
    | some a =>
      rw [hL] at hk
      simp only [gk] at hk
      simp only [sE, g0, Option.isSome_some, true_and]
      by_cases h1 : mkd (ttag a) = true
      · rw [if_pos (.inl h1), if_neg (by rw [h1]; simp)]
      · have h1' : mkd (ttag a) = false := by simpa using h1
        by_cases h2 : tkids a = []
        · rw [if_neg (by rw [h1', h2]; simp), if_pos ⟨h1', by rw [← hk, h2]; rfl⟩]
        · rw [if_pos (.inr h2), if_neg (by rintro ⟨_, h3⟩; rw [h3] at hk; exact h2 (List.length_eq_zero_iff.1 hk))]
  obtain ⟨E, HE⟩ : ∃ E, Hid (sE (lkT (er ts) ps none) = E) := ⟨_, rfl⟩
  obtain ⟨T, HT⟩ : ∃ T, Hid (sT (er ts) ps val = T) := ⟨_, rfl⟩
  have HTE : Hid (T = if E = 0 then ptT (er ts) ps val else []) := by show _ = _; rw [← HT.out]; exact HSE.out E HE.out
  rw [HE.out, HT.out]
  rw [HE.out] at HST
  generalize g0 (lkT (er ts) ps none) = T0 at *
  generalize g1 (lkT (er ts) ps none) = T1 at *
  obtain ⟨BS, HBS⟩ : ∃ B, Hid ((lkT (er ts) ps none).isSome = B) := ⟨_, rfl⟩
  rw [HBS.out] at fd HST HPS HSO
  obtain ⟨MK, HMK⟩ : ∃ B, Hid (mkd T0 = B) := ⟨_, rfl⟩
  rw [HMK.out] at mk HST
  clear hr hc frd hf2 e0 e1 ek es HSE HKL
  go_enter Try.func31, Try.ntmps31
  go_wp2_with fail
  refine fd.mono ?_
  clear fd
  rintro _ y ⟨rfl, hy⟩
  have hR := h1_0 y (.cells Bs.zn 40)
  have hX := setRow_at hR #[.int .i64 T0, .string T1, .slice fo fl fc]
  have B1 : Below y.heap.size y ((y.alloc (.cells Bs.zn 40)).setRow y.heap.size #[.int .i64 T0, .string T1, .slice fo fl fc]) := below_setRow (below_one y _) (Nat.le_refl _) _
  have HBY : Hid (Below w.heap.size w ((y.alloc (.cells Bs.zn 40)).setRow y.heap.size #[.int .i64 T0, .string T1, .slice fo fl fc])) := keepB hy B1
  obtain ⟨x0, x1, x2⟩ := Bs.blk3 hX
  clear B1 hX hy
  go_wp2_with (refine wpList_store_row rfl 40 _ _ rfl y.heap.size _ rfl rfl _ _ hR Bs.infoN rfl (by simp [Value.oneCell']) ?_)
  refine (mk _).mono ?_
  rintro _ y2 ⟨rfl, hy2⟩
  rw [hy2]
  clear hy2 mk
  by_cases hbad : BS = true ∧ MK = false ∧ fl = 0
  · obtain ⟨rfl, rfl, rfl⟩ := hbad
    have hE0 : E = 0 := by rw [HST.out, if_pos ⟨rfl, rfl, rfl⟩]
    have HTT : Hid (T = ptT (er ts) ps val) := by show _ = _; rw [HTE.out, if_pos hE0]
    have HEE : Hid (E = 0) := hE0
    obtain ⟨Y, HY⟩ : ∃ Y, Hid (Y = (y.alloc (.cells Bs.zn 40)).setRow y.heap.size #[.int .i64 T0, .string T1, .slice fo 0 fc]) := ⟨_, rfl⟩
    rw [← HY.out] at HBY x0 x1 x2 ⊢
    have ck := set_all ps ts (.slice lo LN lc) (.slice o N cap) val Y w.heap.size HBY.out.size (fun x hx => by
        obtain h := HR.out
        exact old_rd h fun b hb => (hx b hb).trans (HBY.out.block b hb)) (fun x hx => by
        obtain h := HP.out
        exact old_pt h fun b hb => (hx b hb).trans (HBY.out.block b hb)) (by rw [HSO.out]) (HPS.out rfl) hv
    clear HY hE0 hR
    go_wp2_with fail
    clear x0 x1 x2
    refine ck.mono ?_
    clear ck
    rintro _ z ⟨v2, ats, rfl, hea, hbz, hst⟩
    have hrd := hst z ⟨Nat.le_refl _, fun _ _ _ _ => rfl⟩
    obtain ⟨ko, kc, ek, -⟩ := hrd.row
    obtain ⟨KL, HKL⟩ : ∃ L, Hid (ats.length = L) := ⟨_, rfl⟩
    rw [HKL.out] at ek
    subst ek
    have HF : Hid (er ats = T ∧ Rdn z (.slice ko KL kc) ats ∧ Below w.heap.size w z) := ⟨by rw [hea, HTT.out], hrd, keepB HBY.out hbz⟩
    clear hea hbz hst hrd
    go_wp2
    go_ret2
    exact ⟨_, ats, by rw [HEE.out]; rfl, HF.out.1, HF.out.2.1, HF.out.2.2⟩
  · have hE0 : E = 94 := by rw [HST.out, if_neg hbad]
    have HTT : Hid (T = []) := by show _ = _; rw [HTE.out, if_neg (by omega)]
    have HEE : Hid (E = 94) := hE0
    have HF : Hid (PostSr w E T (.returned (.tuple #[.slice none 0 0, .int .i64 94])) ((y.alloc (.cells Bs.zn 40)).setRow y.heap.size #[.int .i64 T0, .string T1, .slice fo fl fc])) := ⟨_, [], by rw [HEE.out], by rw [HTT.out]; simp [er], (own_nil _ 0).reads, HBY.out⟩
    clear hE0
    cases BS with
    | false =>
      go_wp2
      go_ret2
      exact HF.out
    | true =>
      cases MK with
      | true =>
        go_wp2
        go_ret2
        exact HF.out
      | false =>
        have hf : 0 < (fl : Int) := by
          have : fl ≠ 0 := fun h => hbad ⟨rfl, rfl, h⟩
          omega
        clear hbad
        go_wp2
        go_ret2
        exact HF.out
end Go.Proofs.Ytgidjfhlooggkaa.Fx
namespace Go.Proofs.Ytgidjfhlooggkaa.Fy
set_option linter.unusedVariables false
set_option linter.unusedSimpArgs false
open Go.RowKit Kb Ga Gb Gc Gd Nt Se Fq Li Fs Fw Fx Ag
theorem cnt_cons (a : Tr) (ts : List Tr) : cnt (a :: ts) = 1 + cnt (tkids a) + cnt ts := by cases a; simp only [cnt, tkids]
theorem cnt_fst (p : Int) : ∀ (ts : List Tr) (a : Tr), fstT p ts = some a → cnt (tkids a) ≤ cnt ts
  | [], a, h => by simp [fstT] at h
  | b :: ts, a, h => by
    rw [cnt_cons]
    simp only [fstT] at h
    split at h
    · injection h with h; subst h; omega
    · have := cnt_fst p ts a h; omega
theorem cnt_lk : ∀ (ps : List Int) (ts : List Tr) (f : Option Tr) (a : Tr), lkT ts ps f = some a → ps ≠ [] → cnt (tkids a) ≤ cnt ts
  | [], ts, f, a, h, hn => absurd rfl hn
  | p :: ps, ts, f, a, h, _ => by
    simp only [lkT] at h
    cases e : fstT p ts with
    | none => rw [e] at h; simp at h
    | some b =>
      rw [e] at h
      simp only at h
      have h1 := cnt_fst p ts b e
      cases ps with
      | nil => simp only [lkT] at h; injection h with h; subst h; exact h1
      | cons q r => have := cnt_lk (q :: r) (tkids b) (some b) a h (by simp); omega
theorem cnt_upd (p : Int) (f : Tr → Tr) (hf : ∀ a, cnt (tkids (f a)) = cnt (tkids a)) : ∀ ts, cnt (updT p f ts) = cnt ts
  | [] => rfl
  | a :: ts => by
    simp only [updT]
    split
    · rw [cnt_cons, cnt_cons, hf]
    · rw [cnt_cons, cnt_cons, cnt_upd p f hf ts]
theorem cnt_pt (val : ByteArray) : ∀ (ps : List Int) (ts : List Tr), cnt (ptT ts ps val) = cnt ts
  | [], ts => by simp only [ptT]
  | [p], ts => by
    simp only [ptT]
    exact cnt_upd p (fun a => .mk (ttag a) val (tkids a)) (fun a => rfl) ts
  | p :: q :: r, ts => by
    simp only [ptT]
    exact cnt_upd p (fun a => .mk (ttag a) (tval a) (ptT (tkids a) (q :: r) val)) (fun a => cnt_pt val (q :: r) (tkids a)) ts
theorem few2 (ts : List Tr) (ps : List Int) (val : ByteArray) : cnt (gk (lkT ts ps none)) + cnt (sT ts ps val) ≤ cnt ts := by
  unfold sT
  cases h : lkT ts ps none with
  | none => simp [gk, sE, cnt]
  | some a =>
    have hps : ps ≠ [] := fun e => by subst e; simp [lkT] at h
    have h1 := cnt_lk ps ts none a h hps
    simp only [gk]
    by_cases hc : mkd (ttag a) = true ∨ tkids a ≠ []
    · have e1 : sE (some a) = 94 := by simp only [sE]; rw [if_pos hc]
      rw [if_neg (by rw [e1]; omega)]
      simp only [cnt]; omega
    · have e1 : sE (some a) = 0 := by simp only [sE]; rw [if_neg hc]
      rw [if_pos e1, cnt_pt]
      have : tkids a = [] := Decidable.byContradiction fun hn => hc (.inr hn)
      rw [this]
      simp [cnt]
theorem one_rd {y : World} {b : Nat} {t : Int} {v : ByteArray} {kv : Value} {ks : List AT} (h : y.heap[b]? = some (.cells #[.int .i64 t, .string v, kv] 40)) (hk : Rdn y kv ks) (hv : v.size ≤ 1048576) (ht : tagB t) : Rdn y (.slice (some ⟨b, 0, none⟩) 1 1) [AT.mk t v kv ks] := by
  obtain ⟨c0, c1, c2⟩ := Bs.blk3 h
  refine ⟨⟨some ⟨b, 0, none⟩, 1, rfl, by simp, fun i hi => ?_⟩, ?_⟩
  · obtain rfl : i = 0 := by simp at hi; omega
    exact ⟨_, rfl, c0, c1, c2⟩
  · unfold rdL
    exact ⟨⟨hk.row, hk.kids, hv, ht⟩, by unfold rdL; trivial⟩
def iv (l : List Int) : List Value := l.map (Value.int .i64)
theorem iv_app (a b : List Int) : iv (a ++ b) = iv a ++ iv b := by simp [iv]
theorem iv_len (a : List Int) : (iv a).length = a.length := by simp [iv]
theorem iv_take (z : List Int) (j : Nat) (h : j < z.length) : iv (z.take (j + 1)) = iv (z.take j) ++ [.int .i64 z[j]] := by
  rw [List.take_succ_eq_append_getElem h, iv_app]; rfl
theorem lies_ints {w : World} {v : Value} {z : List Int} (h : Sl.Lies w v z) (hl : z.length ≤ 1048576) : Fd.ints w v z := by
  rcases h with ⟨rfl, rfl⟩ | ⟨a, cap, e, h1, h2, h3, h4⟩
  · exact ⟨none, 0, rfl, by simp, fun i hi => by simp at hi⟩
  · exact ⟨some a, cap, e, hl, fun i hi => ⟨a, rfl, h3 i hi⟩⟩
/-- the way, with two numbers behind it -/
structure Way (w : World) (base g n cw : Nat) (P : List Int) : Prop where
  row : w.ownsRow base 3 1 (.slice (some ⟨g, 0, none⟩) (n + 2) cw) (n + 2) (iv P ++ [.int .i64 (-3), .int .i64 (-4)])
  len : P.length = n
  few : n ≤ 30
theorem Way.keep {w x : World} {base g n cw : Nat} {P : List Int} (h : Way w base g n cw P) (k : x.heap[g]? = w.heap[g]?) : Way x base g n cw P :=
  ⟨owns_keep h.row fun b hb => by simp only [Value.ownBlock, Option.some.injEq] at hb; subst hb; exact k, h.len, h.few⟩
theorem Way.lt {w : World} {base g n cw : Nat} {P : List Int} (h : Way w base g n cw P) : base ≤ g ∧ g < w.heap.size := h.row.lt g rfl
theorem Way.below {w x : World} {base g n cw : Nat} {P : List Int} (h : Way w base g n cw P) (k : Below w.heap.size w x) : Way x base g n cw P := h.keep (k.block g h.lt.2)
theorem Way.cap {w : World} {base g n cw : Nat} {P : List Int} (h : Way w base g n cw P) : n + 2 ≤ cw := by
  rcases h.row.2 with ⟨e, _⟩ | ⟨g', cap', cur, e, _, _, hn, _⟩
  · cases e
  · injection e with e1 e2 e3
    omega
theorem Way.cell {w : World} {base g n cw : Nat} {P : List Int} (h : Way w base g n cw P) (i : Nat) (hi : i < n) : w.cell? ⟨g, i, none⟩ = some (.int .i64 (P[i]'(by rw [h.len]; exact hi))) := by
  have hc := h.row.cells (g := g) rfl i (.int .i64 (P[i]'(by rw [h.len]; exact hi))) (by
    rw [List.getElem?_append_left (by rw [iv_len, h.len]; exact hi)]
    unfold iv
    rw [List.getElem?_map, List.getElem?_eq_getElem (by rw [h.len]; exact hi)]
    rfl)
  rw [add0] at hc
  exact hc
theorem Way.ends {w : World} {base g n cw : Nat} {P : List Int} (h : Way w base g n cw P) : w.cell? ⟨g, n, none⟩ = some (.int .i64 (-3)) ∧ w.cell? ⟨g, n + 1, none⟩ = some (.int .i64 (-4)) := by
  have hl : (iv P).length = n := by rw [iv_len, h.len]
  have h1 := h.row.cells (g := g) rfl n (.int .i64 (-3)) (by rw [List.getElem?_append_right (by omega), show n - (iv P).length = 0 by omega]; rfl)
  have h2 := h.row.cells (g := g) rfl (n + 1) (.int .i64 (-4)) (by rw [List.getElem?_append_right (by omega), show n + 1 - (iv P).length = 1 by omega]; rfl)
  rw [add0] at h1 h2
  exact ⟨h1, h2⟩
theorem Way.path {w : World} {base g n cw : Nat} {P : List Int} (h : Way w base g n cw P) : Pth w (.slice (some ⟨g, 0, none⟩) n cw) P := by
  refine ⟨some ⟨g, 0, none⟩, cw, by rw [h.len], by have := h.cap; rw [h.len]; omega, by rw [h.len]; have := h.few; omega, fun i hi => ⟨_, rfl, ?_⟩⟩
  rw [add0]
  exact h.cell i (by rw [← h.len]; exact hi)
theorem lnt_fr {L : List Nat} {w w' : World} {base : Nat} {v : Value} {ats : List AT} (h : Le.Lnt w base v ats) (k : Bo.Fr L w w') (hl : ∀ b ∈ v.ownBlock.toList ++ fp ats, b ∉ L) : Le.Lnt w' base v ats :=
  h.keep fun b hb => k.block b (h.lt b hb).2 (hl b hb)
end Go.Proofs.Ytgidjfhlooggkaa.Fy
