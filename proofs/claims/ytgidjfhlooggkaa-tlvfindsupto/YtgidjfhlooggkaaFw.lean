/- The document's set: plain, and its walk. -/
import Derived.Test.YtgidjfhlooggkaaFq
import Derived.Deep.RegionHeld3
namespace Go.Proofs.Ytgidjfhlooggkaa.Fs
set_option linter.unusedVariables false
set_option linter.unusedSimpArgs false
open Go.RowKit Kb Ga Gb Gc Gd Nt Se Fq Li
open Go.Proofs.Ytgidjfhlooggkaa.Fd (idx idxI idx_le idx_hit idx_miss idx_at)
/-- the same below a bound and from a base on -/
def Agr (B0 base : Nat) (bad : Option Nat) (w x : World) : Prop := w.heap.size ≤ x.heap.size ∧ ∀ b, b < w.heap.size → (b < B0 ∨ base ≤ b) → bad ≠ some b → x.heap[b]? = w.heap[b]?
/-- readable wherever what lies below a bound is the same -/
def Old (B0 : Nat) (w : World) (v : Value) (ts : List AT) : Prop := ∀ x, (∀ b, b < B0 → x.heap[b]? = w.heap[b]?) → Rdn x v ts
def OldP (B0 : Nat) (w : World) (u : Value) (ps : List Int) : Prop := ∀ x, (∀ b, b < B0 → x.heap[b]? = w.heap[b]?) → Pth x u ps
theorem Old.to {B0 : Nat} {w y : World} {v : Value} {ts : List AT} (h : Old B0 w v ts) (k : ∀ b, b < B0 → y.heap[b]? = w.heap[b]?) : Old B0 y v ts := fun x hx => h x fun b hb => (hx b hb).trans (k b hb)
theorem OldP.to {B0 : Nat} {w y : World} {u : Value} {ps : List Int} (h : OldP B0 w u ps) (k : ∀ b, b < B0 → y.heap[b]? = w.heap[b]?) : OldP B0 y u ps := fun x hx => h x fun b hb => (hx b hb).trans (k b hb)
def PostT (w : World) (B0 : Nat) (R : List Tr) (e : Ending) (w' : World) : Prop := ∃ v ats, e = .returned v ∧ er ats = R ∧ Below w.heap.size w w' ∧ ∀ x, Agr B0 w.heap.size none w' x → Rdn x v ats
def SetD (ps : List Int) : Prop := ∀ (ts : List AT) (v u : Value) (val : ByteArray) (w : World) (B0 : Nat), B0 ≤ w.heap.size → Old B0 w v ts → OldP B0 w u ps → (Fd.look ts ps none).isSome = true → ps ≠ [] → val.size ≤ 1048576 →
  Calls Try.prog 62 #[v, .string val, u] w (PostT w B0 (ptT (er ts) ps val))
/-- what comes in the place of the node -/
def newT (a : AT) (ps : List Int) (val : ByteArray) : Tr := match ps with
  | [] => .mk a.tag val (er a.kids)
  | q :: r => .mk a.tag a.val (ptT (er a.kids) (q :: r) val)
theorem upd_set (p : Int) (f : Tr → Tr) : ∀ (ts : List AT) (h : idx p ts < ts.length), updT p f (er ts) = (er ts).set (idx p ts) (f (er1 ts[idx p ts]))
  | [], h => by simp at h
  | a :: ts, h => by
    rw [er_cons]
    by_cases e : a.tag = p
    · have h0 : idx p (a :: ts) = 0 := by simp [Fd.idx, e]
      have e1 : ttag (er1 a) = p := by cases a; exact e
      simp only [updT, h0, List.set_cons_zero, List.getElem_cons_zero]
      rw [if_pos e1]
    · have h0 : idx p (a :: ts) = idx p ts + 1 := by simp [Fd.idx, e]
      have e1 : ¬ ttag (er1 a) = p := by cases a; exact e
      have h1 : idx p ts < ts.length := by rw [h0] at h; simpa using h
      simp only [updT, h0, List.set_cons_succ, List.getElem_cons_succ]
      rw [if_neg e1, upd_set p f ts h1]
theorem pt_set (p : Int) (ps : List Int) (val : ByteArray) (ts : List AT) (h : idx p ts < ts.length) : ptT (er ts) (p :: ps) val = (er ts).set (idx p ts) (newT ts[idx p ts] ps val) := by
  cases ps with
  | nil =>
    show updT p _ (er ts) = _
    rw [upd_set p _ ts h]
    cases ts[idx p ts]; rfl
  | cons q r =>
    show updT p _ (er ts) = _
    rw [upd_set p _ ts h]
    cases ts[idx p ts]; rfl
theorem er_get (ts : List AT) (i : Nat) (h : i < ts.length) : (er ts)[i]'(by rw [er_len]; exact h) = er1 ts[i] := by
  induction ts generalizing i with
  | nil => simp at h
  | cons a ts ih =>
    cases i with
    | zero => simp only [er_cons, List.getElem_cons_zero]
    | succ i =>
      have := ih i (by simpa using h)
      simp only [er_cons, List.getElem_cons_succ]
      exact this
theorem take_next {l : List Tr} {i : Nat} (h : i < l.length) : l.take (i + 1) = l.take i ++ [l[i]] := List.take_succ_eq_append_getElem h
theorem rdL_app {w : World} : ∀ a b : List AT, rdL w a → rdL w b → rdL w (a ++ b)
  | [], b, _, h => h
  | .mk t v k ks :: a, b, h, hb => by
    simp only [List.cons_append, rdL] at h ⊢
    exact ⟨h.1, rdL_app a b h.2 hb⟩
/-- the row so far; its kids can be read whatever becomes of the row -/
structure Row (w wr : World) (B0 : Nat) (v : Value) (ats : List AT) : Prop where
  row : wr.ownsRow w.heap.size 40 3 v ats.length (cs ats)
  kids : ∀ x, Agr B0 w.heap.size v.ownBlock wr x → rdL x ats
theorem Row.ends {w wr : World} {B0 : Nat} {v : Value} {ats : List AT} (h : Row w wr B0 v ats) (hf : ats.length ≤ 1048576) : ∀ x, Agr B0 w.heap.size none wr x → Rdn x v ats := fun x hx =>
  ⟨rowR_of (owns_keep h.row fun b hb => hx.2 b (h.row.lt b hb).2 (.inr (h.row.lt b hb).1) (by simp)) hf, h.kids x ⟨hx.1, fun b h1 h2 _ => hx.2 b h1 h2 (by simp)⟩⟩
/-- one more -/
theorem Row.push {w wr z y : World} {B0 g cap : Nat} {v kv : Value} {ats ks : List AT} {t : Int} {val : ByteArray} (h : Row w wr B0 v ats) (hwz : ∀ b, b < wr.heap.size → z.heap[b]? = wr.heap[b]?) (hsz : wr.heap.size ≤ z.heap.size) {o : Obj}
    (hk : ∀ x, Agr B0 wr.heap.size (some wr.heap.size) z x → Rdn x kv ks) (hv : val.size ≤ 1048576) (ht : tagB t) (gr : (z.alloc o).grownBy y v.ownBlock) (hB : B0 ≤ w.heap.size) (hw : w.heap.size ≤ wr.heap.size)
    (own : y.ownsRow w.heap.size 40 3 (.slice (some ⟨g, 0, none⟩) (ats.length + 1) cap) (ats.length + 1) (cs ats ++ [.int .i64 t, .string val, kv])) (hat : v.ownBlock = some g ∨ g = z.heap.size + 1) :
    Row w y B0 (.slice (some ⟨g, 0, none⟩) (ats ++ [AT.mk t val kv ks]).length cap) (ats ++ [AT.mk t val kv ks]) := by
  have hvb : ∀ b, v.ownBlock = some b → w.heap.size ≤ b ∧ b < wr.heap.size := fun b hb => h.row.lt b hb
  have same : ∀ b, b < z.heap.size → v.ownBlock ≠ some b → y.heap[b]? = z.heap[b]? := fun b hb hne => by
    rw [gr.block b (by simp; omega) (fun e => hne e.symm)]
    exact Below.heap_alloc z o b hb
  have hys : z.heap.size + 1 ≤ y.heap.size := by have := gr.size; simpa using this
  refine ⟨by rw [List.length_append, cs_append]; exact own, fun x hx => rdL_app _ _ (h.kids x ⟨by have := hx.1; omega, fun b h1 h2 h3 => ?_⟩) ?_⟩
  · rw [hx.2 b (by omega) h2 (by simp only [Value.ownBlock]; intro e; injection e with e; subst e; rcases hat with hat | hat; exact h3 hat; omega), same b (by omega) h3]
    exact hwz b h1
  · simp only [rdL]
    have rk := hk x ⟨by have := hx.1; omega, fun b h1 h2 h3 => ?_⟩
    · exact ⟨⟨rk.row, rk.kids, hv, ht⟩, trivial⟩
    · have hne : v.ownBlock ≠ some b := fun e => by have := hvb b e; omega
      rw [hx.2 b (by omega) (by omega) (by simp only [Value.ownBlock]; intro e; injection e with e; subst e; rcases hat with hat | hat; exact hne hat; omega), same b h1 hne]
end Go.Proofs.Ytgidjfhlooggkaa.Fs
namespace Go.Proofs.Ytgidjfhlooggkaa.Fw
set_option linter.unusedVariables false
set_option linter.unusedSimpArgs false
open Go.RowKit Kb Ga Gb Gc Gd Nt Se Fq Li Fs
open Go.Proofs.Ytgidjfhlooggkaa.Fd (idx idxI idx_le idx_hit idx_miss idx_at)
theorem halt3 {p : Prop} (h : True → p) : p := h trivial
theorem alloc_size (w : World) (o : Obj) : (w.alloc o).heap.size = w.heap.size + 1 := by simp
def Rl (w : World) (B0 LN : Nat) (X : List Tr) (vo vi : Value) (wr : World) : Prop := ∃ (i : Nat) (ats : List AT), i ≤ LN ∧ vi = .int .i64 (i : Int) ∧ wr.ownsRow w.heap.size 40 3 vo ats.length (cs ats) ∧ Hid (Row w wr B0 vo ats ∧ er ats = X.take i ∧ ats.length = i ∧ Below w.heap.size w wr)
theorem nt_er (a : AT) (hn : a = a) : er1 a = .mk a.tag a.val (er a.kids) := by cases a; rfl
set_option maxRecDepth 100000 in
set_option maxHeartbeats 6400000 in
theorem set_step (p : Int) (ps : List Int) (ih : SetD ps) : SetD (p :: ps) := by
  intro ts v u val w B0 hB hr hp hs _ hv
  have HR : Hid (Old B0 w v ts) := hr
  have HP : Hid (OldP B0 w u (p :: ps)) := hp
  obtain ⟨o, cap, eu, hcap, hpl, hc⟩ := hp w fun _ _ => rfl
  obtain ⟨a, ea, cp⟩ := hc 0 (by simp)
  subst ea
  simp only [List.getElem_cons_zero] at cp
  obtain ⟨N, HNN⟩ : ∃ N : Nat, Hid ((p :: ps).length = N) := ⟨_, rfl⟩
  rw [HNN.out] at eu hcap hpl
  subst eu
  have rd0 := hr w fun _ _ => rfl
  obtain ⟨lo, lc, e, hLN, -⟩ := rd0.row
  obtain ⟨LN, HLN⟩ : ∃ LN : Nat, Hid (ts.length = LN) := ⟨_, rfl⟩
  rw [HLN.out] at e hLN
  subst e
  have hN1 : 1 ≤ N := by rw [← HNN.out]; simp
  have cp1 : w.cell? a = some (.int .i64 p) := by have := cp; unfold Addr.add at this; simpa using this
  have fd := first_doc ts p (.slice lo LN lc) w rd0
  have hN0 : 0 < (N : Int) := by omega
  have hi : idx p ts < ts.length := by
    by_cases h : idx p ts < ts.length
    · exact h
    · simp only [Fd.look] at hs; rw [dif_neg h] at hs; simp at hs
  obtain ⟨I, HI⟩ : ∃ I, Hid (idx p ts = I) := ⟨_, rfl⟩
  have hx : idxI p ts = (I : Int) := by unfold idxI; rw [if_pos hi, HI.out]
  rw [hx] at fd
  have hIl : I < ts.length := by rw [← HI.out]; exact hi
  have hI2 : (I : Int) < (LN : Int) := by rw [HLN.out] at hIl; omega
  have HPT : Hid (ptT (er ts) (p :: ps) val = (er ts).set I (newT ts[I] ps val)) := by
    show _ = _
    rw [pt_set p ps val ts hi]
    simp only [HI.out]
  have HLK : Hid (ps ≠ [] → (Fd.look ts[I].kids ps none).isSome = true) := fun h => by
    cases ps with
    | nil => exact absurd rfl h
    | cons q r =>
      simp only [Fd.look] at hs
      rw [dif_pos hi] at hs
      simp only [HI.out] at hs
      simp only [Fd.look]
      exact hs
  obtain ⟨X, HX⟩ : ∃ X, Hid ((er ts).set I (newT ts[I] ps val) = X) := ⟨(er ts).set I (newT ts[I] ps val), rfl⟩
  rw [HPT.out, HX.out]
  have HXL : Hid (X.length = LN) := by show _ = _; rw [← HX.out, List.length_set, er_len]; exact HLN.out
  obtain ⟨ia, hia, hza0, hza1, hza2⟩ := info_parts Bq.infoNN
  clear hr hp hc hs rd0 hx cp hi HPT HI
  go_enter Try.func62, Try.ntmps62
  go_wp2_with fail
  refine fd.mono ?_
  rintro _ y ⟨rfl, hy⟩
  rw [hy]
  clear hy fd cp1
  go_wp2
  go_loopw [8, 9] (fun vo vi wr => Rl w B0 LN X vo vi wr) (fun _ vi _ => LN - (intOf vi).toNat)
  case atStart => exact ⟨0, [], Nat.zero_le _, rfl, World.ownsRow_nil _ _ _ _, ⟨World.ownsRow_nil _ _ _ _, fun x _ => by unfold rdL; trivial⟩, by simp [er], rfl, Below.refl _ _⟩
  case round =>
    obtain ⟨i, ats, hi, rfl, ho, HI⟩ := hrel
    rename World => wr
    have hln := HI.out.2.2.1
    rw [hln] at ho
    obtain ⟨uo, uc, rfl⟩ := formL ho
    have hwr := HI.out.2.2.2
    have hsw : w.heap.size ≤ wr.heap.size := hwr.size
    by_cases hlt : i < LN
    case neg =>
      have hlt' : ¬ (i : Int) < (LN : Int) := by omega
      have HE : Hid (PostT w B0 X (.returned (.slice uo i uc)) wr) := by
        obtain ⟨h1, h2, h3, h4⟩ := HI.out
        refine ⟨_, ats, rfl, ?_, h4, fun x hx => h1.ends (by rw [h3]; omega) x hx⟩
        rw [h2, List.take_of_length_le (by rw [HXL.out]; omega)]
      clear ho
      go_wp2
      go_ret
      exact HE.out
    have hlt' : (i : Int) < (LN : Int) := by omega
    have hia2 : i < ts.length := by rw [HLN.out]; exact hlt
    have rd := HR.out wr fun b hb => hwr.block b (by omega)
    have ka := rdL_at ts i hia2 rd.kids
    have kold : ∀ x, (∀ b, b < B0 → x.heap[b]? = w.heap[b]?) → Rdn x ts[i].kv ts[i].kids := fun x hx => (rdL_at ts i hia2 (HR.out x hx).kids).1
    have hXi : X[i]'(by rw [HXL.out]; exact hlt) = if I = i then newT ts[I] ps val else er1 ts[i] := by
      simp only [← HX.out, List.getElem_set, er_get ts i hia2]
    have hXt := take_next (l := X) (i := i) (by rw [HXL.out]; exact hlt)
    rw [hXi] at hXt
    have hTI : I = i → ts[I] = ts[i] := fun e => by simp only [e]
    obtain ⟨x, hxx⟩ : ∃ y, y = ts[i] := ⟨_, rfl⟩
    obtain ⟨o', cap', e', _, hc2⟩ := rd.row
    obtain ⟨b, eb, q0, q1, q2⟩ := hc2 i hia2
    rw [HLN.out] at e'
    obtain ⟨rfl, rfl⟩ : lo = o' ∧ lc = cap' := by simpa using e'
    subst eb
    have hLK2 : I = i → ps ≠ [] → (Fd.look ts[i].kids ps none).isSome = true := fun e h => by have := HLK.out h; rw [hTI e] at this; exact this
    rw [← hxx] at ka kold hXt q0 q1 q2 hTI hLK2
    clear hc2 e' hxx rd
    cases x with
    | mk tag tv kv ks =>
    simp only [AT.tag, AT.val, AT.kv, AT.kids] at ka kold q0 q1 q2 hLK2
    obtain ⟨ko, kc, hkv, -⟩ := ka.1.row
    obtain ⟨KL, HKL⟩ : ∃ L, Hid (ks.length = L) := ⟨_, rfl⟩
    rw [HKL.out] at hkv
    subst hkv
    have hva := ka.2.1
    have htb := ka.2.2
    have hR := h1_0 wr (.cells Bs.zn 40)
    have hX := setRow_at hR #[.int .i64 tag, .string tv, .slice ko KL kc]
    have B1 : Below wr.heap.size wr ((wr.alloc (.cells Bs.zn 40)).setRow wr.heap.size #[.int .i64 tag, .string tv, .slice ko KL kc]) := below_setRow (below_one wr _) (Nat.le_refl _) _
    have HB1 : Hid (Below wr.heap.size wr ((wr.alloc (.cells Bs.zn 40)).setRow wr.heap.size #[.int .i64 tag, .string tv, .slice ko KL kc])) := B1
    have HXX : Hid (((wr.alloc (.cells Bs.zn 40)).setRow wr.heap.size #[.int .i64 tag, .string tv, .slice ko KL kc]).heap[wr.heap.size]? = some (.cells #[.int .i64 tag, .string tv, .slice ko KL kc] 40)) := hX
    have HKO : Hid (Old B0 w (.slice ko KL kc) ks) := kold
    have HXT : Hid (X.take (i + 1) = X.take i ++ [if I = i then newT ts[I] ps val else er1 (AT.mk tag tv (.slice ko KL kc) ks)]) := hXt
    have HTI : Hid (I = i → ts[I] = AT.mk tag tv (.slice ko KL kc) ks) := hTI
    have HL2 : Hid (I = i → ps ≠ [] → (Fd.look ks ps none).isSome = true) := hLK2
    clear ka kold hXt hX B1 hTI hXi hLK2
    have HRO : Hid (World.ownsRow wr w.heap.size 40 3 (.slice uo i uc) i (cs ats)) := ho
    have HIO : Hid (Row w wr B0 (.slice uo i uc) ats ∧ er ats = X.take i ∧ ats.length = i ∧ Below w.heap.size w wr) := HI.out
    have hsz0 : ((wr.alloc (.cells Bs.zn 40)).setRow wr.heap.size #[.int .i64 tag, .string tv, .slice ko KL kc]).heap.size = wr.heap.size + 1 := by simp [World.setRow]
    obtain ⟨x0, x1, x2⟩ := Bs.blk3 HXX.out
    clear ho HI
    by_cases hiI : I = i
    case neg =>
      have hne : ((i : Int) == (I : Int)) = false := by simp; omega
      have hXs := hsz0
      have HNW : ∀ ob, (((wr.alloc (.cells Bs.zn 40)).setRow wr.heap.size #[.int .i64 tag, .string tv, .slice ko KL kc]).alloc ob).heap[wr.heap.size + 1]? = some ob := fun ob => by have := heap_alloc_new ((wr.alloc (.cells Bs.zn 40)).setRow wr.heap.size #[.int .i64 tag, .string tv, .slice ko KL kc]) ob; rwa [hXs] at this
      have HWZ : Hid (∀ b, b < wr.heap.size → ((wr.alloc (.cells Bs.zn 40)).setRow wr.heap.size #[.int .i64 tag, .string tv, .slice ko KL kc]).heap[b]? = wr.heap[b]?) := fun b hb => HB1.out.block b hb
      have HBZ : Hid (Below w.heap.size w ((wr.alloc (.cells Bs.zn 40)).setRow wr.heap.size #[.int .i64 tag, .string tv, .slice ko KL kc])) := keepB hwr HB1.out
      have HKZ : Hid (∀ x, Agr B0 wr.heap.size (some wr.heap.size) ((wr.alloc (.cells Bs.zn 40)).setRow wr.heap.size #[.int .i64 tag, .string tv, .slice ko KL kc]) x → Rdn x (.slice ko KL kc) ks) := fun x hx => HKO.out x fun b hb => by
        rw [hx.2 b (by rw [hXs]; omega) (.inl hb) (by intro e; injection e with e; omega), HWZ.out b (by omega)]
        exact hwr.block b (by omega)
      have hsX : w.heap.size ≤ wr.heap.size + 1 := by have := HBZ.out.size; rw [hXs] at this; exact this
      have OWN1 : Hid (World.ownsRow ((wr.alloc (.cells Bs.zn 40)).setRow wr.heap.size #[.int .i64 tag, .string tv, .slice ko KL kc]) w.heap.size 40 3 (.slice uo i uc) i (cs ats)) := owns_keep HRO.out fun q hq => HWZ.out q (HRO.out.lt q hq).2
      go_wp2_with (first | (refine wpList_store_row rfl 40 _ _ rfl wr.heap.size _ rfl rfl _ _ hR Bs.infoN rfl (by simp [Value.oneCell']) ?_) | (at_builtin; refine Bq.halt ?_))
      intro _
      refine wpList_append_lies _ rfl _ _ _ rfl w.heap.size 40 ia _ 3 48 Try.underlying23 hia hza0 hza1 hza2 rfl (by omega) _ i _ rfl (OWN1.out.alloc _) ⟨wr.heap.size + 1, 0, Option.none⟩ 1 1 _ rfl (by rfl) (World.news_of_block (HNW _)) (by simp [Value.oneCell']) (by omega) (by unfold maxLen; omega) (by omega) (by rw [alloc_size, hXs]; omega) (wr.heap.size + 1 + 1) (by rw [alloc_size, hXs]) ?_
      intro g1 c1 w1 own1 gr1 hat1 hlt1
      go_wp2_with fail
      obtain ⟨r1, r2, r3, r4⟩ := HIO.out
      have gr3 : (((wr.alloc (.cells Bs.zn 40)).setRow wr.heap.size #[.int .i64 tag, .string tv, .slice ko KL kc]).alloc (.cells #[.int .i64 tag, .string tv, .slice ko KL kc] 40)).grownBy w1 (Value.slice uo i uc).ownBlock := gr1
      have B1 := Lw.grow3 (by rw [hXs]; exact hsX) OWN1.out gr3
      have hpp := Row.push (t := tag) (val := tv) (kv := .slice ko KL kc) (ks := ks) r1 (z := (wr.alloc (.cells Bs.zn 40)).setRow wr.heap.size #[.int .i64 tag, .string tv, .slice ko KL kc]) HWZ.out (by rw [hXs]; omega) HKZ.out hva htb gr3 hB hsw (by rw [r3]; exact own1) (by rw [hXs]; exact hat1)
      have e1 : (ats ++ [AT.mk tag tv (.slice ko KL kc) ks]).length = i + 1 := by rw [List.length_append, r3]; rfl
      refine ⟨⟨i + 1, ats ++ [AT.mk tag tv (.slice ko KL kc) ks], by omega, by go_num, by have := hpp.row; rw [e1] at this ⊢; exact this, by rw [e1] at hpp; exact hpp, ?_, e1, HBZ.out.trans B1⟩, by simp [intOf]; omega⟩
      rw [er_append, r2, HXT.out]
      rw [if_neg hiI]
      simp only [er, er1]
    have heq : ((i : Int) == (I : Int)) = true := by simp [hiI]
    by_cases hN : N = 1
    case pos =>
      subst hN
      have hps : ps = [] := by have := HNN.out; simpa using this
      have hXf := Lw.blk3f HXX.out 1
      have hX5 : (((wr.alloc (.cells Bs.zn 40)).setRow wr.heap.size #[.int .i64 tag, .string tv, .slice ko KL kc]).setCell ⟨wr.heap.size, 1, none⟩ (.string val)).heap[wr.heap.size]? = some (.cells #[.int .i64 tag, .string val, .slice ko KL kc] 40) := by rw [setCell_heap HXX.out]; rfl
      obtain ⟨y0, y1, y2⟩ := Bs.blk3 hX5
      have hXs : (((wr.alloc (.cells Bs.zn 40)).setRow wr.heap.size #[.int .i64 tag, .string tv, .slice ko KL kc]).setCell ⟨wr.heap.size, 1, none⟩ (.string val)).heap.size = wr.heap.size + 1 := by rw [← hsz0]; simp [World.setCell]
      have HNW : ∀ ob, ((((wr.alloc (.cells Bs.zn 40)).setRow wr.heap.size #[.int .i64 tag, .string tv, .slice ko KL kc]).setCell ⟨wr.heap.size, 1, none⟩ (.string val)).alloc ob).heap[wr.heap.size + 1]? = some ob := fun ob => by have := heap_alloc_new (((wr.alloc (.cells Bs.zn 40)).setRow wr.heap.size #[.int .i64 tag, .string tv, .slice ko KL kc]).setCell ⟨wr.heap.size, 1, none⟩ (.string val)) ob; rwa [hXs] at this
      have HWZ : Hid (∀ b, b < wr.heap.size → (((wr.alloc (.cells Bs.zn 40)).setRow wr.heap.size #[.int .i64 tag, .string tv, .slice ko KL kc]).setCell ⟨wr.heap.size, 1, none⟩ (.string val)).heap[b]? = wr.heap[b]?) := fun b hb => (setCell_ne (by omega) _ _).trans (HB1.out.block b hb)
      have HBZ : Hid (Below w.heap.size w (((wr.alloc (.cells Bs.zn 40)).setRow wr.heap.size #[.int .i64 tag, .string tv, .slice ko KL kc]).setCell ⟨wr.heap.size, 1, none⟩ (.string val))) := Lw.bset (keepB hwr HB1.out) hsw _ _
      have HKZ : Hid (∀ x, Agr B0 wr.heap.size (some wr.heap.size) (((wr.alloc (.cells Bs.zn 40)).setRow wr.heap.size #[.int .i64 tag, .string tv, .slice ko KL kc]).setCell ⟨wr.heap.size, 1, none⟩ (.string val)) x → Rdn x (.slice ko KL kc) ks) := fun x hx => HKO.out x fun b hb => by
        rw [hx.2 b (by rw [hXs]; omega) (.inl hb) (by intro e; injection e with e; omega), HWZ.out b (by omega)]
        exact hwr.block b (by omega)
      clear hX5
      have hsX : w.heap.size ≤ wr.heap.size + 1 := by have := HBZ.out.size; rw [hXs] at this; exact this
      have OWN1 : Hid (World.ownsRow (((wr.alloc (.cells Bs.zn 40)).setRow wr.heap.size #[.int .i64 tag, .string tv, .slice ko KL kc]).setCell ⟨wr.heap.size, 1, none⟩ (.string val)) w.heap.size 40 3 (.slice uo i uc) i (cs ats)) := owns_keep HRO.out fun q hq => HWZ.out q (HRO.out.lt q hq).2
      go_wp2_with (first | (refine wpList_store_row rfl 40 _ _ rfl wr.heap.size _ rfl rfl _ _ hR Bs.infoN rfl (by simp [Value.oneCell']) ?_) | (at_builtin; refine Bq.halt ?_))
      intro _
      refine wpList_append_lies _ rfl _ _ _ rfl w.heap.size 40 ia _ 3 48 Try.underlying23 hia hza0 hza1 hza2 rfl (by omega) _ i _ rfl (OWN1.out.alloc _) ⟨wr.heap.size + 1, 0, Option.none⟩ 1 1 _ rfl (by rfl) (World.news_of_block (HNW _)) (by simp [Value.oneCell']) (by omega) (by unfold maxLen; omega) (by omega) (by rw [alloc_size, hXs]; omega) (wr.heap.size + 1 + 1) (by rw [alloc_size, hXs]) ?_
      intro g1 c1 w1 own1 gr1 hat1 hlt1
      go_wp2_with fail
      obtain ⟨r1, r2, r3, r4⟩ := HIO.out
      have gr3 : ((((wr.alloc (.cells Bs.zn 40)).setRow wr.heap.size #[.int .i64 tag, .string tv, .slice ko KL kc]).setCell ⟨wr.heap.size, 1, none⟩ (.string val)).alloc (.cells #[.int .i64 tag, .string val, .slice ko KL kc] 40)).grownBy w1 (Value.slice uo i uc).ownBlock := gr1
      have B1 := Lw.grow3 (by rw [hXs]; exact hsX) OWN1.out gr3
      have hpp := Row.push (t := tag) (val := val) (kv := .slice ko KL kc) (ks := ks) r1 (z := ((wr.alloc (.cells Bs.zn 40)).setRow wr.heap.size #[.int .i64 tag, .string tv, .slice ko KL kc]).setCell ⟨wr.heap.size, 1, none⟩ (.string val)) HWZ.out (by rw [hXs]; omega) HKZ.out hv htb gr3 hB hsw (by rw [r3]; exact own1) (by rw [hXs]; exact hat1)
      have e1 : (ats ++ [AT.mk tag val (.slice ko KL kc) ks]).length = i + 1 := by rw [List.length_append, r3]; rfl
      refine ⟨⟨i + 1, ats ++ [AT.mk tag val (.slice ko KL kc) ks], by omega, by go_num, by have := hpp.row; rw [e1] at this ⊢; exact this, by rw [e1] at hpp; exact hpp, ?_, e1, HBZ.out.trans B1⟩, by simp [intOf]; omega⟩
      rw [er_append, r2, HXT.out]
      rw [if_pos hiI, HTI.out hiI, hps]
      simp only [er, newT, AT.tag, AT.kids]
    have hN1' : ((N : Int) == 1) = false := by simp; omega
    cases ps with
    | nil => exact absurd (by rw [← HNN.out]; rfl) hN
    | cons q r =>
      obtain ⟨N1, rfl⟩ : ∃ N1, N = N1 + 1 := ⟨N - 1, by omega⟩
      have hq1 : (q :: r).length = N1 := by have := HNN.out; simpa using this
      have hN2 : 1 ≤ N1 := by rw [← hq1]; simp
      obtain ⟨C1, rfl⟩ : ∃ C1, cap = C1 + 1 := ⟨cap - 1, by omega⟩
      obtain ⟨Y, HY⟩ : ∃ Y, Hid (Y = (wr.alloc (.cells Bs.zn 40)).setRow wr.heap.size #[.int .i64 tag, .string tv, .slice ko KL kc]) := ⟨_, rfl⟩
      have hYs : Y.heap.size = wr.heap.size + 1 := by rw [HY.out]; exact hsz0
      have hag : ∀ y, Ql.Cl Y y → ∀ b, b < B0 → y.heap[b]? = w.heap[b]? := fun y hy b hb => by
        rw [hy.block b (by omega), HY.out, HB1.out.block b (by omega)]
        exact hwr.block b (by omega)
      have CK : Hid (∀ y, Ql.Cl Y y → Calls Try.prog 62 #[.slice ko KL kc, .string val, .slice (some (a.add 1)) N1 C1] y (PostT y B0 (ptT (er ks) (q :: r) val))) := fun y hy => ih ks (.slice ko KL kc) (.slice (some (a.add 1)) N1 C1) val y B0 (by have := hy.size; omega) (HKO.out.to (hag y hy)) (OldP.to (fun x hx => by
          have h1 := HP.out x hx
          rw [← HNN.out] at h1
          have := h1.tail
          rw [hq1] at this
          simpa using this) (hag y hy)) (HL2.out hiI (by simp)) (by simp) hv
      have s1 : (1 : Int) ≤ (N1 : Int) + 1 := by omega
      have s2 : (N1 : Int) ≤ (C1 : Int) := by omega
      have s3 : N1 ≤ C1 := by omega
      have s4 : 0 < C1 := by omega
      have hc1 : ¬ C1 = 0 := by omega
      clear ih HP hN HNN hq1 hag
      go_wp2_with (refine wpList_store_row rfl 40 _ _ rfl wr.heap.size _ rfl rfl _ _ hR Bs.infoN rfl (by simp [Value.oneCell']) ?_)
      rw [← HY.out] at x0 x1 x2 HB1 HXX hsz0 ⊢
      have bx2 := World.block_lt_of_cell? _ _ x2
      refine Qt.region_tail 5 2 (C := Ql.Cl Y) (by kernel_rfl) rfl (by kernel_rfl) (by kernel_rfl) (by kernel_rfl) ((Below.refl _ _).drew) ?_
      dsimp only [List.take, List.drop]
      repeat (refine wpQuiet_step (fun K hK => ?_); first
        | (refine Ql.q_cell (by rfl) 23 _ rfl wr.heap.size _ rfl _ x2 bx2 (fun y => Try.isAgg23 y) (hK _ ?_); clear hK K)
        | (go_simp; refine hK _ ?_; clear hK K)
        | (go_simp; refine ⟨_, fun _ _ => rfl, hK _ ?_⟩; clear hK K)
        | (go_simp; refine ⟨_, fun _ _ => ⟨rfl, rfl⟩, hK _ ?_⟩; clear hK K))
      refine wpQuiet_nil ?_
      intro y hy
      have hck := CK.out y hy
      have HYY : Hid (Ql.Cl Y y) := hy
      clear hy x0 x1 x2 bx2 CK
      go_wp2_with fail
      refine hck.mono ?_
      clear hck
      rintro _ z ⟨v2, bts, rfl, hbe, hbz, hst⟩
      obtain ⟨fo, fc, ef, -⟩ := (hst z ⟨Nat.le_refl _, fun _ _ _ _ => rfl⟩).row
      obtain ⟨FL, HFL⟩ : ∃ L, Hid (bts.length = L) := ⟨_, rfl⟩
      rw [HFL.out] at ef
      subst ef
      have BYz : Below Y.heap.size Y z := keepB HYY.out hbz
      have hXz := kept BYz HXX.out
      obtain ⟨j0, j1, j2⟩ := Bs.blk3 hXz
      have jf := Lw.blk3f hXz 2
      have hX5 : (z.setCell ⟨wr.heap.size, 2, none⟩ (.slice fo FL fc)).heap[wr.heap.size]? = some (.cells #[.int .i64 tag, .string tv, .slice fo FL fc] 40) := by rw [setCell_heap hXz]; rfl
      obtain ⟨y0, y1, y2⟩ := Bs.blk3 hX5
      have hXs : (z.setCell ⟨wr.heap.size, 2, none⟩ (.slice fo FL fc)).heap.size = z.heap.size := by simp [World.setCell]
      have hzY : wr.heap.size + 1 ≤ z.heap.size := by have := BYz.size; omega
      have hyY : wr.heap.size + 1 ≤ y.heap.size := by have := HYY.out.size; omega
      have HNW : ∀ ob, ((z.setCell ⟨wr.heap.size, 2, none⟩ (.slice fo FL fc)).alloc ob).heap[z.heap.size]? = some ob := fun ob => by have := heap_alloc_new (z.setCell ⟨wr.heap.size, 2, none⟩ (.slice fo FL fc)) ob; rwa [hXs] at this
      have HWZ : Hid (∀ b, b < wr.heap.size → (z.setCell ⟨wr.heap.size, 2, none⟩ (.slice fo FL fc)).heap[b]? = wr.heap[b]?) := fun b hb => by
        rw [setCell_ne (by omega) _ _, BYz.block b (by omega)]
        exact HB1.out.block b hb
      have HBZ : Hid (Below w.heap.size w (z.setCell ⟨wr.heap.size, 2, none⟩ (.slice fo FL fc))) := Lw.bset (keepB (keepB hwr HB1.out) BYz) hsw _ _
      have HKZ : Hid (∀ x, Agr B0 wr.heap.size (some wr.heap.size) (z.setCell ⟨wr.heap.size, 2, none⟩ (.slice fo FL fc)) x → Rdn x (.slice fo FL fc) bts) := fun x hx => hst x ⟨by have := hx.1; rw [hXs] at this; exact this, fun b h1 h2 _ => by
        rw [hx.2 b (by rw [hXs]; exact h1) (by omega) (by intro e; injection e with e; omega), setCell_ne (by omega) _ _]⟩
      clear hX5 hXz hst BYz hbz HYY
      have hsX : w.heap.size ≤ z.heap.size := by have := HBZ.out.size; rw [hXs] at this; exact this
      have OWN1 : Hid (World.ownsRow (z.setCell ⟨wr.heap.size, 2, none⟩ (.slice fo FL fc)) w.heap.size 40 3 (.slice uo i uc) i (cs ats)) := owns_keep HRO.out fun q hq => HWZ.out q (HRO.out.lt q hq).2
      go_wp2_with (at_builtin; refine Bq.halt ?_)
      intro _
      refine wpList_append_lies _ rfl _ _ _ rfl w.heap.size 40 ia _ 3 48 Try.underlying23 hia hza0 hza1 hza2 rfl (by omega) _ i _ rfl (OWN1.out.alloc _) ⟨z.heap.size, 0, Option.none⟩ 1 1 _ rfl (by rfl) (World.news_of_block (HNW _)) (by simp [Value.oneCell']) (by omega) (by unfold maxLen; omega) (by omega) (by rw [alloc_size, hXs]; omega) (z.heap.size + 1) (by rw [alloc_size, hXs]) ?_
      intro g1 c1 w1 own1 gr1 hat1 hlt1
      clear j0 j1 j2 jf y0 y1 y2
      go_wp2_with fail
      obtain ⟨r1, r2, r3, r4⟩ := HIO.out
      have gr3 : ((z.setCell ⟨wr.heap.size, 2, none⟩ (.slice fo FL fc)).alloc (.cells #[.int .i64 tag, .string tv, .slice fo FL fc] 40)).grownBy w1 (Value.slice uo i uc).ownBlock := gr1
      have B1 := Lw.grow3 (by rw [hXs]; exact hsX) OWN1.out gr3
      have hpp := Row.push (t := tag) (val := tv) (kv := .slice fo FL fc) (ks := bts) r1 (z := z.setCell ⟨wr.heap.size, 2, none⟩ (.slice fo FL fc)) HWZ.out (by rw [hXs]; omega) HKZ.out hva htb gr3 hB hsw (by rw [r3]; exact own1) (by rw [hXs]; exact hat1)
      have e1 : (ats ++ [AT.mk tag tv (.slice fo FL fc) bts]).length = i + 1 := by rw [List.length_append, r3]; rfl
      refine ⟨⟨i + 1, ats ++ [AT.mk tag tv (.slice fo FL fc) bts], by omega, by go_num, by have := hpp.row; rw [e1] at this ⊢; exact this, by rw [e1] at hpp; exact hpp, ?_, e1, HBZ.out.trans B1⟩, by simp [intOf]; omega⟩
      rw [er_append, r2, HXT.out, if_pos hiI, HTI.out hiI]
      simp only [er, newT, AT.tag, AT.val, AT.kids, hbe]
theorem set_all : ∀ ps : List Int, SetD ps
  | [] => fun ts v u val w B0 _ _ _ _ h => absurd rfl h
  | p :: ps => set_step p ps (set_all ps)
end Go.Proofs.Ytgidjfhlooggkaa.Fw
