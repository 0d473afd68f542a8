/- A value is set at a path. -/
import Derived.Test.YtgidjfhlooggkaaFd
import Derived.Test.YtgidjfhlooggkaaAg
import Derived.Test.YtgidjfhlooggkaaAl
namespace Go.Proofs.Ytgidjfhlooggkaa.Se
set_option linter.unusedVariables false
set_option linter.unusedSimpArgs false
open Go.RowKit Kb Ga Gb Gc Gd Nt Gj Cl
open Go.Proofs.Ytgidjfhlooggkaa.Fd
/-- where a list lies -/
def sa : Value → Addr
  | .slice (some a) _ _ => a
  | _ => ⟨0, 0, none⟩
/-- where a path leads: the place -/
def adr : Value → List AT → List Int → Option Addr → Option Addr
  | _, _, [], f => f
  | v, ts, p :: ps, _ => if h : idx p ts < ts.length then adr ts[idx p ts].kv ts[idx p ts].kids ps (some ((sa v).add (idx p ts * 3))) else none
set_option maxRecDepth 100000 in
set_option maxHeartbeats 1600000 in
theorem seek_at (ts : List AT) (ps : List Int) (v u : Value) (w : World) (hr : Rdn w v ts) (hp : ints w u ps) :
    Calls Try.prog 55 #[v, u] w fun e w' => ∃ q, e = .returned q ∧ Pt w' q (Fd.look ts ps none) ∧ q = .pointer (adr v ts ps none) ∧ Below w.heap.size w w' := by
  have hmf : ∀ (fn : Fn) (first cap : Array Value) (w : World), (Instr.makeFunc fn first cap).run Try.prog w = .ok (.func fn first cap) w := fun _ _ _ _ => rfl
  have HR : Hid (Rdn w v ts) := hr
  have HP : Hid (ints w u ps) := hp
  obtain ⟨o, cap, e, hN, -⟩ := hp
  obtain ⟨N, HN, hN2⟩ : ∃ N : Nat, Hid (ps.length = N) ∧ N ≤ 1048576 := ⟨_, rfl, hN⟩
  rw [HN.out] at e
  subst e
  obtain ⟨lo, lc, e, hLN, -⟩ := hr.row
  obtain ⟨LN, HLN⟩ : ∃ LN : Nat, Hid (ts.length = LN) := ⟨_, rfl⟩
  rw [HLN.out] at e
  subst e
  obtain ⟨R, HRR⟩ : ∃ R, Hid (Fd.look ts ps none = R) := ⟨_, rfl⟩
  rw [HRR.out]
  obtain ⟨RA, HRA⟩ : ∃ RA, Hid (adr (.slice lo LN lc) ts ps none = RA) := ⟨_, rfl⟩
  rw [HRA.out]
  clear hr hN
  go_enter Try.func55, Try.ntmps55
  go_wp2
  go_loopw [0, 5, 11] (fun vl vf vi wr => ∃ (i : Nat) (cts : List AT) (f : Option AT) (ad : Option Addr), i ≤ N ∧ vi = .int .i64 (i : Int) ∧ Rdn wr vl cts ∧ Pt wr vf f ∧ Hid (Fd.look cts (ps.drop i) f = R) ∧ Hid (vf = .pointer ad ∧ adr vl cts (ps.drop i) ad = RA) ∧ Below w.heap.size w wr) (fun _ _ vi _ => N - (intOf vi).toNat)
  case atStart => exact ⟨0, ts, none, none, Nat.zero_le _, rfl, HR.out, rfl, by show _ = _; rw [List.drop_zero]; exact HRR.out, ⟨rfl, by rw [List.drop_zero]; exact HRA.out⟩, Below.refl _ _⟩
  case round =>
    obtain ⟨i, cts, f, ad, hi, rfl, hl, hf, HS, HA, hwr⟩ := hrel
    rename World => wr
    have HL : Hid (Rdn wr _ cts) := hl
    obtain ⟨lo2, lc2, e2, hL2, hc2⟩ := hl.row
    obtain ⟨L2, HL2⟩ : ∃ L2 : Nat, Hid (cts.length = L2) := ⟨_, rfl⟩
    rw [HL2.out] at e2
    subst e2
    by_cases hlt : i < N
    · have hlt' : (i : Int) < (N : Int) := by omega
      have hit : i < ps.length := by rw [HN.out]; exact hlt
      obtain ⟨o', cap', e', _, hc⟩ := ints_below hwr HP.out
      obtain ⟨pa, ea, d0⟩ := hc i hit
      rw [HN.out] at e'
      obtain ⟨rfl, rfl⟩ : o = o' ∧ cap = cap' := by simpa using e'
      subst ea
      have HS2 : Fd.look cts (ps.drop i) f = if h : idx ps[i] cts < cts.length then Fd.look cts[idx ps[i] cts].kids (ps.drop (i + 1)) (some cts[idx ps[i] cts]) else none := by
        rw [List.drop_eq_getElem_cons hit]; simp only [Fd.look]
      rw [HS.out] at HS2
      have HA2 : adr (.slice lo2 L2 lc2) cts (ps.drop i) ad = if h : idx ps[i] cts < cts.length then adr cts[idx ps[i] cts].kv cts[idx ps[i] cts].kids (ps.drop (i + 1)) (some ((sa (.slice lo2 L2 lc2)).add (idx ps[i] cts * 3))) else none := by
        rw [List.drop_eq_getElem_cons hit]; simp only [adr]
      rw [HA.out.2] at HA2
      obtain ⟨T, hT⟩ : ∃ T, T = ps[i] := ⟨_, rfl⟩
      rw [← hT] at d0 HS2 HA2
      clear hT hc e' hf HS HA
      have bb := below_one wr (.cells #[.int .i64 T] 3)
      have hb1 := hwr.trans (bb.mono hwr.size)
      have n1 := h1_0 wr (.cells #[.int .i64 T] 3)
      have ci := index_any cts T (.slice lo2 L2 lc2) wr.heap.size (wr.alloc (.cells #[.int .i64 T] 3)) (HL.out.below bb) n1
      have HL3 : Hid (Rdn (wr.alloc (.cells #[.int .i64 T] 3)) (.slice lo2 L2 lc2) cts) := HL.out.below bb
      clear n1 bb HL hl hc2
      by_cases hx : idx T cts < cts.length
      · rw [dif_pos hx] at HS2 HA2
        obtain ⟨nd, hnd⟩ : ∃ nd, cts[idx T cts]'hx = nd := ⟨_, rfl⟩
        rw [hnd] at HS2 HA2
        have HS3 : Hid (Fd.look nd.kids (ps.drop (i + 1)) (some nd) = R) := HS2.symm
        rw [show idxI T cts = (idx T cts : Int) by unfold idxI; rw [if_pos hx]] at ci
        obtain ⟨J, HJ⟩ : ∃ J, Hid (idx T cts = J) := ⟨_, rfl⟩
        have hJ : J < L2 := by rw [← HJ.out, ← HL2.out]; exact hx
        have HND : Hid (∀ y, Rdn y (.slice lo2 L2 lc2) cts → ∃ a3, lo2 = some a3 ∧ y.cell? (a3.add (J * 3)) = some (.int .i64 nd.tag) ∧ y.cell? ⟨(a3.add (J * 3)).block, (a3.add (J * 3)).off + 1, none⟩ = some (.string nd.val) ∧ y.cell? ⟨(a3.add (J * 3)).block, (a3.add (J * 3)).off + 2, none⟩ = some nd.kv ∧ Rdn y nd.kv nd.kids ∧ nd.val.size ≤ 1048576 ∧ tagB nd.tag) := fun y hy => by
          obtain ⟨lo3, lc3, e3, _, hc3⟩ := hy.row
          obtain ⟨a3, ea3, q0, q1, q2⟩ := hc3 (idx T cts) hx
          have hk := rdL_at cts (idx T cts) hx hy.kids
          rw [hnd] at q0 q1 q2 hk
          rw [HJ.out] at q0 q1 q2
          obtain ⟨rfl, -⟩ : lo2 = lo3 ∧ True := by
            injection e3 with e4
            exact ⟨e4, trivial⟩
          exact ⟨a3, ea3, q0, q1, q2, hk⟩
        rw [HJ.out] at ci HA2
        replace HA2 : Hid (RA = adr nd.kv nd.kids (ps.drop (i + 1)) (some ((sa (.slice lo2 L2 lc2)).add (J * 3)))) := HA2
        clear HS2 hnd hx
        go_wp2_with fail
        generalize wr.alloc (.cells #[.int .i64 T] 3) = W1 at *
        refine ci.mono ?_
        rintro _ y ⟨rfl, hy⟩
        obtain ⟨a3, ea3, q0, q1, q2, hk, hv, ht⟩ := HND.out y (HL3.out.below hy)
        have hb2 := keepB hb1 hy
        subst ea3
        cases nd with
        | mk tag val kv ks =>
        simp only [AT.tag, AT.val, AT.kv, AT.kids] at q0 q1 q2 hk hv ht HS3 HA2
        obtain ⟨ko, kc, hkv, -⟩ := hk.row
        obtain ⟨KL, HKL⟩ : ∃ KL, Hid (ks.length = KL) := ⟨_, rfl⟩
        rw [HKL.out] at hkv
        subst hkv
        have HPT : Hid (Pt y (.pointer (some (a3.add (J * 3)))) (some (AT.mk tag val (.slice ko KL kc) ks))) := ⟨_, rfl, q0, q1, q2, hk, hv, ht⟩
        have HKK : Hid (Rdn y (.slice ko KL kc) ks) := hk
        have hJ' : (J : Int) < (L2 : Int) := by omega
        clear hk hv ht HND ci HL3 q0 q1
        go_wp2
        exact ⟨⟨i + 1, ks, _, _, by omega, by go_num, HKK.out, HPT.out, HS3, ⟨rfl, HA2.out.symm⟩, hb2⟩, by simp [intOf]; omega⟩
      · rw [dif_neg hx] at HS2 HA2
        have HS3 : Hid (R = none) := HS2
        replace HA2 : Hid (RA = none) := HA2
        rw [show idxI T cts = -1 by unfold idxI; rw [if_neg hx]] at ci
        clear HS2 hx
        go_wp2_with fail
        generalize wr.alloc (.cells #[.int .i64 T] 3) = W1 at *
        refine ci.mono ?_
        rintro _ y ⟨rfl, hy⟩
        have hb2 := keepB hb1 hy
        go_wp2
        go_ret
        exact ⟨_, rfl, by rw [HS3.out]; rfl, by rw [HA2.out]; rfl, hb2⟩
    · have HE : Hid (f = R) := by
        have := HS.out
        rw [List.drop_of_length_le (by rw [HN.out]; omega)] at this
        simp only [Fd.look] at this
        exact this
      have hlt' : ¬ (i : Int) < (N : Int) := by omega
      rw [HE.out] at hf
      have HA2 : Hid (ad = RA) := by
        have := HA.out.2
        rw [List.drop_of_length_le (by rw [HN.out]; omega)] at this
        simp only [adr] at this
        exact this
      obtain ⟨evf, -⟩ := HA.out
      rw [HA2.out] at evf
      subst evf
      clear hl hc2 HA
      have HF : Hid (Pt wr _ R) := hf
      clear hf
      go_wp2
      go_ret
      exact ⟨_, rfl, HF.out, rfl, hwr⟩
/-- the first one with a tag, changed -/
def upd (p : Int) (f : AT → AT) : List AT → List AT
  | [] => []
  | a :: ts => if a.tag = p then f a :: ts else a :: upd p f ts
def put : List AT → List Int → ByteArray → List AT
  | ts, [], _ => ts
  | ts, [p], val => upd p (fun a => .mk a.tag val a.kv a.kids) ts
  | ts, p :: q :: ps, val => upd p (fun a => .mk a.tag a.val a.kv (put a.kids (q :: ps) val)) ts
theorem idx_split (p : Int) : ∀ ts : List AT, (h : idx p ts < ts.length) → ∃ l r, ts = l ++ ts[idx p ts] :: r ∧ l.length = idx p ts ∧ ts[idx p ts].tag = p ∧ ∀ f, upd p f ts = l ++ f ts[idx p ts] :: r
  | [], h => by simp at h
  | a :: ts, h => by
    by_cases e : a.tag = p
    · have e0 : idx p (a :: ts) = 0 := by cases a; simp [idx, AT.tag] at e ⊢; simp [e]
      refine ⟨[], ts, ?_, ?_, ?_, ?_⟩
      · simp [e0]
      · simp [e0]
      · simp [e0, e]
      · intro f; simp [e0, upd, e]
    · have e0 : idx p (a :: ts) = idx p ts + 1 := by cases a; simp [idx, AT.tag] at e ⊢; simp [e]
      have h' : idx p ts < ts.length := by rw [e0] at h; simpa using h
      obtain ⟨l, r, h1, h2, h3, h4⟩ := idx_split p ts h'
      refine ⟨a :: l, r, ?_, ?_, ?_, ?_⟩
      · simp only [e0, List.getElem_cons_succ, List.cons_append]; rw [← h1]
      · rw [e0, List.length_cons, h2]
      · simp only [e0, List.getElem_cons_succ]; exact h3
      · intro f
        simp only [e0, List.getElem_cons_succ, List.cons_append, upd]
        rw [if_neg e, h4 f]
theorem ok_unapp {w : World} {base : Nat} : ∀ (a b : List AT), ok w base (a ++ b) → ok w base a ∧ ok w base b
  | [], b, h => ⟨by unfold ok; trivial, h⟩
  | .mk t v k ks :: a, b, h => by
    simp only [List.cons_append, ok] at h ⊢
    have := ok_unapp a b h.2
    exact ⟨⟨h.1, this.1⟩, this.2⟩
theorem adr_cons (v : Value) (ts : List AT) (p : Int) (ps : List Int) (f : Option Addr) : adr v ts (p :: ps) f = adr v ts (p :: ps) none := by simp only [adr]
theorem take_set' {α : Type} : ∀ (l : List α) (n i : Nat) (x : α), (l.set i x).take n = (l.take n).set i x
  | [], n, i, x => by simp
  | a :: l, 0, i, x => by simp
  | a :: l, n + 1, 0, x => by simp
  | a :: l, n + 1, i + 1, x => by simp [take_set' l n i x]
theorem cs_set (l : List AT) (t : Int) (v : ByteArray) (kv : Value) (ks : List AT) (r : List AT) (val : ByteArray) : (cs (l ++ AT.mk t v kv ks :: r)).set (l.length * 3 + 1) (.string val) = cs (l ++ AT.mk t val kv ks :: r) := by
  rw [cs_append, cs_append, List.set_append_right _ _ (by rw [cs_len]; omega), cs_len]
  rw [show l.length * 3 + 1 - l.length * 3 = 1 by omega]
  simp only [cs, List.set_cons_succ, List.set_cons_zero]
theorem put_own {w : World} {base : Nat} (val : ByteArray) (hv : val.size ≤ 1048576) : ∀ (ps : List Int) (p : Int) (ts : List AT) (v : Value) (ad : Addr), Nt.Own w base v ts → adr v ts (p :: ps) none = some ad →
    Nt.Own (w.setCell ⟨ad.block, ad.off + 1, none⟩ (.string val)) base v (put ts (p :: ps) val) ∧ ad.block ∈ v.ownBlock.toList ++ fp ts ∧ fp (put ts (p :: ps) val) = fp ts ∧ (put ts (p :: ps) val).length = ts.length := by
  intro ps
  induction ps with
  | nil =>
    intro p ts v ad h ha
    by_cases hx : idx p ts < ts.length
    case neg => simp only [adr, dif_neg hx] at ha; exact absurd ha (by simp)
    obtain ⟨l, r, h1, h2, h3, h4⟩ := idx_split p ts hx
    simp only [adr, dif_pos hx] at ha
    have hp : put ts [p] val = l ++ AT.mk ts[idx p ts].tag val ts[idx p ts].kv ts[idx p ts].kids :: r := by
      show upd p _ ts = _
      rw [h4]
    generalize ts[idx p ts] = a at *
    cases a with
    | mk t v0 kv ks =>
    simp only [AT.tag, AT.kv, AT.kids] at hp h3
    rcases h.row.2 with ⟨_, hz⟩ | ⟨g, cap, cur, rfl, hb, hg, hn, hm, hs, ht⟩
    · rw [hz] at hx; omega
    have e0 : ad = ⟨g, l.length * 3, none⟩ := by
      have : (sa (.slice (some ⟨g, 0, none⟩) ts.length cap)).add (idx p ts * 3) = ad := by injection ha
      rw [← this, h2]
      exact add0 g _
    subst e0
    have ap := List.nodup_append.1 h.apart
    have ne : ∀ b ∈ fp ts, b ≠ g := fun b hb e => ap.2.2 g (by simp [Value.ownBlock]) b hb e.symm
    have ho := ok_keep (w' := w.setCell ⟨g, l.length * 3 + 1, none⟩ (.string val)) ts (fun b hb => setCell_ne (fun e => ne b hb e.symm) _ _) h.kids
    have hln : (put ts [p] val).length = ts.length := by rw [hp, h1]; simp
    have hfp : fp (put ts [p] val) = fp ts := by
      rw [hp]
      conv => rhs; rw [h1]
      rw [fp_append, fp_append]
      simp only [fp]
    refine ⟨⟨?_, ?_, ?_, by rw [hln]; exact h.few⟩, by simp [Value.ownBlock], hfp, hln⟩
    · rw [hln]
      refine ⟨by rw [cs_len, hln], .inr ⟨g, cap, cur.setIfInBounds (l.length * 3 + 1) (.string val), rfl, hb, Gd.setCell_heap hg _ _, hn, hm, by rw [Array.size_setIfInBounds]; exact hs, ?_⟩⟩
      rw [Array.toList_setIfInBounds, take_set', ht, hp]
      conv => lhs; rw [h1]
      exact cs_set l t v0 kv ks r val
    · rw [hp]
      rw [h1] at ho
      obtain ⟨o1, o2⟩ := ok_unapp _ _ ho
      refine ok_append _ _ o1 ?_
      unfold ok at o2 ⊢
      exact ⟨⟨o2.1.1, o2.1.2.1, hv, o2.1.2.2.2⟩, o2.2⟩
    · rw [hfp]; exact h.apart
  | cons q ps ih =>
    intro p ts v ad h ha
    by_cases hx : idx p ts < ts.length
    case neg => simp only [adr, dif_neg hx] at ha; exact absurd ha (by simp)
    obtain ⟨l, r, h1, h2, h3, h4⟩ := idx_split p ts hx
    have ha2 : adr ts[idx p ts].kv ts[idx p ts].kids (q :: ps) none = some ad := by
      rw [← ha]
      conv => rhs; rw [adr, dif_pos hx]
      exact (adr_cons _ _ _ _ _).symm
    have hp : put ts (p :: q :: ps) val = l ++ AT.mk ts[idx p ts].tag ts[idx p ts].val ts[idx p ts].kv (put ts[idx p ts].kids (q :: ps) val) :: r := by
      show upd p _ ts = _
      rw [h4]
    generalize ts[idx p ts] = a at *
    cases a with
    | mk t v0 kv ks =>
    simp only [AT.tag, AT.kv, AT.kids, AT.val] at hp h3 ha2
    have hk := h.kids
    rw [h1] at hk
    obtain ⟨o1, o2⟩ := ok_unapp _ _ hk
    unfold ok at o2
    have ap := h.apart
    rw [h1, fp_append] at ap
    simp only [fp] at ap
    have hso : Nt.Own w base kv ks := by
      refine ⟨o2.1.1, o2.1.2.1, ?_, o2.1.2.2.2.2⟩
      have a1 := (List.nodup_append.1 ap).2.1
      have a2 := (List.nodup_append.1 a1).2.1
      exact (List.nodup_append.1 a2).1
    obtain ⟨i1, i2, i3, i4⟩ := ih q ks kv ad hso ha2
    have hln : (put ts (p :: q :: ps) val).length = ts.length := by rw [hp, h1]; simp
    have hfp : fp (put ts (p :: q :: ps) val) = fp ts := by
      rw [hp]
      conv => rhs; rw [h1]
      rw [fp_append, fp_append]
      simp only [fp, i3]
    have hcs : cs (put ts (p :: q :: ps) val) = cs ts := by
      rw [hp]
      conv => rhs; rw [h1]
      rw [cs_append, cs_append]
      simp only [cs]
    have hin : ad.block ∈ fp ts := by
      rw [h1, fp_append]
      simp only [fp]
      exact List.mem_append_right _ (List.mem_append_left _ i2)
    have n1 := List.nodup_append.1 ap
    have n2 := List.nodup_append.1 n1.2.1
    have n3 := List.nodup_append.1 n2.2.1
    have kl : ∀ b ∈ fp l, (w.setCell ⟨ad.block, ad.off + 1, none⟩ (.string val)).heap[b]? = w.heap[b]? := fun b hb => setCell_ne (fun e => n2.2.2 b hb ad.block (List.mem_append_left _ i2) e.symm) _ _
    have kr : ∀ b ∈ fp r, (w.setCell ⟨ad.block, ad.off + 1, none⟩ (.string val)).heap[b]? = w.heap[b]? := fun b hb => setCell_ne (fun e => n3.2.2 ad.block i2 b hb e) _ _
    have kv0 : ∀ b, v.ownBlock = some b → (w.setCell ⟨ad.block, ad.off + 1, none⟩ (.string val)).heap[b]? = w.heap[b]? := fun b hb => setCell_ne (fun e => n1.2.2 b (by simp [hb]) ad.block (List.mem_append_right _ (List.mem_append_left _ i2)) e.symm) _ _
    refine ⟨⟨?_, ?_, ?_, by rw [hln]; exact h.few⟩, List.mem_append_right _ hin, hfp, hln⟩
    · rw [hln, hcs]
      exact owns_keep h.row kv0
    · rw [hp]
      refine ok_append _ _ (ok_keep l kl o1) ?_
      unfold ok
      exact ⟨⟨i1.row, i1.kids, o2.1.2.2.1, o2.1.2.2.2.1, by rw [i4]; exact o2.1.2.2.2.2⟩, ok_keep r kr o2.2⟩
    · rw [hfp]; exact h.apart
/-- the same without places -/
def er1 : AT → Tr
  | .mk t v _ ks => .mk t v (er ks)
def ttag : Tr → Int
  | .mk t _ _ => t
def tval : Tr → ByteArray
  | .mk _ v _ => v
def tkids : Tr → List Tr
  | .mk _ _ ks => ks
theorem er_cons (a : AT) (ts : List AT) : er (a :: ts) = er1 a :: er ts := by cases a; simp only [er, er1]
def fstT (p : Int) : List Tr → Option Tr
  | [] => none
  | a :: ts => if ttag a = p then some a else fstT p ts
def lkT : List Tr → List Int → Option Tr → Option Tr
  | _, [], f => f
  | ts, p :: ps, _ => match fstT p ts with
    | none => none
    | some a => lkT (tkids a) ps (some a)
def updT (p : Int) (f : Tr → Tr) : List Tr → List Tr
  | [] => []
  | a :: ts => if ttag a = p then f a :: ts else a :: updT p f ts
def ptT : List Tr → List Int → ByteArray → List Tr
  | ts, [], _ => ts
  | ts, [p], val => updT p (fun a => .mk (ttag a) val (tkids a)) ts
  | ts, p :: q :: ps, val => updT p (fun a => .mk (ttag a) (tval a) (ptT (tkids a) (q :: ps) val)) ts
theorem fst_er (p : Int) : ∀ ts : List AT, fstT p (er ts) = if h : idx p ts < ts.length then some (er1 ts[idx p ts]) else none
  | [] => by simp [er, fstT]
  | a :: ts => by
    have ih := fst_er p ts
    rw [er_cons]
    have et : ttag (er1 a) = a.tag := by cases a; rfl
    by_cases e : a.tag = p
    · have e0 : idx p (a :: ts) = 0 := by simp [idx, e]
      simp only [fstT, et, e, if_true, e0, List.length_cons, Nat.zero_lt_succ, dif_pos, List.getElem_cons_zero]
    · have e0 : idx p (a :: ts) = idx p ts + 1 := by simp [idx, e]
      simp only [fstT, et, e, if_false, e0, List.length_cons, List.getElem_cons_succ, ih, Nat.add_lt_add_iff_right]
theorem look_er : ∀ (ps : List Int) (ts : List AT) (f : Option AT), (Fd.look ts ps f).map er1 = lkT (er ts) ps (f.map er1)
  | [], ts, f => by simp only [Fd.look, lkT]
  | p :: ps, ts, f => by
    simp only [Fd.look, lkT, fst_er]
    by_cases h : idx p ts < ts.length
    · rw [dif_pos h, dif_pos h]
      simp only
      rw [look_er ps]
      congr 1
      generalize ts[idx p ts] = a
      cases a
      rfl
    · rw [dif_neg h, dif_neg h]
      rfl
theorem upd_er (p : Int) (f : AT → AT) (g : Tr → Tr) (h : ∀ a, er1 (f a) = g (er1 a)) : ∀ ts, er (upd p f ts) = updT p g (er ts)
  | [] => by simp [upd, er, updT]
  | a :: ts => by
    have et : ttag (er1 a) = a.tag := by cases a; rfl
    simp only [upd, er_cons, updT, et]
    split
    · rw [er_cons, h]
    · rw [er_cons, upd_er p f g h ts]
theorem put_er (val : ByteArray) : ∀ (ps : List Int) (ts : List AT), er (put ts ps val) = ptT (er ts) ps val
  | [], ts => rfl
  | [p], ts => upd_er p _ _ (fun a => by cases a; rfl) ts
  | p :: q :: ps, ts => by
    show er (upd p _ ts) = updT p _ (er ts)
    refine upd_er p _ _ (fun a => ?_) ts
    cases a with
    | mk t v kv ks =>
    simp only [er1, AT.tag, AT.val, AT.kv, AT.kids, ttag, tval, tkids, put_er val (q :: ps) ks]
theorem fst_upd (p : Int) (f : Tr → Tr) (hf : ∀ a, ttag (f a) = ttag a) : ∀ ts, fstT p (updT p f ts) = (fstT p ts).map f
  | [] => rfl
  | a :: ts => by
    simp only [updT, fstT]
    split
    · rename_i h; simp [fstT, hf, h]
    · rename_i h; simp [fstT, h, fst_upd p f hf ts]
theorem upd_upd (p : Int) (f g : Tr → Tr) (hf : ∀ a, ttag (f a) = ttag a) : ∀ ts, updT p g (updT p f ts) = updT p (fun a => g (f a)) ts
  | [] => rfl
  | a :: ts => by
    simp only [updT]
    split
    · rename_i h; simp [updT, hf, h]
    · rename_i h; simp [updT, h, upd_upd p f g hf ts]
theorem upd_id (p : Int) (f : Tr → Tr) : ∀ ts, (∀ a, fstT p ts = some a → f a = a) → updT p f ts = ts
  | [], _ => rfl
  | a :: ts, h => by
    simp only [updT]
    split
    · rename_i e; rw [h a (by simp [fstT, e])]
    · rename_i e; rw [upd_id p f ts (fun b hb => h b (by simp [fstT, e, hb]))]
theorem lk_put (val : ByteArray) : ∀ (ps : List Int) (p : Int) (ts : List Tr) (f : Option Tr) (a : Tr), lkT ts (p :: ps) f = some a → lkT (ptT ts (p :: ps) val) (p :: ps) f = some (.mk (ttag a) val (tkids a)) ∧ ptT (ptT ts (p :: ps) val) (p :: ps) (tval a) = ts
  | [], p, ts, f, a, h => by
    simp only [lkT] at h
    cases e : fstT p ts with
    | none => rw [e] at h; exact absurd h (by simp)
    | some b =>
      rw [e] at h
      simp only [lkT, Option.some.injEq] at h
      subst h
      refine ⟨?_, ?_⟩
      · show lkT (updT p _ ts) [p] f = _
        simp only [lkT]
        rw [fst_upd p (fun a => Tr.mk (ttag a) val (tkids a)) (fun a => rfl), e]
        rfl
      · show updT p _ (updT p _ ts) = ts
        rw [upd_upd p (fun a => Tr.mk (ttag a) val (tkids a)) _ (fun a => rfl)]
        refine upd_id p _ ts (fun c hc => ?_)
        rw [e] at hc
        cases hc
        cases b
        rfl
  | q :: ps, p, ts, f, a, h => by
    simp only [lkT] at h
    cases e : fstT p ts with
    | none => rw [e] at h; exact absurd h (by simp)
    | some b =>
      rw [e] at h
      simp only at h
      have ih := lk_put val ps q (tkids b) (some b) a (by simpa only [lkT] using h)
      refine ⟨?_, ?_⟩
      · show lkT (updT p _ ts) (p :: q :: ps) f = _
        conv => lhs; unfold lkT
        rw [fst_upd p (fun a => Tr.mk (ttag a) (tval a) (ptT (tkids a) (q :: ps) val)) (fun a => rfl), e]
        have := ih.1
        simp only [Option.map_some]
        show lkT (ptT (tkids b) (q :: ps) val) (q :: ps) (some _) = _
        rw [← this]
        simp only [lkT]
      · show updT p _ (updT p _ ts) = ts
        rw [upd_upd p (fun a => Tr.mk (ttag a) (tval a) (ptT (tkids a) (q :: ps) val)) _ (fun a => rfl)]
        refine upd_id p _ ts (fun c hc => ?_)
        rw [e] at hc
        cases hc
        cases b with
        | mk t v ks =>
        simp only [ttag, tval, tkids] at ih ⊢
        rw [ih.2]
theorem fst_tag (p : Int) : ∀ (ts : List Tr) (a : Tr), fstT p ts = some a → ttag a = p ∧ a ∈ ts
  | [], a, h => by simp [fstT] at h
  | b :: ts, a, h => by
    simp only [fstT] at h
    split at h
    · rename_i e; cases h; exact ⟨e, by simp⟩
    · have := fst_tag p ts a h; exact ⟨this.1, by simp [this.2]⟩
theorem lk_last : ∀ (ps : List Int) (p : Int) (ts : List Tr) (f : Option Tr) (a : Tr), lkT ts (p :: ps) f = some a → (p :: ps).getLast (by simp) = ttag a
  | [], p, ts, f, a, h => by
    simp only [lkT] at h
    cases e : fstT p ts with
    | none => rw [e] at h; exact absurd h (by simp)
    | some b =>
      rw [e] at h
      simp only [lkT, Option.some.injEq] at h
      subst h
      exact (fst_tag p ts b e).1.symm
  | q :: ps, p, ts, f, a, h => by
    simp only [lkT] at h
    cases e : fstT p ts with
    | none => rw [e] at h; exact absurd h (by simp)
    | some b =>
      rw [e] at h
      have := lk_last ps q (tkids b) (some b) a (by simpa only [lkT] using h)
      rw [List.getLast_cons (by simp)]
      exact this
theorem good_mem : ∀ (d : Nat) (ts : List Tr) (a : Tr), Ag.good d ts → a ∈ ts → (if mkd (ttag a) then (tval a).size = 0 ∧ Ag.good (d + 1) (tkids a) else 0 < tgS (ttag a) ∧ tkids a = [])
  | d, [], a, _, h => by simp at h
  | d, .mk t v ks :: ts, a, h, hm => by
    unfold Ag.good at h
    rcases List.mem_cons.1 hm with rfl | hm
    · exact h.1.2
    · exact good_mem d ts a h.2 hm
theorem lk_good : ∀ (ps : List Int) (p : Int) (d : Nat) (ts : List Tr) (f : Option Tr) (a : Tr), Ag.good d ts → lkT ts (p :: ps) f = some a → mkd (ttag a) = false → tkids a = []
  | [], p, d, ts, f, a, hg, h, hm => by
    simp only [lkT] at h
    cases e : fstT p ts with
    | none => rw [e] at h; exact absurd h (by simp)
    | some b =>
      rw [e] at h
      simp only [lkT, Option.some.injEq] at h
      subst h
      have := good_mem d ts b hg (fst_tag p ts b e).2
      rw [if_neg (by rw [hm]; simp)] at this
      exact this.2
  | q :: ps, p, d, ts, f, a, hg, h, hm => by
    simp only [lkT] at h
    cases e : fstT p ts with
    | none => rw [e] at h; exact absurd h (by simp)
    | some b =>
      rw [e] at h
      have hb := good_mem d ts b hg (fst_tag p ts b e).2
      have hgk : Ag.good (d + 1) (tkids b) := by
        split at hb
        · exact hb.2
        · rw [hb.2]; unfold Ag.good; trivial
      exact lk_good ps q (d + 1) (tkids b) (some b) a hgk (by simpa only [lkT] using h) hm
theorem fst_mem (p : Int) : ∀ (ts : List AT) (a : AT), a ∈ ts → a.tag = p → idx p ts < ts.length
  | [], a, h, _ => by simp at h
  | b :: ts, a, h, e => by
    simp only [idx, List.length_cons]
    split
    · omega
    · rename_i hb
      rcases List.mem_cons.1 h with rfl | h
      · exact absurd e hb
      · have := fst_mem p ts a h e; omega
end Go.Proofs.Ytgidjfhlooggkaa.Se
