/- Along a path of tags. -/
import Derived.Test.YtgidjfhlooggkaaCl
import Derived.Test.YtgidjfhlooggkaaGo
namespace Go.Proofs.Ytgidjfhlooggkaa.Fd
set_option linter.unusedVariables false
set_option linter.unusedSimpArgs false
open Go.RowKit Kb Ga Gb Gc Nt Gj Cl
set_option maxRecDepth 100000 in
theorem is_any (tag T : Int) (val : ByteArray) (o : Option Addr) (kl kc tb : Nat) (w : World) (htb : w.heap[tb]? = some (.cells #[.int .i64 T] 3)) :
    Calls Try.prog 86 #[.agg #[.int .i64 tag, .string val, .slice o kl kc], .pointer (some ⟨tb, 0, none⟩)] w fun e w' => e = .returned (.bool (tag == T)) ∧ Below w.heap.size w w' := by
  have B0 := below_one w (.cells #[.int .i64 tag, .string val, .slice o kl kc] 40)
  have h0 := h1_0 w (.cells #[.int .i64 tag, .string val, .slice o kl kc] 40)
  have c1 := (Gn.cell1 (kept B0 htb)).1
  go_enter Try.func86, Try.ntmps86
  go_wp2
  go_ret
  exact ⟨rfl, B0⟩
/-- the place of the first one with a tag -/
def idx (T : Int) : List AT → Nat
  | [] => 0
  | a :: ts => if a.tag = T then 0 else idx T ts + 1
theorem idx_le (T : Int) : ∀ ts, idx T ts ≤ ts.length
  | [] => by simp [idx]
  | a :: ts => by have := idx_le T ts; simp only [idx, List.length_cons]; split <;> omega
theorem idx_hit (T : Int) : ∀ (ts : List AT) (i : Nat) (h : i < ts.length), i ≤ idx T ts → ts[i].tag = T → idx T ts = i
  | [], i, h, _, _ => by simp at h
  | a :: ts, 0, h, _, he => by simp only [List.getElem_cons_zero] at he; simp only [idx]; rw [if_pos he]
  | a :: ts, i + 1, h, hi, he => by
    simp only [idx] at hi ⊢
    split at hi
    · omega
    · rename_i hn
      rw [if_neg hn, idx_hit T ts i (by simpa using h) (by omega) (by simpa using he)]
theorem idx_miss (T : Int) : ∀ (ts : List AT) (i : Nat) (h : i < ts.length), i ≤ idx T ts → ts[i].tag ≠ T → i + 1 ≤ idx T ts
  | [], i, h, _, _ => by simp at h
  | a :: ts, 0, h, _, he => by simp only [List.getElem_cons_zero] at he; simp only [idx]; rw [if_neg he]; omega
  | a :: ts, i + 1, h, hi, he => by
    simp only [idx] at hi ⊢
    split at hi
    · omega
    · rename_i hn
      rw [if_neg hn]
      have := idx_miss T ts i (by simpa using h) (by omega) (by simpa using he)
      omega
theorem idx_at (T : Int) : ∀ (ts : List AT) (h : idx T ts < ts.length), ts[idx T ts].tag = T
  | [], h => by simp [idx] at h
  | a :: ts, h => by
    by_cases e : a.tag = T
    · have : idx T (a :: ts) = 0 := by simp only [idx]; rw [if_pos e]
      simp only [this, List.getElem_cons_zero]; exact e
    · have h2 : idx T (a :: ts) = idx T ts + 1 := by simp only [idx]; rw [if_neg e]
      simp only [h2, List.getElem_cons_succ]
      exact idx_at T ts (by rw [h2] at h; simpa using h)
def idxI (T : Int) (ts : List AT) : Int := if idx T ts < ts.length then (idx T ts : Int) else -1
set_option maxRecDepth 100000 in
set_option maxHeartbeats 1600000 in
theorem index_any (ts : List AT) (T : Int) (v : Value) (tb : Nat) (w : World) (hr : Rdn w v ts) (htb : w.heap[tb]? = some (.cells #[.int .i64 T] 3)) :
    Calls Try.prog 85 #[v, .func (.func 86) #[] #[.pointer (some ⟨tb, 0, none⟩)]] w fun e w' => e = .returned (.int .i64 (idxI T ts)) ∧ Below w.heap.size w w' := by
  have HR : Hid (Rdn w v ts) := hr
  obtain ⟨o, cap, e, hN, -⟩ := hr.row
  obtain ⟨N, HN, hN2⟩ : ∃ N : Nat, Hid (ts.length = N) ∧ N ≤ 1048576 := ⟨_, rfl, hN⟩
  rw [HN.out] at e
  subst e
  obtain ⟨R, HRR⟩ : ∃ R, Hid (idxI T ts = R) := ⟨_, rfl⟩
  rw [HRR.out]
  have HTB : Hid (w.heap[tb]? = some (.cells #[.int .i64 T] 3)) := htb
  clear hr hN htb
  go_enter Try.func85, Try.ntmps85
  go_wp2
  go_loopw [8] (fun vi wr => ∃ (i : Nat), i ≤ N ∧ vi = .int .i64 (i : Int) ∧ Hid (i ≤ idx T ts) ∧ Below w.heap.size w wr) (fun vi _ => N - (intOf vi).toNat)
  case atStart => exact ⟨0, Nat.zero_le _, rfl, Nat.zero_le _, Below.refl _ _⟩
  case round =>
    obtain ⟨i, hi, rfl, HS, hwr⟩ := hrel
    rename World => wr
    by_cases hlt : i < N
    · have hlt' : (i : Int) < (N : Int) := by omega
      have hit : i < ts.length := by rw [HN.out]; exact hlt
      obtain ⟨o', cap', e', _, hc⟩ := (HR.out.below hwr).row
      obtain ⟨a, ea, d0, d1, d2⟩ := hc i hit
      rw [HN.out] at e'
      obtain ⟨rfl, rfl⟩ : o = o' ∧ cap = cap' := by simpa using e'
      subst ea
      have hk := rdL_at ts i hit HR.out.kids
      have HG := idx_miss T ts i hit HS.out
      have HB := idx_hit T ts i hit HS.out
      clear hc e'
      obtain ⟨nd, hnd⟩ : ∃ nd, nd = ts[i] := ⟨_, rfl⟩
      rw [← hnd] at d0 d1 d2 hk HG HB
      clear hnd
      cases nd with
      | mk tag val kv ks =>
      simp only [AT.tag, AT.val, AT.kv, AT.kids] at d0 d1 d2 hk HG HB
      obtain ⟨ko, kc, hkv, hkl, -⟩ := hk.1.row
      obtain ⟨KL, HKL⟩ : ∃ KL, Hid (ks.length = KL) := ⟨_, rfl⟩
      rw [HKL.out] at hkv
      subst hkv
      have cc := is_any tag T val ko KL kc tb wr (kept hwr HTB.out)
      clear hk HKL
      by_cases he : tag = T
      · have HE : Hid (R = (i : Int)) := by
          have := HB he
          show _ = _; rw [← HRR.out]; unfold idxI; rw [this, if_pos (by rw [HN.out]; exact hlt)]
        rw [show (tag == T) = true by simp [he]] at cc
        clear HG HB he
        go_wp2_with fail
        refine cc.mono ?_
        rintro _ y ⟨rfl, hy⟩
        go_wp2
        go_ret
        exact ⟨by rw [HE.out]; rfl, keepB hwr hy⟩
      · have HE : Hid (i + 1 ≤ idx T ts) := HG he
        rw [show (tag == T) = false by simp [he]] at cc
        clear HG HB he
        go_wp2_with fail
        refine cc.mono ?_
        rintro _ y ⟨rfl, hy⟩
        have hb2 := keepB hwr hy
        go_wp2
        exact ⟨⟨i + 1, by omega, by go_num, HE, hb2⟩, by simp [intOf]; omega⟩
    · have HE : Hid (R = -1) := by
        have := HS.out
        show _ = _; rw [← HRR.out]; unfold idxI; rw [if_neg (by rw [HN.out]; omega)]
      have hlt' : ¬ (i : Int) < (N : Int) := by omega
      go_wp2
      go_ret
      exact ⟨by rw [HE.out]; rfl, hwr⟩
/-- numbers in a row that can be read -/
def ints (w : World) (v : Value) (ps : List Int) : Prop := ∃ (o : Option Addr) (cap : Nat), v = .slice o ps.length cap ∧ ps.length ≤ 1048576 ∧ ∀ i (h : i < ps.length), ∃ a, o = some a ∧ w.cell? (a.add i) = some (.int .i64 ps[i])
theorem ints_below {w x : World} {v : Value} {ps : List Int} (hb : Below w.heap.size w x) (h : ints w v ps) : ints x v ps := by
  obtain ⟨o, cap, e, hl, hc⟩ := h
  refine ⟨o, cap, e, hl, fun i hi => ?_⟩
  obtain ⟨a, ea, h0⟩ := hc i hi
  exact ⟨a, ea, (hb.cell (World.block_lt_of_cell? w _ h0)).trans h0⟩
/-- where a path leads -/
def look : List AT → List Int → Option AT → Option AT
  | _, [], f => f
  | ts, p :: ps, _ => if h : idx p ts < ts.length then look ts[idx p ts].kids ps (some ts[idx p ts]) else none
/-- the value is where this node lies -/
def Pt (w : World) (v : Value) : Option AT → Prop
  | none => v = .pointer none
  | some a => ∃ p : Addr, v = .pointer (some p) ∧ w.cell? p = some (.int .i64 a.tag) ∧ w.cell? ⟨p.block, p.off + 1, none⟩ = some (.string a.val) ∧ w.cell? ⟨p.block, p.off + 2, none⟩ = some a.kv ∧ Rdn w a.kv a.kids ∧ a.val.size ≤ 1048576 ∧ tagB a.tag
theorem pt_below {w x : World} {v : Value} : ∀ {f : Option AT}, Below w.heap.size w x → Pt w v f → Pt x v f
  | none, hb, h => h
  | some a, hb, ⟨p, e, h0, h1, h2, h3, h4⟩ => by
    have c := fun {q : Addr} {v : Value} (hc : w.cell? q = some v) => (hb.cell (World.block_lt_of_cell? w _ hc)).trans hc
    exact ⟨p, e, c h0, c h1, c h2, h3.below hb, h4⟩
set_option maxRecDepth 100000 in
set_option maxHeartbeats 1600000 in
theorem seek_any (ts : List AT) (ps : List Int) (v u : Value) (w : World) (hr : Rdn w v ts) (hp : ints w u ps) :
    Calls Try.prog 55 #[v, u] w fun e w' => ∃ q, e = .returned q ∧ Pt w' q (look ts ps none) ∧ Below w.heap.size w w' := by
  have hmf : ∀ (fn : Fn) (first cap : Array Value) (w : World), (Instr.makeFunc fn first cap).run Try.prog w = .ok (.func fn first cap) w := fun _ _ _ _ => rfl
  have HR : Hid (Rdn w v ts) := hr
  have HP : Hid (ints w u ps) := hp
  obtain ⟨o, cap, e, hN, -⟩ := hp
  obtain ⟨N, HN, hN2⟩ : ∃ N : Nat, Hid (ps.length = N) ∧ N ≤ 1048576 := ⟨_, rfl, hN⟩
  rw [HN.out] at e
  subst e
  obtain ⟨lo, lc, e, hLN, -⟩ := hr.row
  obtain ⟨LN, HLN⟩ : ∃ LN : Nat, Hid (ts.length = LN) := ⟨_, rfl⟩
  rw [HLN.out] at e
  subst e
  obtain ⟨R, HRR⟩ : ∃ R, Hid (look ts ps none = R) := ⟨_, rfl⟩
  rw [HRR.out]
  clear hr hN
  go_enter Try.func55, Try.ntmps55
  go_wp2
  go_loopw [0, 5, 11] (fun vl vf vi wr => ∃ (i : Nat) (cts : List AT) (f : Option AT), i ≤ N ∧ vi = .int .i64 (i : Int) ∧ Rdn wr vl cts ∧ Pt wr vf f ∧ Hid (look cts (ps.drop i) f = R) ∧ Below w.heap.size w wr) (fun _ _ vi _ => N - (intOf vi).toNat)
  case atStart => exact ⟨0, ts, none, Nat.zero_le _, rfl, HR.out, rfl, by show _ = _; rw [List.drop_zero]; exact HRR.out, Below.refl _ _⟩
  case round =>
    obtain ⟨i, cts, f, hi, rfl, hl, hf, HS, hwr⟩ := hrel
    rename World => wr
    have HL : Hid (Rdn wr _ cts) := hl
    obtain ⟨lo2, lc2, e2, hL2, hc2⟩ := hl.row
    obtain ⟨L2, HL2⟩ : ∃ L2 : Nat, Hid (cts.length = L2) := ⟨_, rfl⟩
    rw [HL2.out] at e2
    subst e2
    by_cases hlt : i < N
    · have hlt' : (i : Int) < (N : Int) := by omega
      have hit : i < ps.length := by rw [HN.out]; exact hlt
      obtain ⟨o', cap', e', _, hc⟩ := ints_below hwr HP.out
      obtain ⟨pa, ea, d0⟩ := hc i hit
      rw [HN.out] at e'
      obtain ⟨rfl, rfl⟩ : o = o' ∧ cap = cap' := by simpa using e'
      subst ea
      have HS2 : look cts (ps.drop i) f = if h : idx ps[i] cts < cts.length then look cts[idx ps[i] cts].kids (ps.drop (i + 1)) (some cts[idx ps[i] cts]) else none := by
        rw [List.drop_eq_getElem_cons hit]; simp only [look]
      rw [HS.out] at HS2
      obtain ⟨T, hT⟩ : ∃ T, T = ps[i] := ⟨_, rfl⟩
      rw [← hT] at d0 HS2
      clear hT hc e' hf HS
      have bb := below_one wr (.cells #[.int .i64 T] 3)
      have hb1 := hwr.trans (bb.mono hwr.size)
      have n1 := h1_0 wr (.cells #[.int .i64 T] 3)
      have ci := index_any cts T (.slice lo2 L2 lc2) wr.heap.size (wr.alloc (.cells #[.int .i64 T] 3)) (HL.out.below bb) n1
      have HL3 : Hid (Rdn (wr.alloc (.cells #[.int .i64 T] 3)) (.slice lo2 L2 lc2) cts) := HL.out.below bb
      clear n1 bb HL hl hc2
      by_cases hx : idx T cts < cts.length
      · rw [dif_pos hx] at HS2
        obtain ⟨nd, hnd⟩ : ∃ nd, cts[idx T cts]'hx = nd := ⟨_, rfl⟩
        rw [hnd] at HS2
        have HS3 : Hid (look nd.kids (ps.drop (i + 1)) (some nd) = R) := HS2.symm
        rw [show idxI T cts = (idx T cts : Int) by unfold idxI; rw [if_pos hx]] at ci
        obtain ⟨J, HJ⟩ : ∃ J, Hid (idx T cts = J) := ⟨_, rfl⟩
        have hJ : J < L2 := by rw [← HJ.out, ← HL2.out]; exact hx
        have HND : Hid (∀ y, Rdn y (.slice lo2 L2 lc2) cts → ∃ a3, lo2 = some a3 ∧ y.cell? (a3.add (J * 3)) = some (.int .i64 nd.tag) ∧ y.cell? ⟨(a3.add (J * 3)).block, (a3.add (J * 3)).off + 1, none⟩ = some (.string nd.val) ∧ y.cell? ⟨(a3.add (J * 3)).block, (a3.add (J * 3)).off + 2, none⟩ = some nd.kv ∧ Rdn y nd.kv nd.kids ∧ nd.val.size ≤ 1048576 ∧ tagB nd.tag) := fun y hy => by
          obtain ⟨lo3, lc3, e3, _, hc3⟩ := hy.row
          obtain ⟨a3, ea3, q0, q1, q2⟩ := hc3 (idx T cts) hx
          have hk := rdL_at cts (idx T cts) hx hy.kids
          rw [hnd] at q0 q1 q2 hk
          rw [HJ.out] at q0 q1 q2
          obtain ⟨rfl, -⟩ : lo2 = lo3 ∧ True := by
            injection e3 with e4
            exact ⟨e4, trivial⟩
          exact ⟨a3, ea3, q0, q1, q2, hk⟩
        rw [HJ.out] at ci
        clear HS2 hnd hx
        go_wp2_with fail
        generalize wr.alloc (.cells #[.int .i64 T] 3) = W1 at *
        refine ci.mono ?_
        rintro _ y ⟨rfl, hy⟩
        obtain ⟨a3, ea3, q0, q1, q2, hk, hv, ht⟩ := HND.out y (HL3.out.below hy)
        have hb2 := keepB hb1 hy
        subst ea3
        cases nd with
        | mk tag val kv ks =>
        simp only [AT.tag, AT.val, AT.kv, AT.kids] at q0 q1 q2 hk hv ht HS3
        obtain ⟨ko, kc, hkv, -⟩ := hk.row
        obtain ⟨KL, HKL⟩ : ∃ KL, Hid (ks.length = KL) := ⟨_, rfl⟩
        rw [HKL.out] at hkv
        subst hkv
        have HPT : Hid (Pt y (.pointer (some (a3.add (J * 3)))) (some (AT.mk tag val (.slice ko KL kc) ks))) := ⟨_, rfl, q0, q1, q2, hk, hv, ht⟩
        have HKK : Hid (Rdn y (.slice ko KL kc) ks) := hk
        have hJ' : (J : Int) < (L2 : Int) := by omega
        clear hk hv ht HND ci HL3 q0 q1
        go_wp2
        exact ⟨⟨i + 1, ks, _, by omega, by go_num, HKK.out, HPT.out, HS3, hb2⟩, by simp [intOf]; omega⟩
      · rw [dif_neg hx] at HS2
        have HS3 : Hid (R = none) := HS2
        rw [show idxI T cts = -1 by unfold idxI; rw [if_neg hx]] at ci
        clear HS2 hx
        go_wp2_with fail
        generalize wr.alloc (.cells #[.int .i64 T] 3) = W1 at *
        refine ci.mono ?_
        rintro _ y ⟨rfl, hy⟩
        have hb2 := keepB hb1 hy
        go_wp2
        go_ret
        exact ⟨_, rfl, by rw [HS3.out]; rfl, hb2⟩
    · have HE : Hid (f = R) := by
        have := HS.out
        rw [List.drop_of_length_le (by rw [HN.out]; omega)] at this
        simp only [look] at this
        exact this
      have hlt' : ¬ (i : Int) < (N : Int) := by omega
      rw [HE.out] at hf
      clear hl hc2
      have HF : Hid (Pt wr _ R) := hf
      clear hf
      go_wp2
      go_ret
      exact ⟨_, rfl, HF.out, hwr⟩
theorem res_row_tmp {P : Program} {fn : Func} {p u : Tmp} {ty : TypeId} (h : fn.results = #[.cell p ty, .tmp u]) (tmps : Array Value) (w : World) (g : Nat) (t : TypeId) (cs : Array Value) (fr : Nat × Nat) (d : TypeDesc)
    (hp : tmps.getD p undef = .pointer (some ⟨g, 0, none⟩)) (hg : w.heap[g]? = some (.cells cs t fr))
    (hu : P.underlying ty = some d) (hd : (match d with | .struct _ | .array _ _ => true | _ => false) = true) (hi : (P.info? ty).map (·.size) = some cs.size) :
    (results fn tmps).run P w = .ok (.tuple #[.agg cs, tmps.getD u undef]) w := by
  have hl := run_loadVar_row (P := P) w g t ty cs fr d hg hu hd hi
  simp only [results, h]
  simp only [Array.getD_eq_getD_getElem?] at hp
  simp [Result.andThen, hp, asAddr, hl]
set_option maxRecDepth 100000 in
set_option maxHeartbeats 1600000 in
theorem find_any (ts : List AT) (ps : List Int) (v u : Value) (w : World) (hr : Rdn w v ts) (hp : ints w u ps) :
    Calls Try.prog 28 #[v, u] w fun e w' => Below w.heap.size w w' ∧ match look ts ps none with
      | none => e = .returned (.tuple #[.agg zn, .bool false])
      | some a => ∃ kv' aks, e = .returned (.tuple #[.agg #[.int .i64 a.tag, .string a.val, kv'], .bool true]) ∧ er aks = er a.kids ∧ Own w' w.heap.size kv' aks := by
  have hp2 := hp
  obtain ⟨o, cap, e, hN, -⟩ := hp2
  obtain ⟨N, HN⟩ : ∃ N : Nat, Hid (ps.length = N) := ⟨_, rfl⟩
  rw [HN.out] at e
  subst e
  obtain ⟨lo, lc, e, hLN, -⟩ := hr.row
  obtain ⟨LN, HLN⟩ : ∃ LN : Nat, Hid (ts.length = LN) := ⟨_, rfl⟩
  rw [HLN.out] at e
  subst e
  have bb := below_one w (.cells zn 40)
  have n1 := h1_0 w (.cells zn 40)
  have sk := seek_any ts ps (.slice lo LN lc) (.slice o N cap) (w.alloc (.cells zn 40)) (hr.below bb) (ints_below bb hp)
  have s0 : (w.alloc (.cells zn 40)).heap.size = w.heap.size + 1 := by simp
  obtain ⟨R, HRR⟩ : ∃ R, Hid (look ts ps none = R) := ⟨_, rfl⟩
  rw [HRR.out] at sk ⊢
  clear hr hp hN hLN
  cases R with
  | none =>
    go_enter Try.func28, Try.ntmps28
    go_wp2_with fail
    generalize w.alloc (.cells zn 40) = W at *
    refine sk.mono ?_
    rintro _ y ⟨q, rfl, hq, hy⟩
    replace hq : q = .pointer none := hq
    subst hq
    have n2 := kept hy n1
    have hb := keepB bb hy
    go_wp2_with (refine wpList_store_row rfl 40 _ _ rfl w.heap.size _ rfl rfl _ _ n2 infoN rfl (by simp [Value.oneCell']) ?_)
    exact bodyPost_ret (v := .tuple #[.agg zn, .bool false]) (res_row_tmp (p := 4) (u := 5) rfl _ _ w.heap.size _ _ _ _ rfl (setRow_at n2 _) Try.underlying40 rfl infoN) rfl ⟨below_setRow hb (Nat.le_refl _) _, rfl⟩
  | some a =>
    cases a with
    | mk tag val kv ks =>
    simp only [AT.tag, AT.val, AT.kids]
    go_enter Try.func28, Try.ntmps28
    go_wp2_with fail
    generalize w.alloc (.cells zn 40) = W at *
    refine sk.mono ?_
    rintro _ y ⟨q, rfl, hq, hy⟩
    obtain ⟨p, rfl, q0, q1, q2, hk, hv, ht⟩ := hq
    simp only [AT.tag, AT.val, AT.kv, AT.kids] at q0 q1 q2 hk hv ht
    obtain ⟨ko, kc, hkv, -⟩ := hk.row
    obtain ⟨KL, HKL⟩ : ∃ KL, Hid (ks.length = KL) := ⟨_, rfl⟩
    rw [HKL.out] at hkv
    subst hkv
    have cc := clonedNode_any tag val (.slice ko KL kc) ks y hk hv
    have n2 := kept hy n1
    have hb := keepB bb hy
    have sy := hy.size
    clear hk hv ht sk n1 bb hy
    go_wp2_with fail
    refine cc.mono ?_
    rintro _ z ⟨kv', aks, rfl, hea, hown, hz⟩
    have n3 := kept hz n2
    have hb2 := keepB hb hz
    obtain ⟨ko2, kc2, rfl⟩ := hown.form
    have HO : Hid (Own z y.heap.size (.slice ko2 aks.length kc2) aks) := hown
    clear hown cc n2 hz q0 q1 q2
    generalize hkl2 : aks.length = L at *
    go_wp2_with (refine wpList_store_row rfl 40 _ _ rfl w.heap.size _ rfl rfl _ _ n3 infoN rfl (by simp [Value.oneCell']) ?_)
    exact bodyPost_ret (v := .tuple #[.agg #[.int .i64 tag, .string val, .slice ko2 L kc2], .bool true]) (res_row_tmp (p := 4) (u := 5) rfl _ _ w.heap.size _ _ _ _ rfl (setRow_at n3 _) Try.underlying40 rfl infoN) rfl ⟨below_setRow hb2 (Nat.le_refl _) _, _, aks, rfl, hea, (HO.out.keep fun q hq => setRow_ne (by have := (HO.out.lt q hq).1; omega) _).base (by omega)⟩
end Go.Proofs.Ytgidjfhlooggkaa.Fd
