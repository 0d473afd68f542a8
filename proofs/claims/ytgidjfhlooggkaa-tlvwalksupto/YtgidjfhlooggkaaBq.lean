/- The laws' book: owns. -/
import Derived.Test.YtgidjfhlooggkaaBp
namespace Go.Proofs.Ytgidjfhlooggkaa.Bq
set_option linter.unusedVariables false
set_option linter.unusedSimpArgs false
open Go.RowKit Kb Nt Li Bo Bp
theorem infoI : (Try.prog.info? 3).map (fun i => (i.zero, i.size, i.bytes)) = some (some (.int .i64 0), 1, 8) := by kernel_rfl
theorem infoNN : (Try.prog.info? 40).map (fun i => (i.zero, i.size, i.bytes)) = some (some (.agg #[.int .i64 0, .string ⟨#[]⟩, .slice none 0 0]), 3, 48) := by kernel_rfl
theorem halt {p : Prop} (h : True → p) : p := h trivial
/-- all lists of some trees -/
def alls : List (Value × List AT) → List Value
  | [] => []
  | p :: r => (p.1 :: lsK p.2) ++ alls r
theorem alls_app : ∀ a b, alls (a ++ b) = alls a ++ alls b
  | [], b => rfl
  | p :: a, b => by simp [alls, alls_app a b]
theorem alls_take (Ts : List (Value × List AT)) (i : Nat) (h : i < Ts.length) : alls (Ts.take (i + 1)) = alls (Ts.take i) ++ (Ts[i].1 :: lsK Ts[i].2) := by
  rw [List.take_succ_eq_append_getElem h, alls_app]
  simp [alls]
theorem alls_le : ∀ (Ts : List (Value × List AT)) (i : Nat), (alls (Ts.take i)).length ≤ (alls Ts).length
  | [], i => by simp
  | p :: r, 0 => by simp [alls]
  | p :: r, i + 1 => by
    have := alls_le r i
    simp only [List.take_succ_cons, alls, List.length_append]
    omega
/-- how far the lists are marked -/
def St2 (A : List Value) (wr : World) (i k : Nat) : Prop := ∀ j (h : j < A.length), Rw wr A[j] (-100 - (j : Int)) (if j < i then ln A[j] else if j = i then k else 0)
theorem st2_store {A : List Value} {w : World} {i k g n c : Nat} (st : St2 A w i k) (pa : PA A) (hi : i < A.length) (e : A[i] = .slice (some ⟨g, 0, none⟩) n c) (hk : k < n) : St2 A (w.setCells g (k * 3) (nod (-100 - (i : Int)))) i (k + 1) := by
  intro j hj
  by_cases h : j = i
  · subst h
    have := st j hj
    rw [if_neg (Nat.lt_irrefl _), if_pos rfl] at this ⊢
    rw [e] at this ⊢
    exact rw_store this hk
  · have := st j hj
    rw [if_neg h] at this ⊢
    exact this.keep fun b hb => scs_ne (fun e2 => by subst e2; exact pa i j hi hj (Ne.symm h) g (by rw [e]; rfl) hb) _ _ _
theorem st2_next {A : List Value} {w : World} {i k : Nat} (st : St2 A w i k) (hi : i < A.length) (e : ln A[i] = k) : St2 A w (i + 1) 0 := by
  intro j hj
  have := st j hj
  by_cases h : j < i
  · rw [if_pos h] at this
    rw [if_pos (by omega)]
    exact this
  · by_cases h2 : j = i
    · subst h2
      rw [if_neg h, if_pos rfl, ← e] at this
      rw [if_pos (by omega)]
      exact this
    · rw [if_neg h, if_neg h2] at this
      rw [if_neg (by omega)]
      by_cases h3 : j = i + 1
      · rw [if_pos h3]; exact this
      · rw [if_neg h3]; exact this
/-- what the book holds, and what is still to come -/
structure BS (g0 : Nat) (A : List Value) (va : Value) (w2 wz : World) (r : Nat) (x : Value) (m : Int) (K : Nat) (E : List (Value × Int)) (lv mv : Value) : Prop where
  s : S5 g0 A va w2 wz r x m E (E.map (·.1)) (E.map fun p => .int .i64 p.2) lv mv
  few : ∀ p ∈ E, ln p.1 ≤ 2097152
  many : E.length = K
section
variable {g0 : Nat} {A : List Value} {va : Value} {wq wr y : World} {r : Nat} {x : Value} {m : Int} {E : List (Value × Int)} {L Mk : List Value} {lv mv : Value} {W2 LE : Nat}
theorem lhid (hl : L.length = LE) (hw : wq.heap.size = W2) (S : S5 g0 A va wq wr r x m E L Mk lv mv) {o : Obj} {g c : Nat} {u : Value} (gr : (wr.alloc o).grownBy y lv.ownBlock) (own : y.ownsRow W2 23 1 (.slice (some ⟨g, 0, none⟩) (LE + 1) c) (LE + 1) (L ++ [u])) (hat : lv.ownBlock = some g ∨ g = wr.heap.size + 1) :
    Hid (S5 g0 A va wq (y.setCell ⟨g0, 0, none⟩ (.slice (some ⟨g, 0, none⟩) (LE + 1) c)) r x m E (L ++ [u]) Mk (.slice (some ⟨g, 0, none⟩) (LE + 1) c) mv) := by
  subst hw
  exact S.lpush (by rw [List.length_append, hl]; rfl) gr own hat
theorem mhid (hl : Mk.length = LE) (hw : wq.heap.size = W2) (S : S5 g0 A va wq wr r x m E L Mk lv mv) {o : Obj} {g c : Nat} {u : Value} (gr : (wr.alloc o).grownBy y mv.ownBlock) (own : y.ownsRow W2 3 1 (.slice (some ⟨g, 0, none⟩) (LE + 1) c) (LE + 1) (Mk ++ [u])) {H : Nat} (hat : mv.ownBlock = some g ∨ g = H) (hH : H = wr.heap.size + 1) :
    Hid (S5 g0 A va wq (y.setCell ⟨g0, 1, none⟩ (.slice (some ⟨g, 0, none⟩) (LE + 1) c)) r x m E L (Mk ++ [u]) lv (.slice (some ⟨g, 0, none⟩) (LE + 1) c)) := by
  subst hw
  exact S.mpush (by rw [List.length_append, hl]; rfl) gr own (by rw [← hH]; exact hat)
theorem omid (hl : Mk.length = LE) (hw : wq.heap.size = W2) (S : S5 g0 A va wq wr r x m E L Mk lv mv) : Hid (World.ownsRow wr W2 3 1 mv LE Mk) := by
  have := S.mrow
  rw [hl, hw] at this
  exact this
theorem olid (hl : L.length = LE) (hw : wq.heap.size = W2) (S : S5 g0 A va wq wr r x m E L Mk lv mv) : Hid (World.ownsRow wr W2 23 1 lv LE L) := by
  have := S.lrow
  rw [hl, hw] at this
  exact this
theorem new_set (w : World) (g o : Nat) (v : Value) (ob : Obj) : ((w.setCell ⟨g, o, none⟩ v).alloc ob).heap[w.heap.size]? = some ob := by
  have h1 := heap_alloc_new (w.setCell ⟨g, o, none⟩ v) ob
  have h2 : (w.setCell ⟨g, o, none⟩ v).heap.size = w.heap.size := by simp [World.setCell]
  rw [h2] at h1
  exact h1
theorem xhid {o : Option Addr} {n c : Nat} (S : S5 g0 A va wq wr r (.slice o n c) m E L Mk lv mv) {ob : Obj} {g c' : Nat} (gr : (wr.alloc ob).grownBy y (Value.slice o n c).ownBlock) (own : y.ownsRow 0 40 3 (.slice (some ⟨g, 0, none⟩) (n + 1) c') (n + 1) (mkC m n ++ nod m)) (old : y.ownsRow 0 40 3 (.slice o n c) n (mkC m n)) (hat : (Value.slice o n c).ownBlock = some g ∨ g = wr.heap.size + 1) :
    Hid (S5 g0 A va wq y r (.slice (some ⟨g, 0, none⟩) (n + 1) c') m E L Mk lv mv) := S.xpush rfl gr own old hat
theorem size1 {a : Addr} {v : Value} (hw : wq.heap.size = W2) (S : S5 g0 A va wq (wr.setCell a v) r x m E L Mk lv mv) : W2 ≤ wr.heap.size := by
  have := S.fr.size
  rw [hw] at this
  simpa [World.setCell] using this
end
theorem bs_push {g0 : Nat} {A : List Value} {va : Value} {wq wr : World} {r : Nat} {m : Int} {E : List (Value × Int)} {lv mv : Value} {LE K n : Nat} {o : Option Addr} {c : Nat} (hk : LE = K) (hl : (E.map (·.1)).length = LE) (hf : ∀ p ∈ E, ln p.1 ≤ 2097152) (hn : n ≤ 2097152)
    (S : S5 g0 A va wq wr r (.slice o n c) m E (E.map (·.1) ++ [.slice o n c]) ((E.map fun p => .int .i64 p.2) ++ [.int .i64 m]) lv mv) : Hid (BS g0 A va wq wr r (.slice o n c) m (K + 1) (E ++ [(.slice o n c, m)]) lv mv) := by
  refine ⟨?_, fun p hp => ?_, ?_⟩
  · have := S.epush
    rw [List.map_append, List.map_append]
    exact this
  · rcases List.mem_append.1 hp with hp | hp
    · exact hf p hp
    · obtain rfl := List.mem_singleton.1 hp
      exact hn
  · rw [List.length_map] at hl
    rw [List.length_append, hl, hk]; rfl
structure Ins (w : World) (g0 : Nat) (ta : Addr) (Ts : List (Value × List AT)) : Prop where
  book : w.heap[g0]? = some (.cells #[.slice none 0 0, .slice none 0 0] 32)
  tops : ∀ i (h : i < Ts.length), w.cell? (ta.add i) = some Ts[i].1
  rd : ∀ p ∈ Ts, Rdn w p.1 p.2
  few : (alls Ts).length ≤ 2000
  rows : ∀ u ∈ alls Ts, ∃ xs, w.ownsRow 0 40 3 u (ln u) xs ∧ ln u ≤ 1048576
  apart : PA (alls Ts)
def Out (w : World) (g0 : Nat) (A : List Value) (e : Ending) (w' : World) : Prop := e = .returned (.tuple #[]) ∧ ∃ (E : List (Value × Int)) (lv mv : Value), w'.heap[g0]? = some (.cells #[lv, mv] 32) ∧
  w'.ownsRow w.heap.size 23 1 lv E.length (E.map (·.1)) ∧ w'.ownsRow w.heap.size 3 1 mv E.length (E.map fun p => .int .i64 p.2) ∧
  (∀ p ∈ E, w'.ownsRow 0 40 3 p.1 (ln p.1) (mkC p.2 (ln p.1)) ∧ ln p.1 ≤ 2097152) ∧ E.length ≤ 30000 ∧ Fr (g0 :: obs A) w w'
set_option maxRecDepth 100000 in
set_option maxHeartbeats 6400000 in
theorem owns_any {w : World} {g0 : Nat} {ta : Addr} {Ts : List (Value × List AT)} (h : Ins w g0 ta Ts) (cap : Nat) (hT : Ts.length ≤ 8) :
    Calls Try.prog 13 #[.pointer (some ⟨g0, 0, none⟩), .slice (some ta) Ts.length cap] w (Out w g0 (alls Ts)) := by
  obtain ⟨NT, HNT⟩ : ∃ NT, Hid (Ts.length = NT) := ⟨_, rfl⟩
  obtain ⟨A, HA⟩ : ∃ A, Hid (alls Ts = A) := ⟨_, rfl⟩
  obtain ⟨NA, HNA⟩ : ∃ NA, Hid (A.length = NA) := ⟨_, rfl⟩
  have H : Hid (Ins w g0 ta Ts) := h
  have hNA : NA ≤ 2000 := by have := h.few; rw [HA.out, HNA.out] at this; exact this
  have hNT : NT ≤ 8 := by rw [← HNT.out]; exact hT
  rw [HNT.out, HA.out]
  have HP : Hid (PA A) := by have := h.apart; rw [HA.out] at this; exact this
  have HRW : Hid (∀ u ∈ A, ∃ xs, w.ownsRow 0 40 3 u (ln u) xs ∧ ln u ≤ 1048576) := by have := h.rows; rw [HA.out] at this; exact this
  have HTL : Hid (∀ i, (alls (Ts.take i)).length ≤ 2000) := fun i => Nat.le_trans (alls_le Ts i) h.few
  obtain ⟨ia, hia, hza0, hza1, hza2⟩ := info_parts infoL
  clear h hT
  go_enter Try.func13, Try.ntmps13
  go_wp2
  go_loopw [4, 5] (fun va vi wr => ∃ (i : Nat) (S : List Value), i ≤ NT ∧ vi = .int .i64 (i : Int) ∧ Hid (alls (Ts.take i) = S) ∧ wr.ownsRow w.heap.size 23 1 va S.length S ∧ Below w.heap.size w wr) (fun _ vi _ => NT - (intOf vi).toNat)
  case atStart => exact ⟨0, [], Nat.zero_le _, rfl, by show _ = _; simp [alls], World.ownsRow_nil _ _ _ _, Below.refl _ _⟩
  case round =>
    obtain ⟨i, S, hi, rfl, HS, ho, hwr⟩ := hrel
    rename World => wr
    obtain ⟨LS, HLS⟩ : ∃ LS, Hid (S.length = LS) := ⟨_, rfl⟩
    have hLS : LS ≤ 2000 := by have := HTL.out i; rw [HS.out, HLS.out] at this; omega
    rw [HLS.out] at ho
    obtain ⟨uo, uc, rfl⟩ := formL ho
    have HO : Hid (World.ownsRow wr w.heap.size 23 1 (.slice uo LS uc) LS S) := ho
    clear ho
    by_cases hlt : i < NT
    · have hlt' : (i : Int) < (NT : Int) := by omega
      have hiT : i < Ts.length := by rw [HNT.out]; exact hlt
      have HS2 := alls_take Ts i hiT
      rw [HS.out] at HS2
      have hTi := HTL.out (i + 1)
      rw [HS2] at hTi
      have ct : wr.cell? (ta.add i) = some Ts[i].1 := (hwr.cell (World.block_lt_of_cell? w _ (H.out.tops i hiT))).trans (H.out.tops i hiT)
      have rd := (H.out.rd Ts[i] (List.getElem_mem hiT)).below hwr
      obtain ⟨x, hx⟩ : ∃ y, y = Ts[i] := ⟨_, rfl⟩
      rw [← hx] at HS2 hTi ct rd
      clear hx
      obtain ⟨xv, ks⟩ := x
      simp only at HS2 hTi ct rd
      obtain ⟨lo, lc, hkv, -⟩ := rd.row
      obtain ⟨KL, HKL⟩ : ∃ L, Hid (ks.length = L) := ⟨_, rfl⟩
      rw [HKL.out] at hkv
      subst hkv
      obtain ⟨Q, HQ⟩ : ∃ Q, Hid (lsK ks = Q) := ⟨_, rfl⟩
      rw [HQ.out] at HS2 hTi
      simp only [List.length_append, List.length_cons] at hTi
      have ci := lists_any ks (.slice lo KL lc) wr rd (by rw [HQ.out]; omega)
      have HQ1 : Hid (∀ u ∈ (Value.slice lo KL lc) :: Q, u.oneCell' = true) := by
        have := oneL ks rd.kids
        rw [HQ.out] at this
        intro u hu
        rcases List.mem_cons.1 hu with rfl | hu
        · simp [Value.oneCell']
        · exact this u hu
      simp only [HQ.out] at ci
      have hLQ : LS + (Q.length + 1) ≤ 2000 := by have := HLS.out; omega
      replace HS2 : Hid (alls (Ts.take (i + 1)) = S ++ (.slice lo KL lc :: Q)) := HS2
      clear rd hTi
      go_wp2_with fail
      refine ci.mono ?_
      rintro _ y ⟨v2, rfl, j1, j3⟩
      have hb2 : Below w.heap.size w y := hwr.trans (j3.mono hwr.size)
      have HO2 : Hid (World.ownsRow y w.heap.size 23 1 (.slice uo LS uc) LS S) := owns_keep HO.out fun q hq => j3.block q (HO.out.lt q hq).2
      have HLL : Hid ((S ++ (Value.slice lo KL lc :: Q)).length = LS + (Q.length + 1)) := by
        show _ = _
        rw [List.length_append, HLS.out, List.length_cons]
      clear HO ci ct
      rw [List.length_cons] at j1
      obtain ⟨LQ, HLQ⟩ : ∃ LQ, Hid (Q.length = LQ) := ⟨_, rfl⟩
      rw [HLQ.out] at hLQ HLL j1
      obtain ⟨g2, c2, rfl, hcl⟩ : ∃ g2 c2, v2 = .slice (some ⟨g2, 0, none⟩) (LQ + 1) c2 ∧ ∀ j u, (Value.slice lo KL lc :: Q)[j]? = some u → y.cell? ((⟨g2, 0, none⟩ : Addr).add j) = some u := by
        rcases j1.2 with ⟨_, hz⟩ | ⟨g, cap, cur, hv, r⟩
        · omega
        · refine ⟨g, cap, hv, fun j u hu => ?_⟩
          subst hv
          exact j1.cells (g := g) rfl j u hu
      have HCL : Hid (∀ j u, (Value.slice lo KL lc :: Q)[j]? = some u → y.cell? ((⟨g2, 0, none⟩ : Addr).add j) = some u) := hcl
      have HQL : Hid ((Value.slice lo KL lc :: Q).length = (LQ + 1) * 1) := by show _ = _; rw [List.length_cons, HLQ.out]; omega
      have hsy : w.heap.size ≤ y.heap.size := hb2.size
      clear hcl j1 j3
      go_wp2_with (at_builtin; refine wpList_append_lies _ rfl _ _ _ rfl w.heap.size 23 ia _ 1 24 Try.underlying29 hia hza0 hza1 hza2 rfl (by omega) _ LS _ rfl HO2.out ⟨g2, 0, Option.none⟩ (LQ + 1) c2 (.slice lo KL lc :: Q) rfl HQL.out HCL.out HQ1.out (by omega) (by unfold maxLen; omega) (by omega) hsy y.heap.size rfl ?_; intro g3 c3 w3 own3 gr3 hat3 hlt3)
      have B3 : Below w.heap.size y w3 := (Below.refl w.heap.size y).grown gr3 hsy fun k hk => (HO2.out.lt k hk).1
      refine ⟨⟨i + 1, S ++ (.slice lo KL lc :: Q), by omega, by go_num, HS2, ?_, hb2.trans B3⟩, by simp [intOf]; omega⟩
      rw [HLL.out]
      exact own3
    -- all lists are there
    have hlt' : ¬ (i : Int) < (NT : Int) := by omega
    have HE : Hid (S = A) := by
      have := HS.out
      rw [List.take_of_length_le (by rw [HNT.out]; omega), HA.out] at this
      exact this.symm
    obtain rfl := HE.out
    obtain rfl : LS = NA := by rw [← HLS.out, HNA.out]
    have HF0 : Hid (Fr (g0 :: obs S) w wr) := Fr.of hwr
    have HBK : Hid (wr.heap[g0]? = some (.cells #[.slice none 0 0, .slice none 0 0] 32)) := kept hwr H.out.book
    have HS0 : Hid (St2 S wr 0 0) := fun j hj => by
      obtain ⟨xs, h1, _⟩ := HRW.out S[j] (List.getElem_mem hj)
      have : (if j < 0 then ln S[j] else if j = 0 then 0 else 0) = 0 := by simp
      rw [this]
      exact (Rw.zero h1 _).keep fun b hb => hwr.block b (h1.lt b hb).2
    clear HE HS HTL hi hNT HLS
    obtain ⟨⟨b0, b1⟩, bf⟩ : (wr.cell? ⟨g0, 0, none⟩ = some (.slice none 0 0) ∧ wr.cell? ⟨g0, 1, none⟩ = some (.slice none 0 0)) ∧ ∀ o, wr.frozen? ⟨g0, o, none⟩ = false := by
      have := HBK.out
      refine ⟨⟨?_, ?_⟩, fun o => ?_⟩ <;> simp [World.cell?, World.frozen?, this]
    go_wp2
    go_loopw [8] (fun vi wr2 => ∃ i : Nat, i ≤ LS ∧ vi = .int .i64 (i : Int) ∧ Hid (St2 S wr2 i 0 ∧ Fr (g0 :: obs S) w wr2 ∧ wr2.ownsRow w.heap.size 23 1 (.slice uo LS uc) LS S ∧ wr2.heap[g0]? = some (.cells #[.slice none 0 0, .slice none 0 0] 32))) (fun vi _ => LS + 1 - (intOf vi).toNat)
    case atStart => exact ⟨0, Nat.zero_le _, rfl, HS0.out, HF0.out, HO.out, HBK.out⟩
    case round =>
      obtain ⟨i, hi, rfl, HI⟩ := hrel
      rename World => wq
      clear HS0 HF0 HBK b0 b1 bf
      by_cases hlt2 : i < LS
      · have q2 : (i : Int) < (LS : Int) := by omega
        go_wp2
        go_loopw [9] (fun vk wr3 => ∃ k : Nat, vk = .int .i64 (k : Int) ∧ Hid (∃ (hi : i < S.length), k ≤ ln S[i] ∧ St2 S wr3 i k ∧ Fr (g0 :: obs S) w wr3 ∧ wr3.ownsRow w.heap.size 23 1 (.slice uo LS uc) LS S ∧ wr3.heap[g0]? = some (.cells #[.slice none 0 0, .slice none 0 0] 32))) (fun vk _ => ln (S[i]?.getD undef) + 1 - (intOf vk).toNat)
        case atStart => exact ⟨0, rfl, by rw [HNA.out]; exact hlt2, Nat.zero_le _, HI.out⟩
        case round =>
          obtain ⟨k, rfl, HK⟩ := hrel
          rename World => wp
          clear HI
          obtain ⟨hiS, hkl, st, fr, arow, bk⟩ := HK.out
          have HR := st i hiS
          rw [if_neg (Nat.lt_irrefl _), if_pos rfl] at HR
          have hmS : S[i]?.getD undef = S[i] := by rw [List.getElem?_eq_getElem hiS]; rfl
          obtain ⟨_, _, hbnd⟩ := HRW.out S[i] (List.getElem_mem hiS)
          obtain ⟨va, hva⟩ : ∃ va, S[i] = va := ⟨_, rfl⟩
          have hMS : Hid (ln (S[i]?.getD undef) = ln va) := by show _ = _; rw [hmS, hva]
          have ca : ∃ a, uo = some a ∧ wp.cell? (a.add i) = some va := by
            rcases arow.2 with ⟨e, hz⟩ | ⟨g, c, cur, e, r⟩
            · omega
            · injection e with e1 e2 e3
              refine ⟨⟨g, 0, none⟩, e1, ?_⟩
              refine arow.cells (g := g) (by rw [e1]; rfl) i va ?_
              rw [← hva]
              exact List.getElem?_eq_getElem hiS
          obtain ⟨a, rfl, ca⟩ := ca
          rw [hva] at hkl HR hbnd
          obtain ⟨xs, hx, _⟩ := HR
          obtain ⟨o, c, e⟩ := formL hx
          obtain ⟨n, HN⟩ : ∃ n, Hid (ln va = n) := ⟨_, rfl⟩
          have HRr : Hid (Rw wp va (-100 - (i : Int)) k) := by have := st i hiS; rw [if_neg (Nat.lt_irrefl _), if_pos rfl, hva] at this; exact this
          rw [HN.out] at e hkl hbnd
          have HVA : Hid (S[i] = va) := hva
          clear hx hmS st fr arow bk
          subst e
          by_cases hk : k < n
          · have q3 : (k : Int) < (n : Int) := by omega
            obtain ⟨g, rfl⟩ : ∃ g, o = some ⟨g, 0, none⟩ := by
              obtain ⟨xs, hx, _⟩ := HRr.out
              rcases hx.2 with ⟨e, hz⟩ | ⟨g, c2, cur, e, r⟩
              · injection e with e1 e2 e3; omega
              · injection e with e1 e2 e3; exact ⟨g, e1⟩
            obtain ⟨cur, hg, hcs⟩ := rw_cells HRr.out
            have c0 : wp.cell? ⟨g, k * 3, none⟩ = some cur[k * 3] := by rw [cell_of_row wp g _ _ _ (0, 0) hg]; exact Array.getElem?_eq_getElem (by omega)
            have c1 : wp.cell? ⟨g, k * 3 + 1, none⟩ = some cur[k * 3 + 1] := by rw [cell_of_row wp g _ _ _ (0, 0) hg]; exact Array.getElem?_eq_getElem (by omega)
            have c2 : wp.cell? ⟨g, k * 3 + 2, none⟩ = some cur[k * 3 + 2] := by rw [cell_of_row wp g _ _ _ (0, 0) hg]; exact Array.getElem?_eq_getElem (by omega)
            have fz : ∀ o, wp.frozen? ⟨g, o, none⟩ = false := fun o => by simp [World.frozen?, hg]
            have f0 := fz (k * 3)
            have f1 := fz (k * 3 + 1)
            have f2 := fz (k * 3 + 2)
            have HGB : Hid (g ∈ obs S) := obs_mem hiS (by rw [HVA.out]; rfl)
            generalize cur[k * 3] = d0 at *
            generalize cur[k * 3 + 1] = d1 at *
            generalize cur[k * 3 + 2] = d2 at *
            clear fz hg hcs hva
            go_wp2_with fail
            obtain ⟨hiS, hkl, st, fr, arow, bk⟩ := HK.out
            obtain ⟨xs, hx, _⟩ := HRr.out
            refine ⟨⟨k + 1, by go_num, hiS, by rw [HVA.out]; exact hk, st2_store st HP.out hiS HVA.out hk, fr.cells (.inl (List.mem_cons_of_mem _ HGB.out)) (k * 3) (nod (-100 - (i : Int))), owns_keep arow fun q hq => scs_ne (g := g) (fun e : g = q => ty_ne arow hx (by decide) hq (by rw [← e]; rfl)) (nod (-100 - (i : Int))) (k * 3) wp, (scs_ne (g := g) (fun e : g = g0 => bk_ne bk hx (by decide) (by rw [← e]; rfl)) (nod (-100 - (i : Int))) (k * 3) wp).trans bk⟩, ?_⟩
            have e1 := hMS.out
            have e2 := HN.out
            simp only [intOf]
            omega
          · have q3 : ¬ (k : Int) < (n : Int) := by omega
            clear hva
            go_wp2_with fail
            obtain ⟨hiS, hkl, st, fr, arow, bk⟩ := HK.out
            have e2 := HN.out
            refine ⟨⟨i + 1, by omega, by go_num, st2_next st hiS (by rw [HVA.out] at hkl ⊢; omega), fr, arow, bk⟩, ?_⟩
            simp only [intOf]
            omega
      · have q2 : ¬ (i : Int) < (LS : Int) := by omega
        obtain rfl : i = LS := by omega
        obtain ⟨st, fr, arow, bk⟩ := HI.out
        have HS5 : Hid (S5 g0 S (.slice uo i uc) wq wq 0 (.slice none 0 0) 0 [] [] [] (.slice none 0 0) (.slice none 0 0)) := by
          refine ⟨bk, World.ownsRow_nil _ _ _ _, World.ownsRow_nil _ _ _ _, ?_, fun b hb => (arow.lt b hb).2, fun p hp => by simp at hp, World.ownsRow_nil _ _ _ _, fun p hp => by simp at hp, fun j h _ => ?_, fun p hp => by simp at hp, fun j h _ g hg => by simp [Value.ownBlock] at hg, fun g hg => by simp [Value.ownBlock] at hg, Fr.refl _ _⟩
          · have := owns_base (Nat.zero_le _) arow
            rw [HNA.out]
            exact this
          · have := st j h
            rw [if_pos (by rw [← HNA.out]; exact h)] at this
            exact this.full
        have HFW : Hid (Fr (g0 :: obs S) w wq) := fr
        clear st fr arow bk HI
        go_wp2
        obtain ⟨im, him, hzm0, hzm1, hzm2⟩ := info_parts infoI
        obtain ⟨iN, hiN, hzN0, hzN1, hzN2⟩ := info_parts infoNN
        obtain ⟨W2, HW2⟩ : ∃ W2, Hid (wq.heap.size = W2) := ⟨_, rfl⟩
        go_loopw [10] (fun vi wz => ∃ (r : Nat) (E : List (Value × Int)) (lv mv : Value), r ≤ i ∧ vi = .int .i64 (r : Int) ∧ Hid (BS g0 S (.slice uo i uc) wq wz r (.slice none 0 0) 0 (13 * r) E lv mv)) (fun vi _ => i + 1 - (intOf vi).toNat)
        case atStart => exact ⟨0, [], _, _, Nat.zero_le _, rfl, HS5.out, fun p hp => by simp at hp, rfl⟩
        case round =>
          obtain ⟨r, E, lv, mv, hr, rfl, HB⟩ := hrel
          rename World => wz
          clear HS5
          by_cases hlt3 : r < i
          · have q3 : (r : Int) < (i : Int) := by omega
            have hrS : r < S.length := by rw [HNA.out]; exact hlt3
            have B1 := HB.out
            have S1 := B1.s.take (m' := -100 - (r : Int)) HP.out hrS rfl
            obtain ⟨va, hva⟩ : ∃ va, S[r] = va := ⟨_, rfl⟩
            rw [hva] at S1
            obtain ⟨_, _, hbnd⟩ := HRW.out S[r] (List.getElem_mem hrS)
            rw [hva] at hbnd
            have ca : ∃ a, uo = some a ∧ wz.cell? (a.add r) = some va := by
              have arow := S1.arow
              rw [HNA.out] at arow
              rcases arow.2 with ⟨e, hz⟩ | ⟨g, c, cur, e, _⟩
              · omega
              · injection e with e1 e2 e3
                refine ⟨⟨g, 0, none⟩, e1, ?_⟩
                refine arow.cells (g := g) (by rw [e1]; rfl) r va ?_
                rw [← hva]
                exact List.getElem?_eq_getElem hrS
            obtain ⟨a, rfl, ca⟩ := ca
            obtain ⟨o, c, e⟩ := formL S1.xrow
            obtain ⟨n, HN⟩ : ∃ n, Hid (ln va = n) := ⟨_, rfl⟩
            rw [HN.out] at e hbnd
            have HBN : Hid (n ≤ 1048576) := hbnd
            obtain ⟨LE, HLE, hLE⟩ : ∃ LE, Hid ((E.map (·.1)).length = LE) ∧ LE = 13 * r := ⟨_, rfl, by rw [List.length_map]; exact B1.many⟩
            have HLM : Hid ((E.map fun p => Value.int .i64 p.2).length = LE) := by show _ = _; rw [← HLE.out, List.length_map, List.length_map]
            obtain ⟨lo, lc, el⟩ := formL S1.lrow
            obtain ⟨mo, mc, em⟩ := formL S1.mrow
            rw [HLE.out] at el
            rw [HLM.out] at em
            subst el
            subst em
            subst e
            have HS1 : Hid (S5 g0 S (.slice (some a) i uc) wq wz (r + 1) (.slice o n c) (-100 - (r : Int)) E (E.map (·.1)) (E.map fun p => .int .i64 p.2) (.slice lo LE lc) (.slice mo LE mc)) := S1
            have HOL : Hid (World.ownsRow wz W2 23 1 (.slice lo LE lc) LE (E.map (·.1))) := by have := S1.lrow; rw [HLE.out, HW2.out] at this; exact this
            have hsz : W2 ≤ wz.heap.size := by rw [← HW2.out]; exact S1.fr.size
            have hLE2 : LE ≤ 26000 := by omega
            have HKE : Hid (LE = 13 * r) := hLE
            have HFE : Hid (∀ p ∈ E, ln p.1 ≤ 2097152) := B1.few
            obtain ⟨⟨b0, b1⟩, ⟨f0, f1⟩⟩ := cells2 S1.book
            clear S1 B1 hva hLE hbnd HB
            go_wp2_with (first
              | (at_builtin; refine wpList_append_lies _ rfl _ _ _ rfl W2 23 ia _ 1 24 Try.underlying29 hia hza0 hza1 hza2 rfl (by omega) _ LE _ rfl (HOL.out.alloc _) ⟨wz.heap.size, 0, Option.none⟩ 1 1 [.slice o n c] rfl (by rfl) (World.news_of_block (heap_alloc_new wz _)) (by simp [Value.oneCell']) (by omega) (by unfold maxLen; omega) (by omega) (by first | omega | (simp <;> omega)) (wz.heap.size + 1) (by simp) ?_; intro g1 c1 w1 own1 gr1 hat1 hlt1; obtain ⟨⟨b0, b1⟩, ⟨f0, f1⟩⟩ := cells2 (HS1.out.atl gr1); have HS2 := lhid HLE.out HW2.out HS1.out gr1 own1 hat1; have HOM := omid HLM.out HW2.out HS2.out; have hs1 := size1 HW2.out HS2.out; clear own1 gr1 hat1)
              | (at_builtin; refine wpList_append_lies _ rfl _ _ _ rfl W2 3 im _ 1 8 Try.underlying30 him hzm0 hzm1 hzm2 rfl (by omega) _ LE _ rfl (HOM.out.alloc _) ⟨w1.heap.size, 0, Option.none⟩ 1 1 [.int .i64 (-100 - (r : Int))] rfl (by rfl) (World.news_of_block (new_set _ _ _ _ _)) (by simp [Value.oneCell']) (by omega) (by unfold maxLen; omega) (by omega) (by simp [World.setCell]; omega) (w1.heap.size + 1) (by simp [World.setCell]) ?_; intro g2 c2 w2 own2 gr2 hat2 hlt2b; obtain ⟨⟨b0, b1⟩, ⟨f0, f1⟩⟩ := cells2 (HS2.out.atm gr2); have HS3 := mhid HLM.out HW2.out HS2.out gr2 own2 hat2 (by simp [World.setCell]); clear own2 gr2 hat2))
            have HB3 := bs_push HKE.out HLE.out HFE.out (by have := HBN.out; omega) HS3.out
            clear HS1 HS2 HS3 HOL HOM b0 b1 f0 f1 HFE HLE HLM ca
            obtain ⟨W5, HW5⟩ : ∃ W5, Hid (W5 = w2.setCell ⟨g0, 1, none⟩ (.slice (some ⟨g2, 0, none⟩) (LE + 1) c2)) := ⟨_, rfl⟩
            rw [← HW5.out] at HB3 ⊢
            clear HW5
            clear hs1 hlt1 hlt2b
            go_loopw [12, 13] (fun vx vk wy => ∃ (k : Nat) (E : List (Value × Int)) (lv mv : Value), k ≤ 12 ∧ vk = .int .i64 (k : Int) ∧ Hid (BS g0 S (.slice (some a) i uc) wq wy (r + 1) vx (-100 - (r : Int)) (13 * r + 1 + k) E lv mv ∧ ln vx ≤ 1048576 + k)) (fun _ vk _ => 13 - (intOf vk).toNat)
            case atStart => exact ⟨0, _, _, _, Nat.zero_le _, rfl, HB3.out, HBN.out⟩
            case round =>
              obtain ⟨k, E, lv, mv, hk, rfl, HB⟩ := hrel
              obtain ⟨B1, hx1⟩ := HB.out
              rename World => wy
              obtain ⟨o, c, e⟩ := formL B1.s.xrow
              obtain ⟨n, HN⟩ : ∃ n, Hid (ln u12 = n) := ⟨_, rfl⟩
              rw [HN.out] at e hx1
              subst e
              clear HN
              by_cases hk2 : k < 12
              · have q5 : (k : Int) < 12 := by omega
                have HBN : Hid (n ≤ 1048576 + k) := hx1
                have hn2 : n ≤ 1048588 := by omega
                obtain ⟨LE, HLE, hLE⟩ : ∃ LE, Hid ((E.map (·.1)).length = LE) ∧ LE = 13 * r + 1 + k := ⟨_, rfl, by rw [List.length_map]; exact B1.many⟩
                have HLM : Hid ((E.map fun p => Value.int .i64 p.2).length = LE) := by show _ = _; rw [← HLE.out, List.length_map, List.length_map]
                obtain ⟨lo, lc, el⟩ := formL B1.s.lrow
                obtain ⟨mo, mc, em⟩ := formL B1.s.mrow
                rw [HLE.out] at el
                rw [HLM.out] at em
                subst el
                subst em
                have HS0 : Hid (S5 g0 S (.slice (some a) i uc) wq wy (r + 1) (.slice o n c) (-100 - (r : Int)) E (E.map (·.1)) (E.map fun p => .int .i64 p.2) (.slice lo LE lc) (.slice mo LE mc)) := B1.s
                have HOX : Hid (World.ownsRow wy 0 40 3 (.slice o n c) n (mkC (-100 - (r : Int)) n)) := B1.s.xrow
                have hLE2 : LE ≤ 26000 := by omega
                have HKE : Hid (LE = 13 * r + 1 + k) := hLE
                have HFE : Hid (∀ p ∈ E, ln p.1 ≤ 2097152) := B1.few
                clear B1 hLE hx1 HB
                go_wp2_with (at_builtin; refine halt ?_)
                intro _
                refine wpList_append_keeps _ rfl _ _ _ rfl 0 40 iN _ 3 48 Try.underlying23 hiN hzN0 hzN1 hzN2 rfl (by omega) _ n _ rfl (HOX.out.alloc _) ⟨wy.heap.size, 0, Option.none⟩ 1 1 _ rfl (by rfl) (World.news_of_block (heap_alloc_new wy _)) (by simp [Value.oneCell']) (by omega) (by unfold maxLen; omega) (by omega) (Nat.zero_le _) (wy.heap.size + 1) (by simp) ?_
                intro g1 c1 w1 own1 old1 gr1 hat1 hlt1
                have HS1 := xhid HS0.out gr1 own1 old1 hat1
                obtain ⟨⟨b0, b1⟩, ⟨f0, f1⟩⟩ := cells2 HS1.out.book
                have HOL := olid HLE.out HW2.out HS1.out
                have hs0 : W2 ≤ w1.heap.size := by (rw [← HW2.out]; exact HS1.out.fr.size)
                clear own1 old1 gr1 hat1
                go_wp2_with (at_builtin; refine halt ?_)
                intro _
                refine wpList_append_lies _ rfl _ _ _ rfl W2 23 ia _ 1 24 Try.underlying29 hia hza0 hza1 hza2 rfl (by omega) _ LE _ rfl (HOL.out.alloc _) ⟨w1.heap.size, 0, Option.none⟩ 1 1 [.slice (some ⟨g1, 0, none⟩) (n + 1) c1] rfl (by rfl) (World.news_of_block (heap_alloc_new w1 _)) (by simp [Value.oneCell']) (by omega) (by unfold maxLen; omega) (by omega) (by first | omega | (simp <;> omega)) (w1.heap.size + 1) (by simp) ?_
                intro g2 c2 w2 own2 gr2 hat2 hlt2b
                obtain ⟨⟨b0, b1⟩, ⟨f0, f1⟩⟩ := cells2 (HS1.out.atl gr2)
                have HS2 := lhid HLE.out HW2.out HS1.out gr2 own2 hat2
                have HOM := omid HLM.out HW2.out HS2.out
                have hs1 := size1 HW2.out HS2.out
                clear own2 gr2 hat2
                go_wp2_with (at_builtin; refine halt ?_)
                intro _
                refine wpList_append_lies _ rfl _ _ _ rfl W2 3 im _ 1 8 Try.underlying30 him hzm0 hzm1 hzm2 rfl (by omega) _ LE _ rfl (HOM.out.alloc _) ⟨w2.heap.size, 0, Option.none⟩ 1 1 [.int .i64 (-100 - (r : Int))] rfl (by rfl) (World.news_of_block (new_set _ _ _ _ _)) (by simp [Value.oneCell']) (by omega) (by unfold maxLen; omega) (by omega) (by simp [World.setCell]; omega) (w2.heap.size + 1) (by simp [World.setCell]) ?_
                intro g3 c3 w3 own3 gr3 hat3 hlt3b
                obtain ⟨⟨b0, b1⟩, ⟨f0, f1⟩⟩ := cells2 (HS2.out.atm gr3)
                have HS3 := mhid HLM.out HW2.out HS2.out gr3 own3 hat3 (by simp [World.setCell])
                clear own3 gr3 hat3
                go_wp2_with fail
                have HB3 := bs_push HKE.out HLE.out HFE.out (by have := HBN.out; omega) HS3.out
                have hbn := HBN.out
                exact ⟨⟨k + 1, _, _, _, by omega, by go_num, HB3.out, by simp only [ln]; omega⟩, by simp only [intOf]; omega⟩
              · have q5 : ¬ (k : Int) < 12 := by omega
                obtain rfl : k = 12 := by omega
                have HB4 : Hid (BS g0 S (.slice (some a) i uc) wq wy (r + 1) (.slice none 0 0) 0 (13 * (r + 1)) E lv mv) := ⟨B1.s.drop, B1.few, by rw [B1.many]; omega⟩
                clear B1 hx1 HB
                go_wp2_with fail
                exact ⟨⟨r + 1, E, lv, mv, by omega, by go_num, HB4.out⟩, by simp only [intOf]; omega⟩
          · have q3 : ¬ (r : Int) < (i : Int) := by omega
            obtain rfl : r = i := by omega
            go_wp2
            go_end0
            have B1 := HB.out
            have hW : w.heap.size ≤ wq.heap.size := HFW.out.size
            refine ⟨rfl, E, lv, mv, B1.s.book, ?_, ?_, fun p hp => ⟨B1.s.ent p hp, B1.few p hp⟩, by rw [B1.many]; omega, HFW.out.trans B1.s.fr⟩
            · have := owns_base hW B1.s.lrow
              rw [List.length_map] at this
              exact this
            · have := owns_base hW B1.s.mrow
              rw [List.length_map] at this
              exact this
end Go.Proofs.Ytgidjfhlooggkaa.Bq
