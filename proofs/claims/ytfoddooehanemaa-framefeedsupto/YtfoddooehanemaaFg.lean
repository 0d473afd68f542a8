/- Frames: Feed. -/
import Derived.Test.YtfoddooehanemaaFf
import Derived.Test.YtfoddooehanemaaQl
import Derived.Deep.AppendLies
namespace Go.Proofs.Ytfoddooehanemaa.Fg
set_option linter.unusedVariables false
set_option linter.unusedSimpArgs false
open Go.RowKit Lib0 Kb Fa Fb Fc Fm Fe Ff
def str (l : List UInt8) : Value := .string ⟨l.toArray⟩
def strs (ls : List (List UInt8)) : List Value := ls.map str
theorem strs_length (ls : List (List UInt8)) : (strs ls).length = ls.length := by simp [strs]
def errN : St → Nat
  | .brk e => e
  | _ => 0
/-- the frame at a label -/
def FrA (g : Nat) (bv wv : Value) (a : Act) : Prop := a.tmps.size = 96 ∧ a.defers = [] ∧ a.tmps.toList.take 7 = [.pointer (some ⟨g, 0, none⟩), bv, undef, undef, .slice none 0 0, .int .i64 0, wv]
theorem lit89 (u : Nat → Value) : [u 7, u 8, u 9, u 10, u 11, u 12, u 13, u 14, u 15, u 16, u 17, u 18, u 19, u 20, u 21, u 22, u 23, u 24, u 25, u 26, u 27, u 28, u 29, u 30, u 31, u 32, u 33, u 34, u 35, u 36, u 37, u 38, u 39, u 40, u 41, u 42, u 43, u 44, u 45, u 46, u 47, u 48, u 49, u 50, u 51, u 52, u 53, u 54, u 55, u 56, u 57, u 58, u 59, u 60, u 61, u 62, u 63, u 64, u 65, u 66, u 67, u 68, u 69, u 70, u 71, u 72, u 73, u 74, u 75, u 76, u 77, u 78, u 79, u 80, u 81, u 82, u 83, u 84, u 85, u 86, u 87, u 88, u 89, u 90, u 91, u 92, u 93, u 94, u 95] = (List.range 89).map (fun i => u (i + 7)) := by kernel_rfl
theorem FrA.lit {g : Nat} {bv wv : Value} {a : Act} (h : FrA g bv wv a) : ∃ u : Nat → Value, a = { tmps := #[.pointer (some ⟨g, 0, none⟩), bv, undef, undef, .slice none 0 0, .int .i64 0, wv, u 7, u 8, u 9, u 10, u 11, u 12, u 13, u 14, u 15, u 16, u 17, u 18, u 19, u 20, u 21, u 22, u 23, u 24, u 25, u 26, u 27, u 28, u 29, u 30, u 31, u 32, u 33, u 34, u 35, u 36, u 37, u 38, u 39, u 40, u 41, u 42, u 43, u 44, u 45, u 46, u 47, u 48, u 49, u 50, u 51, u 52, u 53, u 54, u 55, u 56, u 57, u 58, u 59, u 60, u 61, u 62, u 63, u 64, u 65, u 66, u 67, u 68, u 69, u 70, u 71, u 72, u 73, u 74, u 75, u 76, u 77, u 78, u 79, u 80, u 81, u 82, u 83, u 84, u 85, u 86, u 87, u 88, u 89, u 90, u 91, u 92, u 93, u 94, u 95], defers := [] } := by
  obtain ⟨t, d⟩ := a
  obtain ⟨h1, h2, h3⟩ := h
  obtain ⟨v, hv⟩ : ∃ v : Nat → Value, ∀ i, v i = t.getD i undef := ⟨fun i => t.getD i undef, fun _ => rfl⟩
  refine ⟨v, ?_⟩
  simp only at h1 h2 h3
  subst h2
  congr 1
  have e : t.toList = t.toList.take 7 ++ (List.range 89).map (fun i => v (i + 7)) := by
    apply List.ext_getElem?
    intro i
    by_cases hi : i < 7
    · rw [List.getElem?_append_left (by simp; omega), List.getElem?_take, if_pos hi]
    · rw [List.getElem?_append_right (by simp; omega)]
      simp only [List.length_take, Array.length_toList]
      rw [show min 7 t.size = 7 by omega]
      by_cases h96 : i < 96
      · rw [List.getElem?_map, List.getElem?_range (by omega)]
        simp [hv, show i - 7 + 7 = i by omega, show i < t.size by omega]
      · rw [List.getElem?_eq_none (by simp; omega), List.getElem?_eq_none (by simp; omega)]
  rw [h3, ← lit89] at e
  rw [← Array.toArray_toList (xs := t), e]
  rfl
/-- what holds along Feed -/
structure JF (w0 w : World) (g h m : Nat) (bl : List UInt8) (st0 : St) (i0 : Nat) (bb0 : Option Nat) (st : St) (i : Nat) (out : List (List UInt8)) (rest : List UInt8) (bb : Option Nat) (wv : Value) : Prop where
  lie : Lie w g h m st i bb
  own : w.ownsRow w0.heap.size 9 1 wv out.length (strs out)
  fr : Fr (g :: bb0.toList) w0 w
  nb : ∀ q, bb = some q → bb0 = some q ∨ w0.heap.size ≤ q
  eq : run h m ⟨st0, i0, []⟩ bl = run h m ⟨st, i, out⟩ rest
  ci : i + rest.length ≤ i0 + bl.length
  co : out.length + rest.length ≤ bl.length
  nl : out = [] → wv = .slice none 0 0
def At (rest : List UInt8) (st : St) : Nat → Nat → Prop
  | n, 0 => n = 2 * rest.length + 1 ∧ ∃ k q, st = .bod k q
  | n, 1 => n = 2 * rest.length ∧ ∃ q, st = .hdr q
  | _, _ => False
def J (w0 : World) (g h m gB : Nat) (bl : List UInt8) (st0 : St) (i0 : Nat) (bb0 : Option Nat) (n l : Nat) (a : Act) (w : World) : Prop :=
  ∃ st i out rest bb wv o C, FrA g (.slice (some ⟨gB, o, none⟩) rest.length C) wv a ∧ rest.length ≤ C ∧ Inb w0 gB o rest ∧ JF w0 w g h m bl st0 i0 bb0 st i out rest bb wv ∧ At rest st n l
theorem J_lt {w0 : World} {g h m gB : Nat} {bl : List UInt8} {st0 : St} {i0 : Nat} {bb0 : Option Nat} (n l : Nat) (a : Act) (w : World) (hj : J w0 g h m gB bl st0 i0 bb0 n l a w) : l < 2 := by
  obtain ⟨st, i, out, rest, bb, wv, o, C, _, _, _, _, hat⟩ := hj
  match l, hat with
  | 0, _ => decide
  | 1, _ => decide
def PostF (w0 : World) (g h m : Nat) (bb0 : Option Nat) (F : M) (e : Ending) (w' : World) : Prop :=
  ∃ v bb, e = .returned (.tuple #[v, .int .i64 (errN F.st : Int)]) ∧ w'.ownsRow w0.heap.size 9 1 v F.out.length (strs F.out) ∧ Lie w' g h m F.st F.idle bb ∧ (∀ q, bb = some q → bb0 = some q ∨ w0.heap.size ≤ q) ∧ Fr (g :: bb0.toList) w0 w' ∧ (F.out = [] → v = .slice none 0 0)
theorem own_nil (w : World) (b : Nat) : w.ownsRow b 9 1 (.slice none 0 0) 0 [] := ⟨rfl, .inl ⟨rfl, rfl⟩⟩
theorem own_keep {w y : World} {B e s n : Nat} {v : Value} {xs : List Value} (h : w.ownsRow B e s v n xs) (hk : ∀ p cur, v.ownBlock = some p → B ≤ p → w.heap[p]? = some (.cells cur e (0, 0)) → y.heap[p]? = w.heap[p]?) : y.ownsRow B e s v n xs := by
  refine ⟨h.1, ?_⟩
  rcases h.2 with h2 | ⟨g, cap, cur, rfl, h3, h4, h5⟩
  · exact .inl h2
  · exact .inr ⟨g, cap, cur, rfl, h3, (hk g cur rfl h3 h4).trans h4, h5⟩
theorem own_below {w y : World} {B e s n : Nat} {v : Value} {xs : List Value} (h : w.ownsRow B e s v n xs) (hb : Below w.heap.size w y) : y.ownsRow B e s v n xs :=
  own_keep h fun p cur _ _ hc => hb.block p (Array.getElem?_eq_some_iff.1 hc).1
/-- a row of texts stays, whatever becomes of g and of a block of bytes -/
theorem own_fr {w y : World} {B n : Nat} {v : Value} {xs : List Value} {g gp : Nat} (h : w.ownsRow B 9 1 v n xs) (f : Fr [g, gp] w y) (hg : g < B) (hp : ∃ cs, w.heap[gp]? = some (.cells cs 5)) : y.ownsRow B 9 1 v n xs :=
  own_keep h fun p cur hp1 hp2 hp3 => f.block p (Array.getElem?_eq_some_iff.1 hp3).1 (by
    intro hm
    simp only [List.mem_cons, List.not_mem_nil, or_false] at hm
    rcases hm with rfl | rfl
    · omega
    · obtain ⟨cs, hcs⟩ := hp
      rw [hp3] at hcs
      injection hcs with hcs
      injection hcs with _ hcs
      exact absurd hcs (by decide))
theorem own_fr1 {w y : World} {B e s n : Nat} {v : Value} {xs : List Value} {g : Nat} (h : w.ownsRow B e s v n xs) (f : Fr [g] w y) (hg : g < B) : y.ownsRow B e s v n xs :=
  own_keep h fun p cur hp1 hp2 hp3 => f.block p (Array.getElem?_eq_some_iff.1 hp3).1 (by
    intro hm
    simp only [List.mem_cons, List.not_mem_nil, or_false] at hm
    omega)
theorem infoStr : (Try.prog.info? 9).map (fun i => (i.zero, i.size, i.bytes)) = some (some (.string ⟨#[]⟩), 1, 16) := by kernel_rfl
theorem bs_str {w : World} {g : Nat} {l : List UInt8} (hg : w.heap[g]? = some (.cells (bs l).toArray 5)) (n C : Nat) (hn : l.length = n) : (convert 37 9 (.slice (some ⟨g, 0, none⟩) n C)).run Try.prog w = .ok (.string ⟨l.toArray⟩) w := by
  subst hn
  exact run_convert_bytes_back w 37 9 5 ⟨g, 0, none⟩ C l Try.underlying37 Try.underlying5 Try.underlying9 (fun j hj => by
    rw [show (⟨g, 0, none⟩ : Addr).add j = ⟨g, j, none⟩ by unfold Addr.add; split <;> simp_all]
    simp [World.cell?, hg, bs, hj])
theorem own_lo {w : World} {B e s n : Nat} {v : Value} {xs : List Value} (h : w.ownsRow B e s v n xs) (p : Nat) (hp : v.ownBlock = some p) : B ≤ p ∧ p < w.heap.size := by
  rcases h.2 with ⟨rfl, _⟩ | ⟨g, cap, cur, rfl, h3, h4, h5⟩
  · cases hp
  · cases hp; exact ⟨h3, (Array.getElem?_eq_some_iff.1 h4).1⟩
theorem grown_g {w y : World} {o : Obj} {r : Option Nat} (gr : (w.alloc o).grownBy y r) (g : Nat) (hg : g < w.heap.size) (hr : ∀ p, r = some p → p ≠ g) : y.heap[g]? = w.heap[g]? :=
  (gr.block g (by simp; omega) (fun e => hr g e.symm rfl)).trans (heap_alloc_old _ _ hg)
theorem new_cell1 (w : World) (v : Value) (t : TypeId) : ∀ j u, [v][j]? = some u → (w.alloc (.cells #[v] t)).cell? ((⟨w.heap.size, 0, none⟩ : Addr).add j) = some u := by
  intro j u hj
  obtain rfl : j = 0 := by have := (List.getElem?_eq_some_iff.1 hj).1; simp at this; exact this
  cases hj
  show (w.alloc (.cells #[v] t)).cell? ⟨w.heap.size, 0, none⟩ = some v
  unfold World.cell?; rw [h1_0]; rfl
theorem inb_next {w : World} {gB o o' C kk : Nat} {rest : List UInt8} (hb : Inb w gB o rest) (hC : rest.length ≤ C) (ho : kk < C → o' = o + kk) : Inb w gB o' (rest.drop kk) := by
  by_cases h : kk < C
  · rw [ho h]; exact hb.drop kk
  · rw [List.drop_eq_nil_of_le (by omega)]
    intro j u hj
    simp at hj
theorem strs_snoc (ls : List (List UInt8)) (l : List UInt8) : strs (ls ++ [l]) = strs ls ++ [str l] := by simp [strs]
set_option maxRecDepth 100000 in
set_option maxHeartbeats 6400000 in
theorem feed_any {w0 : World} {g h m : Nat} {st0 : St} {i0 : Nat} {bb0 : Option Nat} (L : Lie w0 g h m st0 i0 bb0) (h1 : 1 ≤ h) (h4 : h ≤ 4) (hm : m ≤ 9999)
    (gB o0 C0 : Nat) (bl : List UInt8) (hC0 : bl.length ≤ C0) (hb0 : Inb w0 gB o0 bl) (hg : gB ≠ g) (hgb : ∀ q, bb0 = some q → gB ≠ q) (hlt : gB < w0.heap.size) (hi0 : i0 + bl.length ≤ 4611686018427387904) (hl0 : bl.length ≤ 8796093022000) :
    Calls Try.prog 12 #[.pointer (some ⟨g, 0, none⟩), .slice (some ⟨gB, o0, none⟩) bl.length C0] w0 (PostF w0 g h m bb0 (run h m ⟨st0, i0, []⟩ bl)) := by
  have neN := neNil
  have eqN := eqNil
  go_enter Try.func12, Try.ntmps12
  go_wp2
  refine wp_scope_two (J w0 g h m gB bl st0 i0 bb0) (2 * bl.length + 2) J_lt rfl rfl ?p0 ?p1 ?first
  case p0 =>
    intro n a y hj
    obtain ⟨st, i, out, rest, bb, wv, o, C, hfa, hC, hb, Jf, hat⟩ := hj
    obtain ⟨u, rfl⟩ := hfa.lit
    clear hfa
    obtain ⟨rfl, k, q, rfl⟩ := hat
    obtain ⟨lie, own, fr, nb, eq, ci, co, nl⟩ := Jf
    have HNL : Hid (out = [] → wv = .slice none 0 0) := nl
    clear nl
    have hg0 : g < w0.heap.size := L.lt
    obtain ⟨a, b, c, d, body, t, e, S, gp, z, rfl, hne, rfl, hz, rfl, hkz, hqk, hkm, rfl⟩ := lie
    have c6 : y.cell? ⟨g, 6, none⟩ = some (.slice (some ⟨gp, 0, none⟩) k k) := S.ce 6
    have hby : Inb y gB o rest := hb.keep (fr.block gB hlt (by
      intro hm
      rcases List.mem_cons.1 hm with h | h
      · exact hg h
      · exact hgb gB (by simpa using h) rfl))
    obtain ⟨kk, hkk⟩ : ∃ kk, kk = min (k - q.length) rest.length := ⟨_, rfl⟩
    have T := take_body S q z hz rfl hkz hqk (by omega) hne gB o C rest hC hby kk hkk
    have HF : Hid (Fr (g :: bb0.toList) w0 y) := fr
    have HB : Hid (Inb w0 gB o rest) := hb
    have HJ : Hid (run h m ⟨st0, i0, []⟩ bl = run h m ⟨.bod k q, i, out⟩ rest) := eq
    have HA : Hid (i + rest.length ≤ i0 + bl.length ∧ out.length + rest.length ≤ bl.length ∧ i0 + bl.length ≤ 4611686018427387904 ∧ bl.length ≤ 8796093022000) := ⟨ci, co, hi0, hl0⟩
    have HM : Hid (kk = min (k - q.length) rest.length ∧ rest.length ≤ C ∧ q.length + z.length = k ∧ q.length < k ∧ k ≤ m ∧ m ≤ 9999) := ⟨hkk, hC, hkz, hqk, hkm, hm⟩
    clear fr hb hby eq ci co hi0 hl0 hkk hC hkz hqk hkm hm hC0 hb0 hgb hg hlt
    go_wp2_with fail
    refine T.mono ?_
    rintro e1 y1 ⟨o', S1, hz1, f1, ho, rfl⟩
    clear T c6
    have F1 : Hid (Fr (g :: bb0.toList) w0 y1) := HF.out.trans2 f1 (by
      intro x hx
      simp only [List.mem_cons, List.not_mem_nil, or_false] at hx
      rcases hx with rfl | rfl
      · exact .inl (by simp)
      · rcases nb _ rfl with h | h
        · exact .inl (by rw [h]; simp)
        · exact .inr h)
    have own1 : y1.ownsRow w0.heap.size 9 1 wv out.length (strs out) := own_fr own f1 hg0 ⟨_, hz⟩
    clear own HF f1
    have d6 : y1.cell? ⟨g, 6, none⟩ = some (.slice (some ⟨gp, 0, none⟩) k k) := S1.ce 6
    have d7 : y1.cell? ⟨g, 7, none⟩ = some (.int .i64 ((q.length + kk : Nat) : Int)) := S1.ce 7
    obtain ⟨hkk, hC, hkz, hqk, hkm, hm⟩ := HM.out
    have eq := HJ.out
    by_cases hful : q.length + kk < k
    · have hke : kk = rest.length := by omega
      have q1 : ((q.length + kk : Nat) : Int) < (k : Int) := by omega
      have HE : Hid (run h m ⟨st0, i0, []⟩ bl = ⟨.bod k (q ++ rest), i, out⟩) := eq.trans (run_bod h m k i out rest q (by omega))
      clear eq
      go_wp2_with fail
      go_quiet (fail)
      go_wp2_with fail
      refine jumps_ret (bodyPost_ret (results_tmp2 rfl _ _ _) rfl ?_)
      rw [HE.out]
      have bd := below_drewN (Below.refl y1.heap.size y1) nq
      refine ⟨wv, some gp, rfl, own_below own1 bd, Lie.below ⟨a, b, c, d, _, _, _, S1, gp, z.drop kk, rfl, hne, rfl, ?_, by rw [List.length_append, hke], ?_, ?_, hkm, rfl⟩ bd, fun x hx => nb x hx, F1.out.trans (Fr.of bd), HNL.out⟩
      · rw [hz1, hke, List.take_length]
      · simp; omega
      · simp; omega
    · have hke : q.length + kk = k := by omega
      have q1 : ¬ ((q.length + kk : Nat) : Int) < (k : Int) := by omega
      have HE : Hid (run h m ⟨st0, i0, []⟩ bl = run h m ⟨.hdr [], i, out ++ [q ++ rest.take kk]⟩ (rest.drop kk)) := by
        show _ = _
        rw [eq]
        conv => lhs; rw [← List.take_append_drop kk rest]
        rw [run_append, run_bod_full h m k i out (rest.take kk) q (by rw [List.length_take]; omega) hqk]
      clear eq
      have hz2 : z.drop kk = [] := List.drop_eq_nil_of_le (by omega)
      rw [hz2, List.append_nil] at hz1
      have cv := fun C => bs_str hz1 k C (by rw [List.length_append, List.length_take]; omega)
      obtain ⟨is, hi, hs0, hs1, hs2⟩ := info_parts infoStr
      have HK : Hid (q.length + kk = k) := hke
      have lk : kk ≤ rest.length := by omega
      have lp : 0 < kk := by omega
      clear hke hkk hz2 hkz hz
      obtain ⟨ms, Hms⟩ : ∃ ms, Hid (ms = q ++ rest.take kk) := ⟨_, rfl⟩
      clear cv
      have hml : ms.length = k := by rw [Hms.out, List.length_append, List.length_take]; have := HK.out; omega
      rw [← Hms.out] at hz1
      have HE2 : Hid (run h m ⟨st0, i0, []⟩ bl = run h m ⟨.hdr [], i, out ++ [ms]⟩ (rest.drop kk)) := by show _ = _; rw [HE.out, Hms.out]
      go_wp2_with fail
      go_quiet (fail)
      have bd := below_drewN (Below.refl y1.heap.size y1) nq
      have S2 := S1.below bd S1.lt
      have hz3 := (bd.block gp (Array.getElem?_eq_some_iff.1 hz1).1).trans hz1
      have own2 := own_below own1 bd
      have F2 : Hid (Fr (g :: bb0.toList) w0 (y1.drewN nq)) := F1.out.trans (Fr.of bd)
      generalize y1.drewN nq = y2 at *
      have cv := fun C => bs_str hz3 k C hml
      have e6 : y2.cell? ⟨g, 6, none⟩ = some (.slice (some ⟨gp, 0, none⟩) k k) := S2.ce 6
      have HZ : Hid (y2.heap[gp]? = some (.cells (bs ms).toArray 5)) := hz3
      have HS2 : Hid (Sm y2 g h m a b c d (.slice (some ⟨gp, 0, none⟩) k k) (q.length + kk) i 0) := S2
      have HO2 : Hid (y2.ownsRow w0.heap.size 9 1 wv out.length (strs out)) := own2
      have HN : Hid (∀ x, some gp = some x → bb0 = some x ∨ w0.heap.size ≤ x) := nb
      have HC : Hid (rest.length ≤ C ∧ (kk < C → o' = o + kk)) := ⟨hC, ho⟩
      have HL : Hid (ms.length = k) := hml
      have HA1 : Hid (out.length + 1 ≤ 8796093022000) := (by have := HA.out; omega : out.length + 1 ≤ 8796093022000)
      have HB0 : Hid (w0.heap.size ≤ y2.heap.size) := F2.out.size
      clear hz1 hz3 S1 S2 own1 own2 bd d6 d7 nb F1 HE hml ho hC hqk hkm hm lk lp hne
      go_wp2_with (at_builtin; refine wpList_append_lies _ rfl _ _ _ rfl w0.heap.size 9 is _ 1 16 Try.underlying39 hi hs0 hs1 hs2 rfl (by omega) wv out.length (strs out) rfl (own_below HO2.out (below_one y2 _)) ⟨y2.heap.size, 0, none⟩ 1 1 [str ms] rfl rfl (new_cell1 y2 (str ms) 9) (by intro x hx; rw [List.mem_singleton.1 hx]; rfl) (by omega) (by have := HA1.out; unfold maxLen; omega) (by have := HA1.out; omega) (by have := HB0.out; simp; omega) _ rfl ?_; intro g3 cap3 y3 own3 gr3 at3 lt3)
      have hgn : ∀ p, wv.ownBlock = some p → p ≠ g := fun p hp he => by have := (own_lo HO2.out p hp).1; omega
      have S3 := HS2.out.keep (grown_g gr3 g HS2.out.lt hgn)
      have F3 : Hid (Fr (g :: bb0.toList) w0 y3) := (F2.out.behind ((Below.refl _ _).alloc HB0.out _)).grown gr3 fun p hp => .inr (own_lo HO2.out p hp).1
      have HO3 : Hid (y3.ownsRow w0.heap.size 9 1 (.slice (some ⟨g3, 0, none⟩) (out.length + 1) cap3) (out.length + 1) (strs out ++ [str ms])) := own3
      clear own3 gr3 at3 lt3 hgn
      refine (drop_any S3).mono ?_
      rintro e4 y4 ⟨rfl, S4, f4⟩
      clear S3
      have own4 := own_fr1 HO3.out f4 hg0
      have F4 : Fr (g :: bb0.toList) w0 y4 := F3.out.trans2 f4 (by
        intro x hx
        simp only [List.mem_cons, List.not_mem_nil, or_false] at hx
        exact .inl (by simp [hx]))
      clear f4
      go_wp2_with fail
      go_step3
      obtain ⟨hC, ho⟩ := HC.out
      obtain ⟨ci, co, hi0, hl0⟩ := HA.out
      have hkp : 0 < kk ∧ kk ≤ rest.length := by
        obtain ⟨h1, h2, h3, h4, _⟩ := HM.out
        have := HK.out
        omega
      refine ⟨2 * (rest.drop kk).length, by rw [List.length_drop]; omega, ⟨.hdr [], i, out ++ [ms], rest.drop kk, none, _, _, _, ⟨rfl, rfl, by rw [List.length_drop]; rfl⟩, by rw [List.length_drop]; omega, inb_next HB.out hC ho, ⟨⟨a, b, c, d, _, _, _, S4, rfl, rfl, rfl, wid_pos h, rfl, rfl⟩, ?_, F4, fun q hq => (by cases hq), HE2.out, ?_, ?_, fun hx => (by simp at hx)⟩, rfl, [], rfl⟩⟩
      · rw [strs_snoc, List.length_append]; exact own4
      · rw [List.length_drop]; omega
      · rw [List.length_drop, List.length_append, List.length_cons, List.length_nil]; omega
  case p1 =>
    intro hp0 n a y hj
    obtain ⟨st, i, out, rest, bb, wv, o, C, hfa, hC, hb, Jf, hat⟩ := hj
    obtain ⟨u, rfl⟩ := hfa.lit
    clear hfa
    obtain ⟨rfl, q, rfl⟩ := hat
    obtain ⟨lie, own, fr, nb, eq, ci, co, nl⟩ := Jf
    have HNL : Hid (out = [] → wv = .slice none 0 0) := nl
    clear nl
    have hg0 : g < w0.heap.size := L.lt
    obtain ⟨a, b, c, d, body, t, e, S, rfl, rfl, rfl, hqw, hql, rfl⟩ := lie
    have c0 : y.cell? ⟨g, 0, none⟩ = some (.int .i64 (h : Int)) := S.ce 0
    have hby : Inb y gB o rest := hb.keep (fr.block gB hlt (by
      intro hm
      rcases List.mem_cons.1 hm with h | h
      · exact hg h
      · exact hgb gB (by simpa using h) rfl))
    have hlty : gB < y.heap.size := Nat.lt_of_lt_of_le hlt fr.size
    have hgl : g < y.heap.size := S.lt
    obtain ⟨kk, hkk⟩ : ∃ kk, kk = min (wid h - q.length) rest.length := ⟨_, rfl⟩
    have T : Hid (∀ y1, Below y.heap.size y y1 → _) := fun y1 (hy1 : Below y.heap.size y y1) => take_head (S.below hy1 S.lt) (wid h) (wid_le h) hqw gB o C rest hC (hby.keep (hy1.block gB hlty)) kk hkk
    have p : ∀ w, _ := fun w => width_any h h1 h4 w
    have HF : Hid (Fr (g :: bb0.toList) w0 y) := fr
    have HB : Hid (Inb w0 gB o rest) := hb
    have HJ : Hid (run h m ⟨st0, i0, []⟩ bl = run h m ⟨.hdr q, i, out⟩ rest) := eq
    have HA : Hid (i + rest.length ≤ i0 + bl.length ∧ out.length + rest.length ≤ bl.length ∧ i0 + bl.length ≤ 4611686018427387904 ∧ bl.length ≤ 8796093022000) := ⟨ci, co, hi0, hl0⟩
    have HM : Hid (kk = min (wid h - q.length) rest.length ∧ rest.length ≤ C ∧ q.length < wid h ∧ m ≤ 9999 ∧ [a, b, c, d].take q.length = q) := ⟨hkk, hC, hqw, hm, hql⟩
    have HO : Hid (y.ownsRow w0.heap.size 9 1 wv out.length (strs out)) := own
    have H14 : Hid (1 ≤ h ∧ h ≤ 4) := ⟨h1, h4⟩
    have hw4 := wid_int h
    generalize hW : wid h = W at *
    have HW : Hid (wid h = W) := hW
    clear hW fr hb hby eq ci co hi0 hl0 hkk hC hqw hm hql hC0 hb0 hgb hg hlt own nb hlty h1 h4
    go_wp2_with fail
    refine Ql.region_twoL (C := Ql.Cl y) (by kernel_rfl) rfl (by kernel_rfl) (by kernel_rfl) (by kernel_rfl) rfl rfl ((Below.refl _ _).drew) ?_
    dsimp only [List.dropLast]
    repeat (first | go_big_quiet_skip | (go_big_quiet_want; go_big_quiet_op; first | go_big_quiet_on | (refine ⟨_, fun _ _ => rfl, ?_⟩; go_big_quiet_on) | (refine ⟨_, fun _ _ => ⟨rfl, rfl⟩, ?_⟩; go_big_quiet_on)) | (refine wpQuiet_step (fun K hK => ?_); first
      | (refine Ql.q_cell (by rfl) 3 _ rfl g 0 rfl _ c0 hgl (fun y => Try.isAgg3 y) (hK _ ?_); clear hK K; simp only [Act.put, List.setIfInBounds_toArray, List.set_cons_succ, List.set_cons_zero])
      | (go_simp; apply Exists.intro; refine ⟨fun y hy => ?_, hK _ ?_⟩; (first | (go_at_call 36; exact Ql.cl_same hy (p _))); clear hK K)
      | fail))
    refine wpQuiet_nil ?_
    intro y1 hy1
    go_simp
    refine (T.out y1 hy1).mono ?_
    rintro e1 y2 ⟨a', b', c', d', o', hq', S2, f2, ho, rfl⟩
    clear T S c0 hgl
    have F2 : Hid (Fr (g :: bb0.toList) w0 y2) := (HF.out.trans (Fr.of hy1)).trans2 f2 (by
      intro x hx
      simp only [List.mem_cons, List.not_mem_nil, or_false] at hx
      exact .inl (by simp [hx]))
    have HO2 : Hid (y2.ownsRow w0.heap.size 9 1 wv out.length (strs out)) := own_fr1 (own_below HO.out hy1) f2 hg0
    have d0 : y2.cell? ⟨g, 0, none⟩ = some (.int .i64 (h : Int)) := S2.ce 0
    have d7 : y2.cell? ⟨g, 7, none⟩ = some (.int .i64 ((q.length + kk : Nat) : Int)) := S2.ce 7
    have HQ : Hid (∃ tl, [a', b', c', d'] = (q ++ rest.take kk) ++ tl) := by
      refine ⟨[a, b, c, d].drop (q.length + kk), ?_⟩
      rw [hq', HM.out.2.2.2.2]
    have HP : Hid (kk < C → o' = o + kk) := ho
    have HS2 : Hid (Sm y2 g h m a' b' c' d' (.slice none 0 0) (q.length + kk) i 0) := S2
    have hk2 : kk ≤ rest.length ∧ (q.length + kk < W → kk = rest.length) ∧ q.length + kk ≤ W := by
      obtain ⟨h1, h2, h3, _⟩ := HM.out
      omega
    obtain ⟨hkr, hke, hkw⟩ := hk2
    clear hy1 hq' S2 f2 ho HO HF
    by_cases hful : q.length + kk < W
    · have hk3 := hke hful
      have q1 : ((q.length + kk : Nat) : Int) < (W : Int) := by omega
      have HE : Hid (run h m ⟨st0, i0, []⟩ bl = ⟨.hdr (q ++ rest), i, out⟩) := HJ.out.trans (run_hdr h m i out rest q (by rw [HW.out, ← hk3]; exact hful))
      have HK : Hid (kk = rest.length) := hk3
      clear hke hkw hk3 hkr
      go_wp2_with fail
      go_quiet ((go_at_call 36; exact Calls.quiet_of_same (p _)))
      go_wp2_with fail
      refine jumps_ret (bodyPost_ret (results_tmp2 rfl _ _ _) rfl ?_)
      rw [HE.out]
      have bd := below_drewN (Below.refl y2.heap.size y2) nq
      obtain ⟨tl, hq⟩ := HQ.out
      have hk3 := HK.out
      rw [hk3, List.take_length] at hq
      refine ⟨wv, none, rfl, own_below HO2.out bd, Lie.below ⟨a', b', c', d', _, _, _, HS2.out, rfl, rfl, by rw [List.length_append, hk3], ?_, ?_, rfl⟩ bd, fun x hx => (by cases hx), F2.out.trans (Fr.of bd), HNL.out⟩
      · rw [List.length_append, HW.out]; omega
      · rw [hq]; exact List.take_left
    · have hk3 : q.length + kk = W := by omega
      have q1 : ¬ ((q.length + kk : Nat) : Int) < (W : Int) := by omega
      have HE : Hid (run h m ⟨st0, i0, []⟩ bl = run h m (opn h m ⟨.hdr q, i, out⟩ (q ++ rest.take kk)) (rest.drop kk)) := by
        show _ = _
        rw [HJ.out]
        conv => lhs; rw [← List.take_append_drop kk rest]
        rw [run_append, run_hdr_full h m i out (rest.take kk) q (by rw [List.length_take, HW.out]; omega) (by rw [HW.out]; exact HM.out.2.2.1)]
      have HT : Hid (tell h m [a', b', c', d'] = tell h m (q ++ rest.take kk)) := by
        show _ = _
        obtain ⟨tl, hq⟩ := HQ.out
        rw [← tell_take, HW.out, hq, List.take_left' (by rw [List.length_append, List.length_take]; omega)]
      have HK : Hid (q.length + kk = W ∧ kk ≤ rest.length) := ⟨hk3, hkr⟩
      clear hke hkw hk3 hkr
      go_wp2_with fail
      go_quiet ((go_at_call 36; exact Calls.quiet_of_same (p _)))
      have bd := below_drewN (Below.refl y2.heap.size y2) nq
      have S3 := HS2.out.below bd HS2.out.lt
      have HO3 : Hid ((y2.drewN nq).ownsRow w0.heap.size 9 1 wv out.length (strs out)) := own_below HO2.out bd
      have F3 : Hid (Fr (g :: bb0.toList) w0 (y2.drewN nq)) := F2.out.trans (Fr.of bd)
      generalize y2.drewN nq = y3 at *
      clear bd HS2 HO2 F2 d0 d7
      go_wp2_with fail
      refine (opens_any S3 H14.out.1 H14.out.2 HM.out.2.2.2.1).mono ?_
      rintro e5 y4 ⟨rfl, f5, body', S5, hb0, hb1⟩
      clear S3
      rw [HT.out] at hb0 hb1 S5
      have hte := tell_bad (h := h) (m := m) (l := q ++ rest.take kk)
      have htl := tell_le h m (q ++ rest.take kk)
      have hop : opn h m ⟨.hdr q, i, out⟩ (q ++ rest.take kk) = if (tell h m (q ++ rest.take kk)).2 ≠ 0 then ⟨.brk (tell h m (q ++ rest.take kk)).2, i, out⟩ else if (tell h m (q ++ rest.take kk)).1 = 0 then ⟨.hdr [], i + 1, out⟩ else ⟨.bod (tell h m (q ++ rest.take kk)).1 [], i, out⟩ := rfl
      rw [hop] at HE
      clear hop HT HQ
      generalize (tell h m (q ++ rest.take kk)).1 = T1 at *
      generalize (tell h m (q ++ rest.take kk)).2 = T2 at *
      have F4 : Hid (Fr (g :: bb0.toList) w0 y4) := F3.out.trans2 f5 (by
        intro x hx
        simp only [List.mem_cons, List.not_mem_nil, or_false] at hx
        exact .inl (by simp [hx]))
      have HO4 : Hid (y4.ownsRow w0.heap.size 9 1 wv out.length (strs out)) := own_fr1 HO3.out f5 hg0
      have hsz : w0.heap.size ≤ y3.heap.size := F3.out.size
      have HGp : Hid (T1 ≠ 0 → ∃ gp, w0.heap.size ≤ gp ∧ gp ≠ g ∧ body' = .slice (some ⟨gp, 0, none⟩) T1 T1 ∧ y4.heap[gp]? = some (.cells (bs (List.replicate T1 0)).toArray 5)) := by
        intro hx
        obtain ⟨gp, g1, g2, g3⟩ := hb1 hx
        exact ⟨gp, by omega, by omega, g2, g3⟩
      have HG0 : Hid (T1 = 0 → body' = .slice none 0 0) := hb0
      have HTE : Hid ((T2 ≠ 0 → T1 = 0) ∧ T1 ≤ m) := ⟨hte, htl⟩
      have k9 : y4.cell? ⟨g, 9, none⟩ = some (.int .i64 (T2 : Int)) := S5.ce 9
      have k6 : y4.cell? ⟨g, 6, none⟩ = some body' := S5.ce 6
      have HS5 : Hid (Sm y4 g h m a' b' c' d' body' 0 i T2) := S5
      clear hb0 hb1 hte htl S5 f5 F3 HO3 hsz
      by_cases h2 : T2 = 0
      · subst h2
        by_cases h3 : T1 = 0
        · obtain rfl := HG0.out h3
          have k8 : y4.cell? ⟨g, 8, none⟩ = some (.int .i64 (i : Int)) := HS5.out.ce 8
          have f8 := HS5.out.fz 8
          have hii : (i : Int) ≤ 4611686018427387904 := by have := HA.out; omega
          have H3 : Hid (T1 = 0) := h3
          clear h3
          go_wp2_with fail
          go_step3
          have hC := HM.out.2.1
          obtain ⟨ci, co, hi0, hl0⟩ := HA.out
          have hkp : 0 < kk ∧ kk ≤ rest.length := by
            obtain ⟨h1, h2, h3, _⟩ := HM.out
            have := HK.out
            omega
          refine ⟨2 * (rest.drop kk).length, by rw [List.length_drop]; omega, ⟨.hdr [], i + 1, out, rest.drop kk, none, _, _, _, ⟨rfl, rfl, by rw [List.length_drop]; rfl⟩, by rw [List.length_drop]; omega, inb_next HB.out hC HP.out, ⟨⟨a', b', c', d', _, _, _, HS5.out.set8 (i + 1), rfl, rfl, rfl, wid_pos h, rfl, rfl⟩, ?_, F4.out.set (.inl (by simp)) _ _, fun q hq => (by cases hq), ?_, ?_, ?_, HNL.out⟩, rfl, [], rfl⟩⟩
          · exact own_fr1 HO4.out ((Fr.refl [g] _).set (.inl (by simp)) _ _) hg0
          · rw [HE.out, if_neg (fun h => h rfl), if_pos H3.out]
          · rw [List.length_drop]; omega
          · rw [List.length_drop]; omega
        · obtain ⟨gp, g0, g1, rfl, g3⟩ := HGp.out h3
          have HG3 : Hid (y4.heap[gp]? = some (.cells (bs (List.replicate T1 0)).toArray 5)) := g3
          clear g3
          go_wp2_with fail
          go_step3
          rename_i K9 hK9
          refine hK9 _ _ ?_
          have hC := HM.out.2.1
          obtain ⟨ci, co, hi0, hl0⟩ := HA.out
          have hkp : 0 < kk ∧ kk ≤ rest.length := by
            obtain ⟨h1, h2, h3, _⟩ := HM.out
            have := HK.out
            omega
          refine Code.wp_mono (jumps_less ?_) (hp0 (2 * (rest.drop kk).length + 1) _ _ ⟨.bod T1 [], i, out, rest.drop kk, some gp, _, _, _, ⟨rfl, rfl, by rw [List.length_drop]; rfl⟩, by rw [List.length_drop]; omega, inb_next HB.out hC HP.out, ⟨⟨a', b', c', d', _, _, _, HS5.out, gp, List.replicate T1 0, rfl, g1, rfl, HG3.out, rfl, by simp, by simp; omega, HTE.out.2, rfl⟩, HO4.out, F4.out, fun x hx => .inr (by cases hx; exact g0), ?_, ?_, ?_, HNL.out⟩, rfl, T1, [], rfl⟩)
          · rw [List.length_drop]; omega
          · rw [HE.out, if_neg (fun h => h rfl), if_neg h3]
          · rw [List.length_drop]; omega
          · rw [List.length_drop]; omega
      · have h3 := HTE.out.1 h2
        obtain rfl := HG0.out h3
        have q9 : ((T2 : Int) != 0) = true := by simp; omega
        have HE2 : Hid (run h m ⟨st0, i0, []⟩ bl = ⟨.brk T2, i, out⟩) := by show _ = _; rw [HE.out, if_pos h2, run_brk]
        have H2 : Hid (T2 ≠ 0) := h2
        clear HE h2 h3
        go_wp2_with fail
        go_quiet (fail)
        go_wp2_with fail
        refine jumps_ret (bodyPost_ret (results_tmp2 rfl _ _ _) rfl ?_)
        rw [HE2.out]
        have bd := below_drewN (Below.refl y4.heap.size y4) nq
        exact ⟨wv, none, rfl, own_below HO4.out bd, Lie.below ⟨a', b', c', d', _, _, _, HS5.out, rfl, rfl, rfl, rfl, H2.out⟩ bd, fun x hx => (by cases hx), F4.out.trans (Fr.of bd), HNL.out⟩
  case first =>
    intro hp1
    obtain ⟨a, b, c, d, body, t, e, S, LS⟩ := L
    have c6 : w0.cell? ⟨g, 6, none⟩ = some body := S.ce 6
    have c9 : w0.cell? ⟨g, 9, none⟩ = some (.int .i64 (e : Int)) := S.ce 9
    cases st0 with
    | brk k =>
      obtain ⟨rfl, rfl, rfl, rfl, hk⟩ := LS
      have q9 : ((e : Int) != 0) = true := by simp; omega
      go_wp2
      go_quiet (fail)
      go_wp2
      refine jumps_ret (bodyPost_ret (results_tmp2 rfl _ _ _) rfl ?_)
      refine ⟨.slice none 0 0, none, (by rw [run_brk]; rfl), (by rw [run_brk]; exact own_nil _ _), ?_, fun q hq => (by cases hq), Fr.of (below_drewN (Below.refl _ _) _), fun _ => rfl⟩
      rw [run_brk]
      exact Lie.below ⟨a, b, c, d, _, _, _, S, rfl, rfl, rfl, rfl, hk⟩ (below_drewN (Below.refl _ _) _)
    | hdr l =>
      obtain ⟨rfl, rfl, rfl, hl, hq, rfl⟩ := LS
      go_wp2
      go_step3
      rename_i K9 hK9
      refine hK9 _ _ ?_
      exact Code.wp_mono (jumps_less (by omega)) (hp1 (2 * bl.length) _ _ ⟨(.hdr l), i0, [], bl, none, _, _, _, ⟨rfl, rfl, rfl⟩, hC0, hb0, ⟨⟨a, b, c, d, _, _, _, S, rfl, rfl, rfl, hl, hq, rfl⟩, own_nil _ _, Fr.refl _ _, fun q hq => (by cases hq), rfl, Nat.le_refl _, by simp, fun _ => rfl⟩, rfl, l, rfl⟩)
    | bod n l =>
      obtain ⟨gp, z, rfl, hne, rfl, hz, rfl, hn, hln, hnm, rfl⟩ := LS
      go_wp2
      go_step3
      refine ⟨2 * bl.length + 1, by omega, ⟨(.bod n l), i0, [], bl, (some gp), _, _, _, ⟨rfl, rfl, rfl⟩, hC0, hb0, ⟨⟨a, b, c, d, _, _, _, S, gp, z, rfl, hne, rfl, hz, rfl, hn, hln, hnm, rfl⟩, own_nil _ _, Fr.refl _ _, fun q hq => .inl hq, rfl, Nat.le_refl _, by simp, fun _ => rfl⟩, rfl, n, l, rfl⟩⟩

end Go.Proofs.Ytfoddooehanemaa.Fg
