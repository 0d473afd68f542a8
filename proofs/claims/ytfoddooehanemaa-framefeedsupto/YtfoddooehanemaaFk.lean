/- Frames: a stream fed in pieces. -/
import Derived.Test.YtfoddooehanemaaFj
import Derived.Test.YtfoddooehanemaaPick
import Derived.Test.YtfoddooehanemaaSl
import Derived.Laws.AppendOwnNone
namespace Go.Proofs.Ytfoddooehanemaa.Fk
set_option linter.unusedVariables false
set_option linter.unusedSimpArgs false
open Go.RowKit Lib0 Kb Fa Fb Fc Fm Fe Ff Fg Fj
/-- messages put ahead -/
def addO (o : List (List UInt8)) (x : M) : M := ⟨x.st, x.idle, o ++ x.out⟩
theorem opn_add (h m : Nat) (o : List (List UInt8)) (x : M) (l : List UInt8) : opn h m (addO o x) l = addO o (opn h m x l) := by
  unfold opn
  split
  · rfl
  · split <;> rfl
theorem stp_add (h m : Nat) (o : List (List UInt8)) (x : M) (c : UInt8) : stp h m (addO o x) c = addO o (stp h m x c) := by
  obtain ⟨st, i, out⟩ := x
  cases st with
  | hdr l =>
    show (if l.length + 1 < wid h then (⟨.hdr (l ++ [c]), i, o ++ out⟩ : M) else opn h m (addO o ⟨.hdr l, i, out⟩) (l ++ [c])) = addO o (if l.length + 1 < wid h then ⟨.hdr (l ++ [c]), i, out⟩ else opn h m ⟨.hdr l, i, out⟩ (l ++ [c]))
    split
    · rfl
    · exact opn_add h m o _ _
  | bod n l =>
    show (if l.length + 1 < n then (⟨.bod n (l ++ [c]), i, o ++ out⟩ : M) else ⟨.hdr [], i, (o ++ out) ++ [l ++ [c]]⟩) = addO o (if l.length + 1 < n then ⟨.bod n (l ++ [c]), i, out⟩ else ⟨.hdr [], i, out ++ [l ++ [c]]⟩)
    split
    · rfl
    · simp [addO]
  | brk e => rfl
theorem run_add (h m : Nat) (o : List (List UInt8)) : ∀ (b : List UInt8) (x : M), run h m (addO o x) b = addO o (run h m x b)
  | [], x => rfl
  | c :: b, x => by rw [run_cons, stp_add, run_add h m o b, run_cons]
theorem run_out (h m : Nat) (st : St) (i : Nat) (o : List (List UInt8)) (b : List UInt8) : run h m ⟨st, i, o⟩ b = ⟨(run h m ⟨st, i, []⟩ b).st, (run h m ⟨st, i, []⟩ b).idle, o ++ (run h m ⟨st, i, []⟩ b).out⟩ := by
  have := run_add h m o b ⟨st, i, []⟩
  rw [show addO o ⟨st, i, []⟩ = ⟨st, i, o⟩ by simp [addO]] at this
  exact this
theorem stp_cnt (h m : Nat) (x : M) (c : UInt8) : (stp h m x c).idle ≤ x.idle + 1 ∧ (stp h m x c).out.length ≤ x.out.length + 1 := by
  obtain ⟨st, i, out⟩ := x
  cases st with
  | hdr l =>
    simp only [stp]
    split
    · simp
    · unfold opn
      split
      · simp
      · split <;> simp
  | bod n l =>
    simp only [stp]
    split <;> simp
  | brk e => simp [stp]
theorem run_cnt (h m : Nat) : ∀ (b : List UInt8) (x : M), (run h m x b).idle ≤ x.idle + b.length ∧ (run h m x b).out.length ≤ x.out.length + b.length
  | [], x => by simp [run_nil]
  | c :: b, x => by
    rw [run_cons]
    have h1 := run_cnt h m b (stp h m x c)
    have h2 := stp_cnt h m x c
    simp only [List.length_cons]
    omega
/-- who is broken stays so -/
theorem run_err (h m : Nat) (st : St) (i : Nat) (o : List (List UInt8)) (b : List UInt8) (he : errN (run h m ⟨st, i, o⟩ b).st = 0) : errN st = 0 := by
  cases st with
  | hdr l => rfl
  | bod n l => rfl
  | brk e => rwa [run_brk] at he
theorem conv_bytes (w : World) (s : ByteArray) : ∃ C w', (convert 9 37 (.string s)).run Try.prog w = .ok (.slice (some ⟨w.heap.size, 0, none⟩) s.size C) w' ∧ s.size ≤ C ∧ Below w.heap.size w w' ∧ w'.heap.size = w.heap.size + 1 ∧ Inb w' w.heap.size 0 s.data.toList := by
  refine ⟨_, _, run_bytes_of_string w 9 37 5 s Try.underlying9 Try.underlying37 Try.underlying5, grownCap_ge _ _ _ _, (Below.refl _ _).drew.alloc (by simp) _, by simp, ?_⟩
  generalize grownCap w s.size 0 5 = C
  intro j u hj
  have hjl := (List.getElem?_eq_some_iff.1 hj).1
  have hu := (List.getElem?_eq_some_iff.1 hj).2
  have h := h1_0 w.drew (.cells (bytesRow s C) 5 ((bytesRow s C).size, (bytesRow s C).size + 1))
  rw [show w.drew.heap.size = w.heap.size from rfl] at h
  unfold World.cell?
  rw [h]
  have hjs : j < s.data.size := by simpa using hjl
  have hue : s.data[j] = u := by rw [← hu]; simp
  have hj2 : j < s.size := hjs
  simp [bytesRow, Array.getElem?_append]
  rw [if_pos hj2, Array.getElem?_eq_getElem hjs, hue]
  rfl
theorem own_lie {w y : World} {B n : Nat} {v : Value} {xs : List Value} {g h m : Nat} {st : St} {i : Nat} {bb : Option Nat} (o : w.ownsRow B 9 1 v n xs) (L : Lie w g h m st i bb) (f : Fr (g :: bb.toList) w y) (hg : g < B) : y.ownsRow B 9 1 v n xs := by
  obtain ⟨a, b, c, d, body, t, e, S, LS⟩ := L
  cases st with
  | hdr l => obtain ⟨rfl, _⟩ := LS; exact own_fr1 o f hg
  | bod k l =>
    obtain ⟨gp, z, rfl, _, _, hz, _⟩ := LS
    exact own_fr o f hg ⟨_, hz⟩
  | brk e => obtain ⟨rfl, _⟩ := LS; exact own_fr1 o f hg
/-- a block of texts is no block of the Stream -/
theorem lie_ne {w : World} {g h m : Nat} {st : St} {i : Nat} {bb : Option Nat} (L : Lie w g h m st i bb) {p : Nat} {cs : Array Value} (hp : w.heap[p]? = some (.cells cs 9)) : p ≠ g ∧ ∀ q, bb = some q → p ≠ q := by
  obtain ⟨a, b, c, d, body, t, e, S, LS⟩ := L
  refine ⟨?_, fun q hq => ?_⟩
  · rintro rfl
    rw [show w.heap[p]? = _ from S] at hp
    injection hp with hp
    injection hp with _ hp
    exact absurd hp (by decide)
  · rintro rfl
    cases st with
    | hdr l => rw [LS.1] at hq; cases hq
    | bod k l =>
      obtain ⟨gp, z, h1, _, _, hz, _⟩ := LS
      rw [h1] at hq; cases hq
      rw [hz] at hp
      injection hp with hp
      injection hp with _ hp
      exact absurd hp (by decide)
    | brk e => rw [LS.1] at hq; cases hq
theorem own_cells {w : World} {B n : Nat} {v : Value} {xs : List Value} (o : w.ownsRow B 9 1 v n xs) (p : Nat) (hp : v.ownBlock = some p) : ∃ cs, w.heap[p]? = some (.cells cs 9) := by
  rcases o.2 with ⟨rfl, _⟩ | ⟨g, cap, cur, rfl, h3, h4, h5⟩
  · cases hp
  · cases hp; exact ⟨_, h4⟩
theorem lie_grown {w y : World} {g h m : Nat} {st : St} {i : Nat} {bb : Option Nat} (L : Lie w g h m st i bb) {B n : Nat} {v : Value} {xs : List Value} (o : w.ownsRow B 9 1 v n xs) (gr : w.grownBy y v.ownBlock) : Lie y g h m st i bb := by
  have hne : ∀ p, v.ownBlock = some p → p ≠ g ∧ ∀ q, bb = some q → p ≠ q := fun p hp => by
    obtain ⟨cs, hc⟩ := own_cells o p hp
    exact lie_ne L hc
  exact L.keep (gr.block g L.lt fun e => (hne g e.symm).1 rfl) fun q hq => gr.block q (L.blt q hq).1 fun e => (hne q e.symm).2 q hq rfl
/-- one Feed of a piece, told along the whole -/
theorem JF.fed {w wr wr1 y : World} {g h m : Nat} {bl p q : List UInt8} {st0 : St} {i0 : Nat} {bb0 : Option Nat} {st : St} {i : Nat} {out : List (List UInt8)} {bb : Option Nat} {lv : Value} {e : Ending} (J : JF w wr g h m bl st0 i0 bb0 st i out (p ++ q) bb lv) (hb : Below wr.heap.size wr wr1) (hg : g < w.heap.size) (P : PostF wr1 g h m bb (run h m ⟨st, i, []⟩ p) e y) :
    ∃ v st' i' o' bb', e = .returned (.tuple #[v, .int .i64 (errN st' : Int)]) ∧ y.ownsRow wr1.heap.size 9 1 v o'.length (strs o') ∧ (o' = [] → v = .slice none 0 0) ∧ Lie y g h m st' i' bb' ∧ y.ownsRow w.heap.size 9 1 lv out.length (strs out) ∧ Fr (g :: bb0.toList) w y ∧ (∀ x, bb' = some x → bb0 = some x ∨ w.heap.size ≤ x) ∧ run h m ⟨st0, i0, []⟩ bl = run h m ⟨st', i', out ++ o'⟩ q ∧ i' + q.length ≤ i0 + bl.length ∧ (out ++ o').length + q.length ≤ bl.length ∧ (errN st' = 0 → errN st = 0) := by
  obtain ⟨v, bb', rfl, own, L, nb, f, hn⟩ := P
  have hc := run_cnt h m p ⟨st, i, []⟩
  have hs0 := J.fr.size
  have hs1 := hb.size
  have hci := J.ci
  have hco := J.co
  simp only [List.length_append, List.length_nil] at hc hci hco
  have L1 := J.lie.below hb
  refine ⟨v, _, _, _, bb', rfl, own, hn, L, own_lie (own_below J.own hb) L1 f hg, ?_, ?_, ?_, ?_, ?_, fun he => run_err h m st i [] p he⟩
  · refine (J.fr.trans (Fr.of hb)).trans2 f (fun b hb2 => ?_)
    rcases List.mem_cons.1 hb2 with rfl | hb3
    · exact .inl (by simp)
    · have hbb : bb = some b := by simpa using hb3
      rcases J.nb b hbb with h | h
      · exact .inl (by rw [h]; simp)
      · exact .inr h
  · intro x hx
    rcases nb x hx with h | h
    · exact J.nb x h
    · exact .inr (by omega)
  · rw [J.eq, run_append, run_out h m st i out p]
  · omega
  · rw [List.length_append]; omega
/-- what was fed comes behind the list -/
theorem JF.app {w y y2 : World} {g h m : Nat} {bl q : List UInt8} {st0 : St} {i0 : Nat} {bb0 : Option Nat} {st' : St} {i' : Nat} {out o' : List (List UInt8)} {bb' : Option Nat} {lv lv' : Value} (L : Lie y g h m st' i' bb') (own : y.ownsRow w.heap.size 9 1 lv out.length (strs out)) (f : Fr (g :: bb0.toList) w y) (nb : ∀ x, bb' = some x → bb0 = some x ∨ w.heap.size ≤ x) (eq : run h m ⟨st0, i0, []⟩ bl = run h m ⟨st', i', out ++ o'⟩ q) (ci : i' + q.length ≤ i0 + bl.length) (co : (out ++ o').length + q.length ≤ bl.length)
    (own' : y2.ownsRow w.heap.size 9 1 lv' (out ++ o').length (strs (out ++ o'))) (nl : out ++ o' = [] → lv' = .slice none 0 0) (gr : y.grownBy y2 lv.ownBlock) : JF w y2 g h m bl st0 i0 bb0 st' i' (out ++ o') q bb' lv' :=
  ⟨lie_grown L own gr, own', f.grown gr fun p hp => .inr (own_lo own p hp).1, nb, eq, ci, co, nl⟩
theorem grown_refl (w : World) (r : Option Nat) : w.grownBy w r := ⟨rfl, rfl, rfl, Nat.le_refl _, fun _ _ _ => rfl⟩
end Go.Proofs.Ytfoddooehanemaa.Fk
