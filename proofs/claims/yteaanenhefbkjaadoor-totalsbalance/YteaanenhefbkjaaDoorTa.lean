/- Rows of fields; message.Get. -/
import Derived.Test.YteaanenhefbkjaaDoorIc
import Derived.Test.YteaanenhefbkjaaDoorXp
namespace Go.Proofs.YteaanenhefbkjaaDoor.Ta
set_option linter.unusedVariables false
set_option linter.unusedSimpArgs false
open Go.RowKit Lib0 Kb Xp Ic
attribute [local go_sem] Oper.semAt_some
abbrev tF : TypeId := 38
abbrev Fl := Int × ByteArray
def fv (x : Fl) : Value := .agg #[.int .i64 x.1, .string x.2, .slice none 0 0]
def fc (L : List Fl) : List Value := L.flatMap fun x => [.int .i64 x.1, .string x.2, .slice none 0 0]
theorem fc_cons (x : Fl) (L : List Fl) : fc (x :: L) = .int .i64 x.1 :: .string x.2 :: .slice none 0 0 :: fc L := by simp [fc]
theorem fc_len : ∀ L : List Fl, (fc L).length = L.length * 3
  | [] => rfl
  | x :: L => by
    have := fc_len L
    rw [fc_cons]
    simp only [List.length_cons, this]
    omega
theorem fc_append (L M : List Fl) : fc (L ++ M) = fc L ++ fc M := by simp [fc]
theorem fc_at : ∀ (L : List Fl) (i : Nat) (h : i < L.length), (fc L)[i * 3]? = some (.int .i64 L[i].1) ∧ (fc L)[i * 3 + 1]? = some (.string L[i].2) ∧ (fc L)[i * 3 + 2]? = some (.slice none 0 0)
  | [], i, h => by simp at h
  | x :: L, 0, h => by simp [fc]
  | x :: L, i + 1, h => by
    have := fc_at L i (by simpa using h)
    rw [fc_cons, show (i + 1) * 3 = i * 3 + 1 + 1 + 1 by omega, show i * 3 + 1 + 1 + 1 + 1 = (i * 3 + 1) + 1 + 1 + 1 by omega, show i * 3 + 1 + 1 + 1 + 2 = (i * 3 + 2) + 1 + 1 + 1 by omega]
    simpa using this
theorem fc_one (L : List Fl) : ∀ u ∈ fc L, u.oneCell' = true := by
  intro u hu
  simp only [fc, List.mem_flatMap] at hu
  obtain ⟨x, hx, hu⟩ := hu
  simp at hu
  rcases hu with rfl | rfl | rfl <;> simp [Value.oneCell']
/-- a row of fields that can be read -/
def RowF (w : World) (v : Value) (L : List Fl) : Prop :=
  ∃ (o : Option Addr) (cap : Nat), v = .slice o L.length cap ∧ ∀ i (h : i < L.length), ∃ a : Addr, o = some a ∧ w.cell? (a.add (i * 3)) = some (.int .i64 L[i].1) ∧ w.cell? ⟨(a.add (i * 3)).block, (a.add (i * 3)).off + 1, none⟩ = some (.string L[i].2) ∧ w.cell? ⟨(a.add (i * 3)).block, (a.add (i * 3)).off + 2, none⟩ = some (.slice none 0 0)
theorem rowf_own {w : World} {base : Nat} {t : TypeId} {v : Value} {L : List Fl} (h : w.ownsRow base t 3 v L.length (fc L)) : RowF w v L := by
  rcases h.2 with ⟨rfl, h0⟩ | ⟨g, cap, cur, rfl, r⟩
  · have e : L = [] := List.eq_nil_of_length_eq_zero h0
    subst e
    exact ⟨none, 0, rfl, fun i hi => by simp at hi⟩
  · refine ⟨some ⟨g, 0, none⟩, cap, rfl, fun i hi => ⟨⟨g, 0, none⟩, rfl, h.cells (g := g) rfl _ _ (fc_at L i hi).1, ?_, ?_⟩⟩
    · have := h.cells (g := g) rfl _ _ (fc_at L i hi).2.1
      rwa [add_field _ _ _ (by decide)] at this
    · have := h.cells (g := g) rfl _ _ (fc_at L i hi).2.2
      rwa [add_field _ _ _ (by decide)] at this
theorem rowf_below {w x : World} {v : Value} {L : List Fl} (h : RowF w v L) (k : Below w.heap.size w x) : RowF x v L := by
  obtain ⟨o, cap, e, hc⟩ := h
  refine ⟨o, cap, e, fun i hi => ?_⟩
  obtain ⟨a, ea, c0, c1, c2⟩ := hc i hi
  have kk : ∀ p u, w.cell? p = some u → x.cell? p = some u := fun p u hp => (k.cell (World.block_lt_of_cell? w _ hp)).trans hp
  exact ⟨a, ea, kk _ _ c0, kk _ _ c1, kk _ _ c2⟩
theorem rowf_nil (w : World) : RowF w (.slice none 0 0) [] := ⟨none, 0, rfl, fun i hi => by simp at hi⟩

def getF : List Fl → Int → Option ByteArray
  | [], _ => none
  | x :: L, n => if x.1 = n then some x.2 else getF L n
def getV (L : List Fl) (n : Int) : ByteArray := (getF L n).getD ⟨#[]⟩
def getB (L : List Fl) (n : Int) : Bool := (getF L n).isSome
theorem getF_drop (L : List Fl) (n : Int) (i : Nat) (h : i < L.length) : getF (L.drop i) n = if L[i].1 = n then some L[i].2 else getF (L.drop (i + 1)) n := by
  rw [List.drop_eq_getElem_cons h]; rfl
abbrev tMs : TypeId := 42
set_option maxRecDepth 100000 in
set_option maxHeartbeats 1600000 in
theorem get_any (mti : ByteArray) (v : Value) (L : List Fl) (n : Int) (w : World) (h : RowF w v L) (hl : L.length ≤ 1000) (hs : ∀ x ∈ L, x.2.size ≤ 1000000) : Calls Tryd.prog 16 #[.agg #[.string mti, v], .int .i64 n] w fun e w' => e = .returned (.tuple #[.string (getV L n), .bool (getB L n)]) ∧ Below w.heap.size w w' := by
  obtain ⟨o, cap, rfl, hc⟩ := h
  have HC : Hid (∀ i (h : i < L.length), ∃ a : Addr, o = some a ∧ w.cell? (a.add (i * 3)) = some (.int .i64 L[i].1) ∧ w.cell? ⟨(a.add (i * 3)).block, (a.add (i * 3)).off + 1, none⟩ = some (.string L[i].2) ∧ w.cell? ⟨(a.add (i * 3)).block, (a.add (i * 3)).off + 2, none⟩ = some (.slice none 0 0)) := hc
  have HCL : Hid (∀ y (s : ByteArray), s.size ≤ 1000000 → Calls Tryd.prog 28 #[.string s] y fun e w' => e = .returned (.string s) ∧ Below y.heap.size y w') := fun y s hs => clone_any s y (by omega)
  have HS : Hid (∀ x ∈ L, x.2.size ≤ 1000000) := hs
  obtain ⟨N, HN⟩ : ∃ N, Hid (L.length = N) := ⟨_, rfl⟩
  rw [HN.out] at hl
  rw [HN.out]
  have HL : Hid (N ≤ 1000) := hl
  have HB0 : Hid (Below w.heap.size w (w.alloc (.cells #[.string mti, .slice o N cap] tMs))) := below_one _ _
  clear hc hs hl
  go_enter Tryd.func16, Tryd.ntmps16
  go_wp2_with fail
  go_loopw [7, 11] (fun _ iv wr => ∃ i : Nat, iv = .int .i64 (i : Int) ∧ Hid (i ≤ N ∧ getF L n = getF (L.drop i) n) ∧ Hid (Below w.heap.size w wr)) (fun _ iv _ => N + 1 - (intOf iv).toNat)
  case atStart => exact ⟨0, rfl, ⟨Nat.zero_le _, by rw [List.drop_zero]⟩, HB0.out⟩
  case round =>
    obtain ⟨i, rfl, HI, HB⟩ := hrel
    by_cases hlt : i < N
    · have hiL : i < L.length := by rw [HN.out]; exact hlt
      obtain ⟨a, rfl, c0, c1, c2⟩ := HC.out i hiL
      have kk : ∀ q u, w.cell? q = some u → wr.cell? q = some u := fun q u hq => (HB.out.cell (World.block_lt_of_cell? w _ hq)).trans hq
      replace c0 := kk _ _ c0
      replace c1 := kk _ _ c1
      replace c2 := kk _ _ c2
      have hg := HI.out.2
      rw [getF_drop L n i hiL] at hg
      have hsz := HS.out L[i] (List.getElem_mem hiL)
      obtain ⟨x, hx⟩ : ∃ x, L[i] = x := ⟨_, rfl⟩
      rw [hx] at c0 c1 hg hsz
      obtain ⟨m, s⟩ := x
      dsimp only at c0 c1 hg hsz
      have HBA : Hid (Below w.heap.size w (wr.alloc (.cells #[.int .i64 m, .string s, .slice none 0 0] tF))) := keepB HB.out (below_one _ _)
      have q0 : (i : Int) < (N : Int) := by omega
      have q1 : (0 : Int) ≤ (i : Int) := by omega
      have q2 : (i : Int) + 1 ≤ 9223372036854775807 := by have := HL.out; omega
      have HLT : Hid (i < N) := hlt
      by_cases hm : m = n
      · subst hm
        rw [if_pos rfl] at hg
        have HG : Hid (getF L m = some s) := hg
        have HSZ : Hid (s.size ≤ 1000000) := hsz
        clear hg hx kk hlt hiL hsz
        go_wp2_with fail
        refine (HCL.out _ s HSZ.out).mono ?_
        rintro e y ⟨rfl, hy⟩
        have HBY : Hid (Below w.heap.size w y) := keepB HBA.out hy
        clear hy
        go_wp2_with fail
        go_ret2
        exact ⟨by simp [getV, getB, HG.out], HBY.out⟩
      · rw [if_neg hm] at hg
        have HG : Hid (getF L n = getF (L.drop (i + 1)) n) := hg
        have hm2 : (m == n) = false := beq_eq_false_iff_ne.2 hm
        clear hg hx kk hlt hiL hsz hm
        go_wp2_with fail
        refine ⟨⟨i + 1, by simp, ⟨by have := HLT.out; omega, HG.out⟩, HBA.out⟩, ?_⟩
        have := HLT.out
        simp only [intOf]; omega
    · obtain rfl : i = N := by have := HI.out.1; omega
      have HG : Hid (getF L n = none) := by
        have := HI.out.2
        rw [List.drop_of_length_le (by rw [HN.out]; exact Nat.le_refl _)] at this
        exact this
      have q0 : decide ((i : Int) < (i : Int)) = false := decide_eq_false (by omega)
      clear hlt
      go_wp2_with fail
      go_ret2
      exact ⟨by simp [getV, getB, HG.out], HB.out⟩
end Go.Proofs.YteaanenhefbkjaaDoor.Ta
