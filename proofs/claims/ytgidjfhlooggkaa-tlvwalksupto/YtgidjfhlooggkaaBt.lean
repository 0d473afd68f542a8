/- What the laws about reading want: one post for all, and trees apart. -/
import Derived.Test.YtgidjfhlooggkaaBs
import Derived.Test.YtgidjfhlooggkaaAg
import Derived.Test.YtgidjfhlooggkaaGn
namespace Go.Proofs.Ytgidjfhlooggkaa.Bt
set_option linter.unusedVariables false
set_option linter.unusedSimpArgs false
open Go.RowKit Kb Nt Li Bo Bp Bq Bs Np Gn Go_ Ag
def trs : NR → List Tr
  | .ok ts _ _ => ts
  | .bad _ _ => []
def eR : NR → Int
  | .ok _ _ _ => 0
  | .bad y _ => y
def aR : NR → Int
  | .ok _ _ _ => 0
  | .bad _ a => a
def PostU (w : World) (R : NR) (x : Ending) (w' : World) : Prop := ∃ v ats, x = .returned (.tuple #[v, .int .i64 (eR R), .int .i64 (aR R)]) ∧ er ats = trs R ∧ Nt.Own w' w.heap.size v ats ∧ Below w.heap.size w w'
theorem uni {w w' : World} {R : NR} {x : Ending} (h : PostR w R x w') : PostU w R x w' := by
  cases R with
  | ok ts k b =>
    obtain ⟨v, ats, rfl, he, ho, hb⟩ := h
    exact ⟨v, ats, rfl, he, ho, hb⟩
  | bad y a =>
    obtain ⟨rfl, hb⟩ := h
    exact ⟨_, [], rfl, by simp [er, trs], own_nil _ _, hb⟩
theorem ls_cnt : ∀ ats : List AT, (lsK ats).length = cnt (er ats)
  | [] => by simp [lsK, er, cnt]
  | .mk t v kv ks :: ts => by
    simp only [lsK, er, cnt, List.length_append, List.length_cons, ls_cnt ks, ls_cnt ts]
    omega
theorem cnt_parse (s : ByteArray) : cnt (trs (parseR s)) ≤ 500 := by
  cases h : parseR s with
  | bad y a => simp [trs, cnt]
  | ok ts k b =>
    unfold parseR at h
    split at h
    · have h1 := nodesR_ok _ _ _ _ _ _ _ _ (by omega) h
      have h2 := nodes_en _ _ _ _ _ _ _ _ (Nat.zero_le _) (Nat.le_refl _) (by omega) h
      simp only [trs]
      omega
    · cases h
/-- trees that lie one behind the other -/
def Ch (w : World) : Nat → List (Value × List AT) → Prop
  | lo, [] => True
  | lo, p :: r => ∃ b hi, lo ≤ b ∧ lo ≤ hi ∧ Nt.Own w b p.1 p.2 ∧ (∀ q ∈ p.1.ownBlock.toList ++ fp p.2, q < hi) ∧ Ch w hi r
theorem obs_alls : ∀ (p : Value × List AT) (r : List (Value × List AT)), obs (alls (p :: r)) = (p.1.ownBlock.toList ++ fp p.2) ++ obs (alls r) := by
  intro p r
  rw [alls, obs_app, obs_cons, obs_ls]
theorem ch_apart {w : World} : ∀ (Ts : List (Value × List AT)) (lo : Nat), Ch w lo Ts → (obs (alls Ts)).Nodup ∧ ∀ q ∈ obs (alls Ts), lo ≤ q
  | [], lo, _ => by simp [alls, obs]
  | p :: r, lo, ⟨b, hi, h1, h2, ho, hq, hr⟩ => by
    obtain ⟨i1, i2⟩ := ch_apart r hi hr
    rw [obs_alls]
    refine ⟨List.nodup_append.2 ⟨ho.apart, i1, fun x hx y hy e => ?_⟩, fun q hm => ?_⟩
    · have := hq x hx
      have := i2 y hy
      omega
    · rcases List.mem_append.1 hm with hm | hm
      · have := (ho.lt q hm).1; omega
      · have := i2 q hm; omega
theorem ch_rows {w : World} : ∀ (Ts : List (Value × List AT)) (lo : Nat), Ch w lo Ts → ∀ u ∈ alls Ts, ∃ xs, w.ownsRow 0 40 3 u (ln u) xs ∧ ln u ≤ 1048576
  | [], lo, _, u, hu => by simp [alls] at hu
  | p :: r, lo, ⟨b, hi, h1, h2, ho, hq, hr⟩, u, hu => by
    rw [alls] at hu
    rcases List.mem_append.1 hu with hu | hu
    · obtain ⟨xs, hx, hl⟩ := rows_own ho u hu
      exact ⟨xs, owns_base (Nat.zero_le _) hx, hl⟩
    · exact ch_rows r hi hr u hu
theorem ch_rd {w : World} : ∀ (Ts : List (Value × List AT)) (lo : Nat), Ch w lo Ts → ∀ p ∈ Ts, Rdn w p.1 p.2
  | [], lo, _, p, hp => by simp at hp
  | p :: r, lo, ⟨b, hi, h1, h2, ho, hq, hr⟩, p', hp => by
    rcases List.mem_cons.1 hp with rfl | hp
    · exact ho.reads
    · exact ch_rd r hi hr p' hp
theorem ins_of {w : World} {g0 : Nat} {ta : Addr} {Ts : List (Value × List AT)} {lo : Nat} (hc : Ch w lo Ts) (hb : w.heap[g0]? = some (.cells #[.slice none 0 0, .slice none 0 0] 32)) (ht : ∀ i (h : i < Ts.length), w.cell? (ta.add i) = some Ts[i].1) (hf : (alls Ts).length ≤ 2000) : Ins w g0 ta Ts :=
  ⟨hb, ht, ch_rd Ts lo hc, hf, ch_rows Ts lo hc, pa_of _ (ch_apart Ts lo hc).1⟩
theorem fr_below {B : Nat} {L : List Nat} {w x y : World} (h : Below B w x) (hB : B ≤ x.heap.size) (k : Fr L x y) (hl : ∀ b ∈ L, B ≤ b) : Below B w y :=
  ⟨k.os.trans h.os, k.tape.trans h.tape, k.output.trans h.output, Nat.le_trans h.size k.size, fun b hb => (k.block b (Nat.lt_of_lt_of_le hb hB) (fun hm => by have := hl b hm; omega)).trans (h.block b hb)⟩
theorem held_of {w w' : World} {g0 : Nat} {A : List Value} {e : Ending} (h : Out w g0 A e w') : e = .returned (.tuple #[]) ∧ (∃ E lv mv, Held w' g0 E lv mv w.heap.size) ∧ Fr (g0 :: obs A) w w' := by
  obtain ⟨h0, E, lv, mv, h1, h2, h3, h4, h5, h6⟩ := h
  exact ⟨h0, ⟨E, lv, mv, h1, h2, h3, h4, h5⟩, h6⟩
theorem own_fr {L : List Nat} {w w' : World} {base : Nat} {v : Value} {ats : List AT} (h : Nt.Own w base v ats) (k : Fr L w w') (hl : ∀ b ∈ L, b < base ∨ w.heap.size ≤ b) : Nt.Own w' base v ats :=
  h.keep fun b hb => k.block b (h.lt b hb).2 fun hm => by have := h.lt b hb; have := hl b hm; omega
theorem obs_ch {w : World} {g0 lo : Nat} {Ts : List (Value × List AT)} (hc : Ch w lo Ts) (hg : lo ≤ g0) : ∀ b ∈ g0 :: obs (alls Ts), lo ≤ b := by
  intro b hb
  rcases List.mem_cons.1 hb with rfl | hb
  · exact hg
  · exact (ch_apart Ts lo hc).2 b hb
theorem own_fr' {L : List Nat} {w w' : World} {lo base hi : Nat} {v : Value} {ats : List AT} (h : Nt.Own w base v ats) (hb : ∀ b ∈ v.ownBlock.toList ++ fp ats, b < hi) (k : Fr L w w') (hl : ∀ b ∈ L, lo ≤ b ∧ (b < base ∨ hi ≤ b)) : Nt.Own w' base v ats :=
  h.keep fun b hb2 => k.block b (h.lt b hb2).2 fun hm => by have := h.lt b hb2; have := hl b hm; have := hb b hb2; omega
end Go.Proofs.Ytgidjfhlooggkaa.Bt
