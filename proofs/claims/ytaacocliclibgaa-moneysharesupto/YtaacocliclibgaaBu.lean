/- Share told alike on both sides; the book's beginnings. -/
import Derived.Test.YtaacocliclibgaaBt
import Derived.Test.YtaacocliclibgaaLn
import Derived.Test.YtaacocliclibgaaSj
namespace Go.Proofs.Ytaacocliclibgaa.Bu
set_option linter.unusedVariables false
set_option linter.unusedSimpArgs false
open Go.RowKit Sl Kb Ow Ds Bb Bc Bd Be Bs
/-- what the document's Share deals out -/
def Doc (u : Int) (z zl : List Int) : Prop := ∀ (v : Value) (y : World), Lies y v z → Calls Try.prog 13 #[.int .i64 u, v] y fun e w' => ∃ vc, e = .returned (.tuple #[vc, .int .i64 (Sj.shE u z)]) ∧ Own w' y.heap.size vc zl ∧ Below y.heap.size y w' ∧ (zl = [] → vc = .slice none 0 0)
theorem rf_inC {w : World} {g N : Nat} {F : Nat → Int} (h : w.heap[g]? = some (.cells (inC N F) 3 (0, 0))) : Rf w g N N F := ⟨inC N F, h, inC_size N F, fun i hi => inC_get N F i hi⟩
theorem share_uni (u : Int) (z : List Int) (v : Value) (w : World) (hl : z.length ≤ 1048700) (h : Lies w v z) :
    Calls Try.prog 11 #[.int .i64 u, v] w fun e w' => ∃ va zl, e = .returned (.tuple #[va, .int .i64 (Sj.shE u z)]) ∧ Own w' w.heap.size va zl ∧ zl.length ≤ 100 ∧ Below w.heap.size w w' ∧ Doc u z zl := by
  by_cases hg : Mp.isA u = true ∧ Tg.tgB z = true
  · obtain ⟨hu, hz⟩ := hg
    have hw : Tg.wOK z = true ∧ 0 < Mp.sm z := by simpa [Tg.tgB] using hz
    have hw2 : z.length ≤ 100 ∧ z.all Tg.isW = true := by simpa [Tg.wOK] using hw.1
    have hne : z ≠ [] := fun e => by rw [e] at hw; simp [Mp.sm] at hw
    have h0 : 0 < z.length := List.length_pos_iff.2 hne
    have eE : Sj.shE u z = 0 := by rw [Sj.shE, hu, hz]; rfl
    refine (Sj.share_good u z v w h hu hz).mono ?_
    rintro e w' ⟨g, c, rfl, hh, hgw, hb, hm, hs, hcb⟩
    have ho := of_rf (base := w.heap.size) (rf_inC hh) hgw (Nat.le_refl _) (by unfold maxLen; omega)
    have hlen : (fl (Sa.more (Sa.xF u z) c (u - Sa.xS u z z.length).toNat) z.length).length = z.length := fl_len _ _
    refine ⟨_, fl (Sa.more (Sa.xF u z) c (u - Sa.xS u z z.length).toNat) z.length, by rw [eE], ?_, by rw [hlen]; exact hw2.1, hb, fun v2 y hy => ?_⟩
    · unfold Own; rw [hlen]; exact ho
    · refine (Dt.dshare_good u z v2 y c hy hu hz hm hs hcb).mono ?_
      rintro e w2 ⟨g2, co, rfl, ho2, hb2⟩
      refine ⟨_, by rw [eE], ?_, hb2, fun e0 => ?_⟩
      · unfold Own; rw [hlen]; exact ho2
      · rw [e0] at hlen; simp at hlen; omega
  · have hb : Mp.isA u = true → Tg.tgB z = false := fun hu => by
      cases h2 : Tg.tgB z with
      | false => rfl
      | true => exact absurd ⟨hu, h2⟩ hg
    refine (Sj.share_bad u z v w hl h hb).mono ?_
    rintro e w' ⟨rfl, hbw⟩
    refine ⟨_, [], rfl, own_nil _ _ _, by simp, hbw, fun v2 y hy => ?_⟩
    refine (Dt.dshare_bad u z v2 y hl hy hb).mono ?_
    rintro e w2 ⟨rfl, hw2⟩
    subst hw2
    exact ⟨_, rfl, own_nil _ _ _, Below.refl _ _, fun _ => rfl⟩
theorem share_712 (v : Value) (w : World) (h : Lies w v [2, 1, 2]) :
    Calls Try.prog 11 #[.int .i64 7, v] w fun e w' => ∃ va, e = .returned (.tuple #[va, .int .i64 0]) ∧ Own w' w.heap.size va [3, 1, 3] ∧ Below w.heap.size w w' := by
  refine (Sj.share_good 7 [2, 1, 2] v w h (by decide) (by decide)).mono ?_
  rintro e w' ⟨g, c, rfl, hh, hgw, hb, hm, hs, hcb⟩
  have k0 : Sa.rF 7 [2, 1, 2] 0 = 4 := by decide
  have k1 : Sa.rF 7 [2, 1, 2] 1 = 2 := by decide
  have k2 : Sa.rF 7 [2, 1, 2] 2 = 4 := by decide
  have hpos : ∀ i, i < 3 → 0 ≤ Sa.rF 7 [2, 1, 2] i := fun i hi => by
    match i, hi with
    | 0, _ => omega
    | 1, _ => omega
    | 2, _ => omega
  have c0 : c 0 = 0 := (Dp.next hm hs hcb hpos (j := 0) (by decide)).uniq ⟨by decide, fun i hi => by
    match i, hi with
    | 0, _ => exact Int.le_refl _
    | 1, _ => show Sa.rF 7 [2, 1, 2] 1 ≤ Sa.rF 7 [2, 1, 2] 0; omega
    | 2, _ => show Sa.rF 7 [2, 1, 2] 2 ≤ Sa.rF 7 [2, 1, 2] 0; omega, fun i hi => by omega⟩
  have r0 : Dp.rj (Sa.rF 7 [2, 1, 2]) c 1 0 = -1 := by simp [Dp.rj, updI, c0]
  have r1 : Dp.rj (Sa.rF 7 [2, 1, 2]) c 1 1 = 2 := by simp [Dp.rj, updI, c0, k1]
  have r2 : Dp.rj (Sa.rF 7 [2, 1, 2]) c 1 2 = 4 := by simp [Dp.rj, updI, c0, k2]
  have c1 : c 1 = 2 := (Dp.next hm hs hcb hpos (j := 1) (by decide)).uniq ⟨by decide, fun i hi => by
    match i, hi with
    | 0, _ => rw [r0, r2]; decide
    | 1, _ => rw [r1, r2]; decide
    | 2, _ => exact Int.le_refl _, fun i hi => by
    match i, hi with
    | 0, _ => rw [r0, r2]; decide
    | 1, _ => rw [r1, r2]; decide⟩
  have hK : (7 - Sa.xS 7 [2, 1, 2] ([2, 1, 2] : List Int).length).toNat = 2 := by decide
  have x0 : Sa.xF 7 [2, 1, 2] 0 = 2 := by decide
  have x1 : Sa.xF 7 [2, 1, 2] 1 = 1 := by decide
  have x2 : Sa.xF 7 [2, 1, 2] 2 = 2 := by decide
  have ho := of_rf (base := w.heap.size) (rf_inC hh) hgw (Nat.le_refl _) (by unfold maxLen; decide)
  have hlist : fl (Sa.more (Sa.xF 7 [2, 1, 2]) c (7 - Sa.xS 7 [2, 1, 2] ([2, 1, 2] : List Int).length).toNat) ([2, 1, 2] : List Int).length = [3, 1, 3] := by
    rw [hK]
    show [_, _, _] = _
    simp [Sa.more, updI, c0, c1, x0, x1, x2]
  rw [hlist] at ho
  exact ⟨_, rfl, ho, hb⟩
section
variable {w0 w y : World} {base gB : Nat} {Pr : List (Nat × Obj)} {F W : List (Value × List Int)} {L : List (Value × Int)} {vf vw vl : Value}
/-- nothing in the book lies where a new list lies -/
theorem Bk.fresh (S : Bk w0 w base gB Pr F W L vf vw vl) {va : Value} {z : List Int} {x : World} (ho : Own x w.heap.size va z) : (∀ p ∈ F, ∀ g, p.1.ownBlock = some g → va.ownBlock ≠ some g) ∧ (∀ q ∈ L, ∀ g, q.1.ownBlock = some g → va.ownBlock ≠ some g) ∧ Fre Pr va := by
  refine ⟨fun p hp g h1 h2 => ?_, fun p hp g h1 h2 => ?_, fun q hq h2 => ?_⟩
  · have := ((S.fo p hp).lt g h1).2; have := (ho.lt g h2).1; omega
  · have := ((S.lo p hp).lt g h1).2; have := (ho.lt g h2).1; omega
  · have := (Array.getElem?_eq_some_iff.1 (S.kp q hq)).1; have := (ho.lt q.1 h2).1; omega
/-- one block more is left alone -/
theorem Bk.more (S : Bk w0 w base gB Pr F W L vf vw vl) {g : Nat} {c : Array Value} {fr : Nat × Nat} (hg : w.heap[g]? = some (.cells c 3 fr)) (h1 : ∀ p ∈ F, p.1.ownBlock ≠ some g) (h2 : ∀ q ∈ L, q.1.ownBlock ≠ some g) : Bk w0 w base gB ((g, .cells c 3 fr) :: Pr) F W L vf vw vl := by
  refine ⟨S.blk, S.frow, S.wrow, S.lrow, S.nfw, S.nfl, S.nwl, S.fo, S.wo, S.lo, S.fsep, S.flsep, fun p hp q hq => ?_, fun p hp q hq => ?_, fun q hq => ?_, fun q hq => ?_, S.gb, S.low, S.fr, S.sm1, S.sm2, S.sm3, S.l12, S.lm⟩
  · rcases List.mem_cons.1 hq with rfl | hq
    · exact h1 p hp
    · exact S.kf p hp q hq
  · rcases List.mem_cons.1 hq with rfl | hq
    · exact h2 p hp
    · exact S.kl p hp q hq
  · rcases List.mem_cons.1 hq with rfl | hq
    · exact hg
    · exact S.kp q hq
  · rcases List.mem_cons.1 hq with rfl | hq
    · exact ⟨_, _, rfl⟩
    · exact S.kb q hq
/-- the owner of the one block that is left alone writes into it -/
theorem Bk.turn {g : Nat} {c : Array Value} {fr : Nat × Nat} (S : Bk w0 w base gB [(g, .cells c 3 fr)] [] [] L (.slice none 0 0) (.slice none 0 0) vl) (hg : base ≤ g) (k : Nat) (v : Value) : Bk w0 (w.setCell ⟨g, k, none⟩ v) base gB [(g, .cells (c.setIfInBounds k v) 3 fr)] [] [] L (.slice none 0 0) (.slice none 0 0) vl := by
  have hgg := S.kp (g, Obj.cells c 3 fr) (by simp)
  have hne : g ≠ gB := fun e => by
    have := S.blk
    rw [← e, hgg] at this
    cases this
  have kr : ∀ {b e s n : Nat} {v' : Value} {xs : List Value}, w.ownsRow b e s v' n xs → v'.ownBlock ≠ some g → (w.setCell ⟨g, k, none⟩ v).ownsRow b e s v' n xs := fun r hn => owns_keep r fun p hp => sc_ne (fun e2 => hn (by rw [hp, e2])) _ _
  refine ⟨(sc_ne hne _ _).trans S.blk, own_nil _ _ _, own_nil _ _ _, kr S.lrow (fun h => fre_row S.kp S.kb S.lrow (by decide) (g, Obj.cells c 3 fr) (by simp) h), S.nfw, S.nfl, S.nwl, fun p hp => by simp at hp, fun p hp => by simp at hp, fun p hp => kr (S.lo p hp) (S.kl p hp (g, Obj.cells c 3 fr) (by simp)), S.fsep, S.flsep, fun p hp => by simp at hp, fun p hp q hq => ?_, fun q hq => ?_, fun q hq => ?_, S.gb, S.low, S.fr.setCell (p := ⟨g, k, none⟩) hg _, S.sm1, fun p hp => by simp at hp, S.sm3, S.l12, S.lm⟩
  · obtain rfl := List.mem_singleton.1 hq
    exact S.kl p hp (g, Obj.cells c 3 fr) (by simp)
  · obtain rfl := List.mem_singleton.1 hq
    exact sc_heap hgg k v
  · obtain rfl := List.mem_singleton.1 hq
    exact ⟨_, _, rfl⟩
theorem Bk.start {w w1 : World} {gB g : Nat} {c : Array Value} (hb : Below w.heap.size w w1) (hB : w1.heap[gB]? = some (.cells #[.slice none 0 0, .slice none 0 0, .slice none 0 0] 37)) (hg : w1.heap[g]? = some (.cells c 3 (0, 0))) (hw : w.heap.size ≤ gB) :
    Bk w w1 w.heap.size gB [(g, .cells c 3 (0, 0))] [] [] [] (.slice none 0 0) (.slice none 0 0) (.slice none 0 0) := by
  refine ⟨hB, own_nil _ _ _, own_nil _ _ _, own_nil _ _ _, fun b h => ?_, fun b h => ?_, fun b h => ?_, fun p hp => by simp at hp, fun p hp => by simp at hp, fun p hp => by simp at hp, fun i j hi => by simp at hi, fun p hp => by simp at hp, fun p hp => by simp at hp, fun p hp => by simp at hp, fun q hq => ?_, fun q hq => ?_, hw, Nat.le_refl _, hb, by simp, fun p hp => by simp at hp, fun p hp => by simp at hp, ⟨0, by omega, rfl⟩, fun k h => by simp at h⟩
  · simp [Value.ownBlock] at h
  · simp [Value.ownBlock] at h
  · simp [Value.ownBlock] at h
  · obtain rfl := List.mem_singleton.1 hq
    exact hg
  · obtain rfl := List.mem_singleton.1 hq
    exact ⟨_, _, rfl⟩
end
end Go.Proofs.Ytaacocliclibgaa.Bu
