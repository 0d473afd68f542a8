/- Frames: the laws' book. -/
import Derived.Test.YtfoddooehanemaaFv
import Derived.Test.YtfoddooehanemaaFh
namespace Go.Proofs.Ytfoddooehanemaa.Eb
set_option linter.unusedVariables false
set_option linter.unusedSimpArgs false
open Go.RowKit Lib0 Kb Fa Fb Fc Fm Fe Ff Fg Fk Fu Fv
def mkL (n : Nat) : List UInt8 := [109, 97, 114, 107] ++ [n / 250 % 256, n % 250].map UInt8.ofNat
set_option maxRecDepth 100000 in
theorem mark_any (n : Nat) (hn : n ≤ 1048576000) (w : World) : Calls Try.prog 40 #[.int .i64 (n : Int)] w fun e w' => e = .returned (str (mkL n)) ∧ Below w.heap.size w w' := by
  have HE : Hid ((⟨#[109, 97, 114, 107]⟩ : ByteArray) ++ ⟨([n / 250 % 256, n % 250].map UInt8.ofNat).toArray⟩ = ⟨(mkL n).toArray⟩) := by
    show _ = _
    apply ByteArray.ext
    simp [mkL, ByteArray.data_append]
  have hnI : (n : Int) ≤ 1048576000 := by omega
  have HR : Hid (([n / 250 % 256, n % 250].map UInt8.ofNat).length = 2) := (rfl : ([n / 250 % 256, n % 250].map UInt8.ofNat).length = 2)
  obtain ⟨R, hR⟩ : ∃ R, [n / 250 % 256, n % 250].map UInt8.ofNat = R := ⟨_, rfl⟩
  rw [hR] at HE HR
  have HR2 : Hid ([n / 250 % 256, n % 250].map UInt8.ofNat = R) := hR
  have hl : R.length = 2 := HR.out
  clear hR HR
  go_enter Try.func40, Try.ntmps40
  go_wp2_with fail
  rw [Fh.conv2 _ _ _ _ (n / 250 % 256) (n % 250) (by omega) (by omega) (by simp) (by first | (simp; done) | omega | (simp; omega) | (rw [IntKind.wrap_u8]; omega)) (by first | (simp; done) | omega | (simp; omega) | (rw [IntKind.wrap_u8]; omega)), HR2.out]
  go_wp2_with fail
  go_ret
  refine ⟨?_, below_one w _⟩
  show _ = Ending.returned (.string ⟨(mkL n).toArray⟩)
  rw [← HE.out]
  rfl
/-- an entry: the list, what it must be, its texts -/
abbrev En := Value × Value × List (List UInt8)
def flat (E : List En) : List Value := E.flatMap fun e => [e.1, e.2.1]
theorem flat_len (E : List En) : (flat E).length = E.length * 2 := by
  induction E with
  | nil => rfl
  | cons e E ih => simp only [flat, List.flatMap_cons, List.length_append, List.length_cons] at *; simp at *; omega
theorem flat_snoc (E : List En) (e : En) : flat (E ++ [e]) = flat E ++ [e.1, e.2.1] := by simp [flat]
theorem flat_at (E : List En) (k : Nat) (h : k < E.length) : (flat E)[k * 2]? = some E[k].1 ∧ (flat E)[k * 2 + 1]? = some E[k].2.1 := by
  induction E generalizing k with
  | nil => simp at h
  | cons e E ih =>
    cases k with
    | zero => simp [flat]
    | succ k =>
      have := ih k (by simpa using h)
      rw [show (k + 1) * 2 = k * 2 + 1 + 1 by omega]
      simpa [flat] using this
structure Bk (w : World) (B g0 : Nat) (bv : Value) (E : List En) : Prop where
  book : w.heap[g0]? = some (.cells #[bv] 34)
  row : w.ownsRow B 78 2 bv E.length (flat E)
  own : ∀ e ∈ E, w.ownsRow B 9 1 e.1 e.2.2.length (strs e.2.2)
  want : ∀ e ∈ E, w.ownsRow B 9 1 e.2.1 e.2.2.length (strs e.2.2)
  sep : ∀ i j (hi : i < E.length) (hj : j < E.length), i ≠ j → ∀ g, E[i].1.ownBlock = some g → E[j].1.ownBlock ≠ some g
  lo : B ≤ g0
/-- a block that is none of a book's -/
def Non (w : World) (q : Nat) : Prop := ∀ cs t fz, w.heap[q]? = some (.cells cs t fz) → t ≠ 9 ∧ t ≠ 78 ∧ t ≠ 34
theorem own_non {w y : World} {B e s n : Nat} {v : Value} {xs : List Value} {X : List Nat} (h : w.ownsRow B e s v n xs) (he : e = 9 ∨ e = 78 ∨ e = 34) (f : Fr X w y) (hX : ∀ q ∈ X, Non w q) : y.ownsRow B e s v n xs :=
  own_keep h fun p cur _ _ hp => f.block p (Array.getElem?_eq_some_iff.1 hp).1 (fun hm => by
    have := hX p hm cur e (0, 0) hp
    rcases he with h | h | h
    · exact this.1 h
    · exact this.2.1 h
    · exact this.2.2 h)
theorem Bk.fr {w y : World} {B g0 : Nat} {bv : Value} {E : List En} {X : List Nat} (K : Bk w B g0 bv E) (f : Fr X w y) (hX : ∀ q ∈ X, Non w q) : Bk y B g0 bv E :=
  ⟨(f.block g0 (Array.getElem?_eq_some_iff.1 K.book).1 (fun hm => (hX g0 hm _ _ _ K.book).2.2 rfl)).trans K.book, own_non K.row (.inr (.inl rfl)) f hX, fun e he => own_non (K.own e he) (.inl rfl) f hX, fun e he => own_non (K.want e he) (.inl rfl) f hX, K.sep, K.lo⟩
theorem Bk.below {w y : World} {B g0 : Nat} {bv : Value} {E : List En} (K : Bk w B g0 bv E) (h : Below w.heap.size w y) : Bk y B g0 bv E := K.fr (X := []) (Fr.of h) (by intro q hq; cases hq)
theorem Bk.empty {w : World} {B g0 : Nat} (h : w.heap[g0]? = some (.cells #[.slice none 0 0] 34)) (hB : B ≤ g0) : Bk w B g0 (.slice none 0 0) [] :=
  ⟨h, ⟨rfl, .inl ⟨rfl, rfl⟩⟩, by simp, by simp, by simp, hB⟩
theorem infoH : (Try.prog.info? 78).map (fun i => (i.zero, i.size, i.bytes)) = some (some (.agg #[.slice none 0 0, .slice none 0 0]), 2, 48) := by kernel_rfl
theorem new_cell2 (w : World) (v u : Value) (t : TypeId) : ∀ j x, [v, u][j]? = some x → (w.alloc (.cells #[v, u] t)).cell? ((⟨w.heap.size, 0, none⟩ : Addr).add j) = some x := by
  intro j x hj
  have e1 : (⟨w.heap.size, 0, none⟩ : Addr).add j = ⟨w.heap.size, j, none⟩ := by unfold Addr.add; split <;> simp_all
  rw [e1]
  unfold World.cell?
  rw [h1_0]
  match j, hj with
  | 0, hj => exact hj
  | 1, hj => exact hj
/-- rows of another type stay when a row grows -/
theorem own_grown {w y : World} {B e s n B2 e2 s2 n2 : Nat} {v v2 : Value} {xs x2 : List Value} (h : w.ownsRow B e s v n xs) (h2 : w.ownsRow B2 e2 s2 v2 n2 x2) (he : e ≠ e2) (gr : w.grownBy y v2.ownBlock) : y.ownsRow B e s v n xs :=
  own_keep h fun p cur hv _ hp => gr.block p (Array.getElem?_eq_some_iff.1 hp).1 (fun e1 => by
    rcases h2.2 with ⟨rfl, _⟩ | ⟨g2, c2, cur2, rfl, _, hg2, _⟩
    · cases e1
    · cases e1
      rw [hp] at hg2
      injection hg2 with hg2
      injection hg2 with _ hg2
      exact he hg2)
theorem own_ne {w : World} {B e s n g0 : Nat} {v : Value} {xs : List Value} {cs : Array Value} {t : TypeId} (h : w.ownsRow B e s v n xs) (hg : w.heap[g0]? = some (.cells cs t)) (he : e ≠ t) : v.ownBlock ≠ some g0 := by
  intro e1
  rcases h.2 with ⟨rfl, _⟩ | ⟨g2, c2, cur2, rfl, _, hg2, _⟩
  · cases e1
  · cases e1
    rw [hg] at hg2
    injection hg2 with hg2
    injection hg2 with _ hg2
    exact he hg2.symm
theorem own_setg {w : World} {B e s n g0 o : Nat} {v : Value} {xs : List Value} {cs : Array Value} {t : TypeId} (h : w.ownsRow B e s v n xs) (hg : w.heap[g0]? = some (.cells cs t)) (he : e ≠ t) (u : Value) : (w.setCell ⟨g0, o, none⟩ u).ownsRow B e s v n xs :=
  own_keep h fun p cur _ _ hp => setCell_ne (fun e1 : g0 = p => by
    subst e1
    rw [hp] at hg
    injection hg with hg
    injection hg with _ hg
    exact he hg) _ _
set_option maxRecDepth 100000 in
set_option maxHeartbeats 1600000 in
theorem takes_any {w : World} {B g0 : Nat} {bv : Value} {E : List En} (K : Bk w B g0 bv E) (hB : B ≤ w.heap.size) (l wv : Value) (ms : List (List UInt8)) (hl : w.ownsRow B 9 1 l ms.length (strs ms)) (hw : w.ownsRow B 9 1 wv ms.length (strs ms)) (hms : ms.length ≤ 8796093022208) (hE : E.length ≤ 1048576) (hsp : ∀ e ∈ E, ∀ g, e.1.ownBlock = some g → l.ownBlock ≠ some g) :
    Calls Try.prog 15 #[.pointer (some ⟨g0, 0, none⟩), l, wv] w fun e w' => e = .returned (.bool true) ∧ ∃ bv', Bk w' B g0 bv' (E ++ [(l, wv, ms)]) ∧ Fr (g0 :: bv.ownBlock.toList) w w' := by
  obtain ⟨ih, hi, hi0, hi1, hi2⟩ := info_parts infoH
  have c0 : w.cell? ⟨g0, 0, none⟩ = some bv := by unfold World.cell?; rw [K.book]; rfl
  obtain ⟨la, lc, rfl, _⟩ := own_form hl
  obtain ⟨wa, wc, rfl, _⟩ := own_form hw
  obtain ⟨l, hle⟩ : ∃ l, Value.slice la ms.length lc = l := ⟨_, rfl⟩
  obtain ⟨wv, hwe⟩ : ∃ wv, Value.slice wa ms.length wc = wv := ⟨_, rfl⟩
  rw [hle] at hl hsp
  rw [hwe] at hw
  have h1 : ∀ u ∈ [l, wv], u.oneCell' = true := by
    intro u hu
    rw [← hle, ← hwe] at hu
    simp only [List.mem_cons, List.not_mem_nil, or_false] at hu
    rcases hu with rfl | rfl <;> rfl
  have H1 : Hid (∀ u ∈ [l, wv], u.oneCell' = true) := h1
  have HK : Hid (Bk w B g0 bv E) := K
  have HLW : Hid (w.ownsRow B 9 1 l ms.length (strs ms) ∧ w.ownsRow B 9 1 wv ms.length (strs ms)) := ⟨hl, hw⟩
  have HSP : Hid (∀ e ∈ E, ∀ g, e.1.ownBlock = some g → l.ownBlock ≠ some g) := hsp
  have hg0 : g0 < w.heap.size := (Array.getElem?_eq_some_iff.1 K.book).1
  subst hle hwe
  clear K hl hw h1 hsp
  go_enter Try.func15, Try.ntmps15
  go_wp2_with (at_builtin; refine wpList_append_lies _ rfl _ _ _ rfl B 78 ih _ 2 48 Try.underlying32 hi hi0 hi1 hi2 rfl (by omega) bv E.length (flat E) rfl (own_below HK.out.row (below_one w _)) ⟨w.heap.size, 0, none⟩ 1 1 [.slice la ms.length lc, .slice wa ms.length wc] rfl rfl (new_cell2 w _ _ 78) H1.out (by omega) (by unfold maxLen; omega) (by omega) (by simp; omega) _ rfl ?_; intro g3 cap3 y3 own3 gr3 at3 lt3; have hb3 : y3.heap[g0]? = some (.cells #[bv] 34) := (grown_g gr3 g0 hg0 (fun p hp he => own_ne HK.out.row HK.out.book (by decide) (he ▸ hp))).trans HK.out.book; have d0 : y3.cell? ⟨g0, 0, none⟩ = some bv := (by unfold World.cell?; rw [hb3]; rfl); have df : y3.frozen? ⟨g0, 0, none⟩ = false := (by unfold World.frozen?; rw [hb3]; simp); have HB3 : Hid (y3.heap[g0]? = some (.cells #[bv] 34)) := hb3; clear hb3)
  have hb4 := setCell_heap HB3.out 0 (.slice (some ⟨g3, 0, none⟩) (E.length + 1) cap3)
  have ka : ∀ {B' n' : Nat} {v' : Value} {xs' : List Value}, w.ownsRow B' 9 1 v' n' xs' → (y3.setCell ⟨g0, 0, none⟩ (.slice (some ⟨g3, 0, none⟩) (E.length + 1) cap3)).ownsRow B' 9 1 v' n' xs' := fun h => own_setg (own_grown (own_below h (below_one w _)) (own_below HK.out.row (below_one w _)) (by decide) gr3) HB3.out (by decide) _
  have kr := own_setg own3 HB3.out (by decide) (.slice (some ⟨g3, 0, none⟩) (E.length + 1) cap3) (o := 0)
  have hfr : Fr (g0 :: bv.ownBlock.toList) w (y3.setCell ⟨g0, 0, none⟩ (.slice (some ⟨g3, 0, none⟩) (E.length + 1) cap3)) := ((Fr.of (below_one w _)).grown gr3 (fun q hq => .inl (by rw [hq]; simp))).set (.inl (by simp)) _ _
  have hsm := same_eq (ka HLW.out.1) (ka HLW.out.2) hms
  have HBK : Hid (Bk (y3.setCell ⟨g0, 0, none⟩ (.slice (some ⟨g3, 0, none⟩) (E.length + 1) cap3)) B g0 (.slice (some ⟨g3, 0, none⟩) (E.length + 1) cap3) (E ++ [(.slice la ms.length lc, .slice wa ms.length wc, ms)])) := by
    refine ⟨hb4, by rw [flat_snoc, List.length_append]; exact kr, ?_, ?_, ?_, HK.out.lo⟩
    · intro e he
      rcases List.mem_append.1 he with h | h
      · exact ka (HK.out.own e h)
      · rw [List.mem_singleton.1 h]; exact ka HLW.out.1
    · intro e he
      rcases List.mem_append.1 he with h | h
      · exact ka (HK.out.want e h)
      · rw [List.mem_singleton.1 h]; exact ka HLW.out.2
    · intro i j hi hj hij g hgi hgj
      simp only [List.length_append, List.length_cons, List.length_nil] at hi hj
      by_cases h1 : i < E.length
      · rw [List.getElem_append_left h1] at hgi
        by_cases h2 : j < E.length
        · rw [List.getElem_append_left h2] at hgj
          exact HK.out.sep i j h1 h2 hij g hgi hgj
        · obtain rfl : j = E.length := by omega
          simp only [List.getElem_concat_length] at hgj
          exact HSP.out _ (List.getElem_mem h1) g hgi hgj
      · obtain rfl : i = E.length := by omega
        have h2 : j < E.length := by omega
        simp only [List.getElem_concat_length] at hgi
        rw [List.getElem_append_left h2] at hgj
        exact HSP.out _ (List.getElem_mem h2) g hgj hgi
  have HFR : Hid (Fr (g0 :: bv.ownBlock.toList) w (y3.setCell ⟨g0, 0, none⟩ (.slice (some ⟨g3, 0, none⟩) (E.length + 1) cap3))) := hfr
  generalize y3.setCell ⟨g0, 0, none⟩ (.slice (some ⟨g3, 0, none⟩) (E.length + 1) cap3) = y4 at *
  clear ka kr hfr hb4 own3 gr3 at3 lt3 d0 df HB3
  go_wp2_with fail
  refine hsm.mono ?_
  rintro e y5 ⟨rfl, B5⟩
  go_wp2_with fail
  go_ret
  exact ⟨rfl, _, HBK.out.below B5, HFR.out.trans (Fr.of B5)⟩
end Go.Proofs.Ytfoddooehanemaa.Eb
