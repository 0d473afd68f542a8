import Derived.Test.YtgchdjjafgkcbaaQf10
/- A wheel of *turnstile/pending.held: fitted. -/
namespace Go.Proofs.Ytgchdjjafgkcbaa.Kh
set_option linter.unusedVariables false
set_option linter.unusedSimpArgs false
open Go.RowKit Go.Maps Lib0 Kb Xp Ih Dh Eh Fh Gh Hh
attribute [local go_sem] Oper.semAt_some
set_option maxRecDepth 100000 in
set_option maxHeartbeats 1600000 in
theorem fitted_any (w : World) (v : Value) (Z : LT) (h : w.ownsRow 0 tL 3 v Z.length (gc Z)) (ho : One Z) (hl : Z.length ≤ 5864062014805) :
    Calls Try.prog 55 #[v] w fun e w' => ∃ v', e = .returned v' ∧ w'.ownsRow 0 tL 3 v' Z.length (gc Z) ∧ (v'.ownBlock = v.ownBlock ∨ ∀ g, v'.ownBlock = some g → w.heap.size ≤ g) ∧ Below w.heap.size w w' := by
  obtain ⟨i0, hi, hz0, hz1, hz2⟩ := info_parts infoL
  have HH : Hid (w.ownsRow 0 tL 3 v Z.length (gc Z)) := h
  have HO : Hid (One Z) := ho
  rcases h.2 with ⟨rfl, h0⟩ | ⟨gb, cap, cur, rfl, hbase, hg, hcap, hml, hcs, htk⟩
  · have e : Z = [] := List.eq_nil_of_length_eq_zero h0
    subst e
    clear h ho hl h0
    go_enter Try.func55, Try.ntmps55
    go_wp2_with fail
    go_ret
    exact ⟨_, rfl, World.ownsRow_nil _ _ _ _, .inl rfl, Below.refl _ _⟩
  · obtain ⟨N, HN⟩ : ∃ N, Hid (Z.length = N) := ⟨_, rfl⟩
    rw [HN.out] at h hl hcap
    rw [HN.out]
    have HNEW : Hid (∀ j u, (gc Z)[j]? = some u → w.cell? ((⟨gb, 0, none⟩ : Addr).add j) = some u) := HH.out.cells (g := gb) rfl
    have HML : Hid (cap ≤ maxLen) := hml
    have q9 : (cap : Int) ≤ 9223372036854775807 := by unfold maxLen at hml; omega
    by_cases hq : (cap : Int) / 4 < (N : Int)
    · clear h ho hcs htk hg hbase hml
      go_enter Try.func55, Try.ntmps55
      go_wp2_with fail
      go_ret
      refine ⟨_, rfl, ?_, .inl rfl, Below.refl _ _⟩
      have := HH.out
      rw [HN.out] at this
      exact this
    · clear h ho hcs htk hg hbase hml
      go_enter Try.func55, Try.ntmps55
      go_wp2_with (first | (at_builtin; refine wpList_append_own_at _ rfl _ _ 108 rfl w.heap.size tL i0 _ 3 24 Try.underlying108 hi hz0 hz1 hz2 rfl (by decide) _ 0 [] rfl (World.ownsRow_nil w w.heap.size tL 3) ⟨gb, 0, none⟩ N cap (gc Z) rfl (by rw [gc_len, HN.out]) HNEW.out (gc_one HO.out) (by unfold maxLen; omega) (by omega) (Nat.le_refl _) ?_; intro v' w1 hown' hgrow hnil hloc) | fail)
      go_ret
      refine ⟨_, rfl, ?_, .inr ?_, ?_⟩
      · have := own_base (base' := 0) hown' (fun g _ => Nat.zero_le _)
        rw [Nat.zero_add, List.nil_append] at this
        exact this
      · intro g hg
        exact Lib0.own_ge hown' g hg
      · exact (Below.refl _ _).grown hgrow (Nat.le_refl _) (fun g hg => nomatch (show (none : Option Nat) = some g from hg))
end Go.Proofs.Ytgchdjjafgkcbaa.Kh
/- A wheel of *turnstile/pending.held: take. -/
namespace Go.Proofs.Ytgchdjjafgkcbaa.Jh
set_option linter.unusedVariables false
set_option linter.unusedSimpArgs false
open Go.RowKit Go.Maps Lib0 Kb Xp Ih Dh Eh Fh Gh Hh Kh
attribute [local go_sem] Oper.semAt_some
abbrev tT : TypeId := 69
theorem infoT : (Try.prog.info? tT).map (fun i => (i.zero, i.size, i.bytes)) = some (some (Value.pointer none), 1, 8) := by kernel_rfl
/-- those that are not among A -/
def lessA (L A : LT) : LT := L.filter fun y => A.all fun x => y.1 != x.1
theorem lessA_nil (L : LT) : lessA L [] = L := List.filter_eq_self.2 fun y _ => rfl
theorem lessA_snoc (L A : LT) (x : XT) : lessA L (A ++ [x]) = (lessA L A).filter fun y => y.1 != x.1 := by
  rw [lessA, lessA, List.filter_filter]
  congr 1
  funext y
  rw [List.all_append, Bool.and_comm]
  simp
theorem lessA_all {L : LT} (hi : Inc L) (p : XT → Bool) : lessA L (L.filter p) = L.filter fun x => !p x := by
  apply List.filter_congr
  intro y hy
  cases e : p y with
  | true =>
    have : ((L.filter p).all fun x => y.1 != x.1) = false := by
      rw [List.all_eq_false]
      exact ⟨y, List.mem_filter.2 ⟨hy, e⟩, by simp⟩
    rw [this]; rfl
  | false =>
    have : ((L.filter p).all fun x => y.1 != x.1) = true := by
      rw [List.all_eq_true]
      intro x hx
      have hx2 := List.mem_filter.1 hx
      simp
      intro e2
      rw [hi.inj hy hx2.1 e2, hx2.2] at e
      cases e
    rw [this]; rfl
/-- the next one is not among those before -/
theorem lessA_mem {L Z : LT} (hZ : Inc Z) (hs : ∀ x ∈ Z, x ∈ L) (p : XT → Bool) (i : Nat) (h : i < Z.length) : Z[i] ∈ lessA L ((Z.take i).filter p) := by
  refine List.mem_filter.2 ⟨hs _ (List.getElem_mem h), ?_⟩
  rw [List.all_eq_true]
  intro x hx
  have hx2 := (List.mem_filter.1 hx).1
  obtain ⟨k, hk, rfl⟩ := List.getElem_of_mem hx2
  rw [List.length_take] at hk
  rw [List.getElem_take]
  have := (List.pairwise_iff_getElem.1 hZ) k i (by omega) h (by omega)
  simp
  omega
theorem take_filter_snoc (Z : LT) (p : XT → Bool) (i : Nat) (h : i < Z.length) : (Z.take (i + 1)).filter p = if p Z[i] = true then (Z.take i).filter p ++ [Z[i]] else (Z.take i).filter p := by
  rw [List.take_succ_eq_append_getElem h, List.filter_append]
  cases e : p Z[i] <;> simp [e]
def thgs (A : LT) : List Value := A.map fun x => x.2.2
def TakePost (w : World) (b sb mb n : Nat) (S : Nat → Value) (c : Nat) (L : LT) (now last : Int) (p : XT → Bool) (v : Value) (w' : World) : Prop := w'.ownsRow w.heap.size tT 1 v (L.filter p).length (thgs (L.filter p)) ∧ ∃ S' D', Wm w' b sb mb n S' c D' (L.filter fun x => !p x) now last ∧ FrP (Bk b sb mb n S) w w' ∧ ∀ g, Bk b sb mb n S' g → Bk b sb mb n S g ∨ w.heap.size ≤ g
/-- how far: what holds between the rounds -/
structure Mid (w : World) (b sb mb n : Nat) (S : Nat → Value) (c : Nat) (D : DataW Unit) (L : LT) (now last : Int) (A : LT) (wr : World) (tv : Value) : Prop where
  own : wr.ownsRow w.heap.size tT 1 tv A.length (thgs A)
  fr : FrP (fun g => g = mb) w wr
  map : ∃ D', wr.ownsMap Try.prog tI (plainElem Try.prog tI) mb c D' ∧ Mp D' (lessA L A)
theorem take_end {w wr w5 w6 : World} {b sb mb n : Nat} {S : Nat → Value} {c : Nat} {D : DataW Unit} {L : LT} {now last tick : Int} {p : XT → Bool} {tv v2 : Value} {j : Nat} (hM : Wm w b sb mb n S c D L now last) (hmid : Mid w b sb mb n S c D L now last (L.filter p) wr tv) (hi : Inc L) (hH : ∀ x ∈ L, p x = true → x.2.1 = tick) (hj : tick.toNat % n = j) (hjn : j < n)
    (h5 : FrP (fun k => (S j).ownBlock = some k) wr w5) (h6 : Below w5.heap.size w5 w6) (h2 : w6.ownsRow 0 tL 3 v2 ((slotL L n j).filter fun x => !p x).length (gc ((slotL L n j).filter fun x => !p x))) (hb : v2.ownBlock = (S j).ownBlock ∨ ∀ g, v2.ownBlock = some g → w5.heap.size ≤ g) : TakePost w b sb mb n S c L now last p tv (w6.setCell ⟨sb, j, none⟩ v2) := by
  have kr : ∀ g, g < wr.heap.size → (S j).ownBlock ≠ some g → w6.heap[g]? = wr.heap[g]? := fun g h1 h2 => (h6.block g (Nat.lt_of_lt_of_le h1 h5.size)).trans (h5.block g h1 h2)
  have kw : ∀ g, g < w.heap.size → g ≠ mb → (S j).ownBlock ≠ some g → w6.heap[g]? = w.heap[g]? := fun g h1 h2 h3 => (kr g (Nat.lt_of_lt_of_le h1 hmid.fr.size) h3).trans (hmid.fr.block g h1 h2)
  have ks : ∀ g, g ≠ sb → (w6.setCell ⟨sb, j, none⟩ v2).heap[g]? = w6.heap[g]? := fun g h1 => setCell_ne (p := ⟨sb, j, none⟩) (fun e : sb = g => h1 e.symm) v2
  have bl := (Array.getElem?_eq_some_iff.1 hM.blk).1
  have sl := (Array.getElem?_eq_some_iff.1 hM.slots).1
  have ml := hM.map.lt
  have jb : (S j).ownBlock ≠ some b := fun e => (hM.row_lt hjn e).2.1 rfl
  have js : (S j).ownBlock ≠ some sb := fun e => (hM.row_lt hjn e).2.2.1 rfl
  have jm : (S j).ownBlock ≠ some mb := fun e => (hM.row_lt hjn e).2.2.2 rfl
  have hs6 : w6.heap[sb]? = some (.cells ((List.range n).map S).toArray tS) := (kw sb sl (map_ne hM.slots hM.map) js).trans hM.slots
  have hup : ∀ i, i ≠ j → upS S j v2 i = S i := fun i hi => by rw [upS, if_neg hi]
  have hupj : upS S j v2 j = v2 := by rw [upS, if_pos rfl]
  obtain ⟨D', hd1, hd2⟩ := hmid.map
  rw [lessA_all hi] at hd2
  refine ⟨own_keep hmid.own fun g hg => ?_, upS S j v2, D', ⟨?_, ?_, fun i hin => ?_, fun i k hin hk hne g hg hg2 => ?_, ?_, hd2, hM.cnt⟩, ?_, ?_⟩
  · have h1 := hmid.own.lt g hg
    refine (ks g (by omega)).trans (kr g h1.2 (fun e => ?_))
    have := (hM.row_lt hjn e).1
    omega
  · exact ((ks b (ty_ne hM.blk hM.slots (by decide))).trans (kw b bl (map_ne hM.blk hM.map) jb)).trans hM.blk
  · rw [setCell_heap hs6, slots_set]
  · by_cases e : i = j
    · subst e
      rw [hupj, slotL_filter]
      refine own_keep h2 fun g hg => ks g (fun e => ?_)
      obtain ⟨cy, hcy⟩ := own_ty h2 hg
      exact ty_ne hcy hs6 (by decide) e
    · rw [hup i e, slotL_stay hH (by rw [hj]; exact e)]
      refine own_keep (hM.row i hin) fun g hg => ?_
      have h1 := hM.row_lt hin hg
      exact (ks g h1.2.2.1).trans (kw g h1.1 h1.2.2.2 (fun e2 => hM.apart i j hin hjn e g hg e2))
  · have hnew : ∀ i, i < n → i ≠ j → ∀ g, (S i).ownBlock = some g → v2.ownBlock ≠ some g := fun i hin hij g h1 h2 => by
      rcases hb with e | e
      · rw [e] at h2; exact hM.apart i j hin hjn hij g h1 h2
      · have h3 := e g h2
        have h4 := (hM.row_lt hin h1).1
        have := hmid.fr.size
        have := h5.size
        omega
    by_cases e : i = j
    · subst e
      rw [hupj] at hg
      rw [hup k (fun e => hne e.symm)] at hg2
      exact hnew k hk (fun e => hne e.symm) g hg2 hg
    · rw [hup i e] at hg
      by_cases e2 : k = j
      · subst e2
        rw [hupj] at hg2
        exact hnew i hin e g hg hg2
      · rw [hup k e2] at hg2
        exact hM.apart i k hin hk hne g hg hg2
  · obtain ⟨es, cl, hk, r⟩ := hd1
    refine ⟨es, cl, ?_, r⟩
    refine ((ks mb (fun e => map_ne hM.slots hM.map e.symm)).trans (kr mb ?_ jm)).trans hk
    exact (Array.getElem?_eq_some_iff.1 hk).1
  · exact (((hmid.fr.mono (C := Bk b sb mb n S) (fun g e => .inr (.inr (.inl e)))).trans h5 (fun g hg => .inl (.inr (.inr (.inr ⟨j, hjn, hg⟩))))).behind h6).set (p := ⟨sb, j, none⟩) (.inl (.inr (.inl rfl))) _
  · rintro g (rfl | rfl | rfl | ⟨i, hin, hg⟩)
    · exact .inl (.inl rfl)
    · exact .inl (.inr (.inl rfl))
    · exact .inl (.inr (.inr (.inl rfl)))
    · by_cases e : i = j
      · subst e
        rw [hupj] at hg
        rcases hb with e5 | e5
        · rw [e5] at hg; exact .inl (.inr (.inr (.inr ⟨i, hin, hg⟩)))
        · have h3 := e5 g hg
          have := hmid.fr.size
          have := h5.size
          exact .inr (by omega)
      · rw [hup i e] at hg
        exact .inl (.inr (.inr (.inr ⟨i, hin, hg⟩)))
end Go.Proofs.Ytgchdjjafgkcbaa.Jh
