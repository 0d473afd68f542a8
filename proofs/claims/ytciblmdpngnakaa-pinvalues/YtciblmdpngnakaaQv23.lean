import Derived.Test.YtciblmdpngnakaaQv22
import Derived.Test.YtciblmdpngnakaaQv08
/- The document's round keys. -/
namespace Go.Proofs.Ytciblmdpngnakaa.Rr
set_option linter.unusedVariables false
open Go.RowKit Pla Cb Sm Rb Rs Rt
open Lib0 (owns_len own_ge below_app below_app0)
theorem infoS : (Try.prog.info? 58).map (fun i => (i.zero, i.size, i.bytes)) = some (some (.slice none 0 0), 1, 24) := by kernel_rfl
theorem tab_range (w : World) (t : List Nat) : (w.alloc (Obj.cells (nv t).toArray 3)).rangeAt w.heap.size 0 (nv t) := by
  refine range_of (h1_0 w _) 0 _ fun j v hv => ?_
  rw [Nat.zero_add, List.getElem?_toArray]; exact hv
/-- a piece of a row -/
theorem range_piece {w : World} {g o : Nat} {b : List Bool} (h : w.rangeAt g o (nv (nb b))) (s m : Nat) : w.rangeAt g (o + s) (nv (nb ((b.drop s).take m))) := by
  intro j v hv
  have : (nv (nb b))[s + j]? = some v := by
    simp only [nv, nb, List.getElem?_map, List.getElem?_take, List.getElem?_drop] at hv ⊢
    split at hv
    · exact hv
    · cases hv
  rw [Nat.add_assoc]; exact h (s + j) v this
theorem news_nv {w : World} {g o : Nat} {l : List Nat} (h : w.rangeAt g o (nv l)) : ∀ j u, (nv l)[j]? = some u → w.cell? ((⟨g, o, none⟩ : Addr).add j) = some u := fun j u hu => by rw [Addr.add_mid]; exact h j u hu
theorem nv_one (l : List Nat) : ∀ u ∈ nv l, u.oneCell' = true := fun u hu => by
  obtain ⟨n, _, rfl⟩ := List.mem_map.1 hu; rfl
theorem nv_app (a b : List Bool) : nv (nb a) ++ nv (nb b) = nv (nb (a ++ b)) := by simp [nv, nb]
theorem range_own {w w1 : World} {v : Value} {g o : Nat} {l : List Nat} (hg : w.grownBy w1 v.ownBlock) (hl : g < w.heap.size) (hne : v.ownBlock ≠ some g) (h : w.rangeAt g o (nv l)) : w1.rangeAt g o (nv l) := by
  intro j u hu
  have e : w1.heap[g]? = w.heap[g]? := hg.block g hl (fun h => hne h.symm)
  have := h j u hu
  rw [← this]
  simp only [World.cell?, e]
theorem own_rangeV {w : World} {B e n : Nat} {v : Value} {xs : List Value} (h : w.ownsRow B e 1 v n xs) (hn : 0 < n) : ∃ g cap, v = .slice (some ⟨g, 0, none⟩) n cap ∧ B ≤ g ∧ g < w.heap.size ∧ n ≤ cap ∧ w.rangeAt g 0 xs := by
  rcases h.2 with ⟨rfl, h0⟩ | ⟨g, cap, cur, rfl, hb, hg, hc, hc2, hsz, htk⟩
  · omega
  · refine ⟨g, cap, rfl, hb, (Array.getElem?_eq_some_iff.1 hg).1, hc, ?_⟩
    intro j v hv
    rw [cell_of_row w g _ _ _ (0, 0) hg, Nat.zero_add]
    rw [← htk] at hv
    rw [List.getElem?_take] at hv
    split at hv
    · rw [← Array.getElem?_toList]; exact hv
    · cases hv
theorem own_lt {w : World} {B e n : Nat} {v : Value} {xs : List Value} (h : w.ownsRow B e 1 v n xs) : ∀ k, v.ownBlock = some k → k < w.heap.size := by
  intro k hk
  rcases h.2 with ⟨rfl, _⟩ | ⟨g, cap, cur, rfl, hb, hg, _⟩
  · simp [Value.ownBlock] at hk
  · simp [Value.ownBlock] at hk; subst hk; exact (Array.getElem?_eq_some_iff.1 hg).1
/-- slices as cells -/
def sv (L : List (Nat × Nat)) : List Value := L.map fun p => .slice (some ⟨p.1, 0, none⟩) 48 p.2
set_option maxRecDepth 100000 in
set_option maxHeartbeats 8000000 in
theorem rounds_ref (s : ByteArray) (hs : Hid (s.size = 8)) (w : World) :
    Calls Try.prog 96 #[.string s] w fun e w' => ∃ (L : List (Nat × Nat)) (g cap : Nat), e = .returned (.slice (some ⟨g, 0, none⟩) 16 cap) ∧ 16 ≤ cap ∧ g < w'.heap.size ∧ L.length = 16 ∧ w'.rangeAt g 0 (sv L) ∧ (∀ i p, L[i]? = some p → p.1 < w'.heap.size ∧ w'.rangeAt p.1 0 (nv (nb (rk (bitsS s.data.toList) i)))) ∧ Below w.heap.size w w' := by
  obtain ⟨i0, hi, hz0, hz1, hz2⟩ := info_parts infoI
  obtain ⟨i1, hi1, hy0, hy1, hy2⟩ := info_parts infoS
  have hl : (bitsS s.data.toList).length = 64 := by rw [bitsS_len, show s.data.toList.length = s.size by simp, hs.out]
  have BI := fun u => bits_ref s (by rw [hs.out]; decide) (by rw [hs.out]; decide) u
  rw [hs.out] at BI
  generalize bitsS s.data.toList = key at *
  clear hs
  go_enter Try.func96, Try.ntmps96
  go_wp2_with (first
    | (go_at_call 110; refine (tabK1_ref _).mono ?_; rintro e y ⟨rfl, rfl⟩)
    | (go_at_call 99; refine (BI _).mono ?_; rintro e y0 ⟨g0, c0, rfl, hg0, hl0, hcp0, hr0, hb0⟩)
    | (go_at_call 97; refine (take_ref tK1 (nb key) w.heap.size g0 0 56 64 56 c0 rfl (by rw [nb_len]; exact hl) (by decide) (by decide) (by decide) Rk.k1_ok _ (Nat.lt_of_lt_of_le (by simp) hb0.size) hl0 (range_keep hb0 (by simp) (tab_range w tK1)) hr0).mono ?_; rintro e y1 ⟨g1, c1, rfl, hg1, hl1, hcp1, hr1, hb1⟩; rw [tkN_nb] at hr1))
  have bB : Below w.heap.size w y1 := keepB (keepB (below_one w _) hb0) hb1
  have s1 := bB.size
  have hrc := range_piece hr1 0 28
  have hrd := range_piece hr1 28 28
  rw [List.drop_zero] at hrc
  have ec : (tk tK1 key).take 28 = (hlv key 0).1 := rfl
  have ed : ((tk tK1 key).drop 28).take 28 = (hlv key 0).2 := by
    show _ = (tk tK1 key).drop 28
    rw [List.take_of_length_le (by rw [List.length_drop, tk_len]; decide)]
  rw [ec] at hrc
  rw [ed] at hrd
  rw [Nat.zero_add] at hrd
  clear ec ed hr1 hr0 hb0 hb1 BI
  have hlen := hlv_len key
  go_loopw [4, 5, 6, 7] (fun vc vd vo c wr => ∃ j : Nat, j ≤ 16 ∧ c = .int .i64 ((j : Int) + 1) ∧ ∃ gc oc cc gd od cd L, vc = .slice (some ⟨gc, oc, none⟩) 28 cc ∧ vd = .slice (some ⟨gd, od, none⟩) 28 cd ∧ gc < wr.heap.size ∧ gd < wr.heap.size ∧ wr.rangeAt gc oc (nv (nb (hlv key j).1)) ∧ wr.rangeAt gd od (nv (nb (hlv key j).2)) ∧ wr.ownsRow w.heap.size 58 1 vo j (sv L) ∧ L.length = j ∧
    (∀ i p, L[i]? = some p → p.1 < wr.heap.size ∧ vo.ownBlock ≠ some p.1 ∧ wr.rangeAt p.1 0 (nv (nb (rk key i)))) ∧ Below w.heap.size w wr) (fun _ _ _ c _ => 18 - (intOf c).toNat)
  case atStart => exact ⟨0, Nat.zero_le _, rfl, g1, 0, c1, g1, 28, c1 - 28, [], rfl, rfl, hl1, hl1, hrc, hrd, World.ownsRow_nil _ _ _ _, rfl, fun i p h => by simp at h, bB⟩
  case round =>
    obtain ⟨j, hj, rfl, gc, oc, cc, gd, od, cd, L, rfl, rfl, hgc, hgd, hrc, hrd, hown, hLl, hL, hbw⟩ := hrel
    have hbs := hbw.size
    by_cases hlt : j < 16
    · have q0 : (0 : Int) ≤ (j : Int) := by omega
      have q1 : (j : Int) + 1 ≤ 16 := by omega
      have lc : Hid ((hlv key j).1.length = 28) := (hlen j).1
      have ld : Hid ((hlv key j).2.length = 28) := (hlen j).2
      have LC := fun m hm hmn => left_ref (hlv key j).1 m gc oc 28 cc lc (by decide) (by decide) hm hmn wr hgc hrc
      have LD := fun m hm hmn u hu hr => left_ref (hlv key j).2 m gd od 28 cd ld (by decide) (by decide) hm hmn u hu hr
      have tpos := turns_pos (j + 1)
      have tle := turns_le (j + 1)
      have LC2 := LC (turns (j + 1)) tle (by omega)
      have hT : Hid (turns (j + 1) = if j + 1 = 1 ∨ j + 1 = 2 ∨ j + 1 = 9 ∨ j + 1 = 16 then 1 else 2) := rfl
      have h5 : j + 1 = 1 ∨ j + 1 = 2 ∨ j + 1 = 9 ∨ j + 1 = 16 ∨ ¬ (j + 1 = 1 ∨ j + 1 = 2 ∨ j + 1 = 9 ∨ j + 1 = 16) := by omega
      rcases h5 with hone | hone | hone | hone | hone
      · have z1 : ((j : Int) + 1 == 1) = true := beq_iff_eq.mpr (by omega)
        have t2 : turns (j + 1) = 1 := by rw [hT.out, if_pos (by omega)]
        rw [t2] at LC2
        clear hone LC tpos tle
        have e1 : Hid (rot (hlv key j).1 1 = (hlv key (j + 1)).1) := (by show _ = rot (hlv key j).1 (turns (j + 1)); rw [t2] : rot (hlv key j).1 1 = (hlv key (j + 1)).1)
        have e2 : Hid (rot (hlv key j).2 1 = (hlv key (j + 1)).2) := (by show _ = rot (hlv key j).2 (turns (j + 1)); rw [t2] : rot (hlv key j).2 1 = (hlv key (j + 1)).2)
        rw [e1.out] at LC2
        have LD2 := fun u hu hr => LD 1 (by decide) (by decide) u hu hr
        rw [e2.out] at LD2
        have lc1 := (hlen (j + 1)).1
        have ld1 := (hlen (j + 1)).2
        have hRK : Hid (tk tK2 ((hlv key (j + 1)).1 ++ (hlv key (j + 1)).2) = rk key j) := rfl
        generalize hC1 : (hlv key (j + 1)).1 = C1 at *
        generalize hD1 : (hlv key (j + 1)).2 = D1 at *
        have HC1 : Hid ((hlv key (j + 1)).1 = C1) := hC1
        have HD1 : Hid ((hlv key (j + 1)).2 = D1) := hD1
        clear hC1 hD1
        clear LD t2 e1 e2 hT
        go_wp2_with (first
          | (go_at_call_of 111 (Value.slice (some ⟨gc, oc, none⟩) 28 cc); refine LC2.mono ?_; rintro e x1 ⟨h1, k1, rfl, m1, n1, o1, p1, b1⟩)
          | (go_at_call 111; refine (LD2 x1 (Nat.lt_of_lt_of_le hgd b1.size) (range_keep b1 hgd hrd)).mono ?_; rintro e x2 ⟨h2, k2, rfl, m2, n2, o2, p2, b2⟩; have p1' := range_keep b2 n1 p1; have n1' := Nat.lt_of_lt_of_le n1 b2.size)
          | (at_builtin; refine wpList_append_lies _ rfl _ _ _ rfl x2.heap.size 3 i0 _ 1 8 Try.underlying58 hi hz0 hz1 hz2 rfl (by omega) (.slice none 0 0) 0 _ rfl (World.ownsRow_nil _ _ _ _) ⟨h1, 0, none⟩ 28 k1 (nv (nb C1)) rfl (by rw [nv_len, nb_len, lc1]) (news_nv p1') (nv_one _) (by omega) (by unfold maxLen; omega) (by omega) (Nat.le_refl _) x2.heap.size rfl ?_; intro ga ca w1 ow1 gr1 at1 lt1; have B1 : Below x2.heap.size x2 w1 := (Below.refl _ _).grown gr1 (Nat.le_refl _) (fun k h => by cases h); have p2' := range_keep B1 n2 p2)
          | (at_builtin; refine wpList_append_lies _ rfl _ _ _ rfl x2.heap.size 3 i0 _ 1 8 Try.underlying58 hi hz0 hz1 hz2 rfl (by omega) _ 28 _ rfl ow1 ⟨h2, 0, none⟩ 28 k2 (nv (nb D1)) rfl (by rw [nv_len, nb_len, ld1]) (news_nv p2') (nv_one _) (by omega) (by unfold maxLen; omega) (by omega) B1.size w1.heap.size rfl ?_; intro gb cb w2 ow2 gr2 at2 lt2; have B2 : Below x2.heap.size x2 w2 := B1.grown gr2 B1.size (own_ge ow1); obtain ⟨gb', cb', hvb, hB5, hg5, hc5, hr5⟩ := own_range (l := nb (C1 ++ D1)) (owns_len (n' := 56) ow2 rfl rfl (by rw [List.nil_append, nv_app])) (by decide); cases hvb)
          | (go_at_call 112; refine (tabK2_ref _).mono ?_; rintro e u ⟨rfl, rfl⟩)
          | (go_at_call 97; refine (take_ref tK2 (nb (C1 ++ D1)) w2.heap.size gb 0 48 56 48 cb rfl (by rw [nb_len, List.length_append, lc1, ld1]; rfl) (by decide) (by decide) (by decide) Rk.k2_ok _ (by simp) (by simp; omega) (tab_range w2 tK2) (range_keep (below_one w2 _) hg5 hr5)).mono ?_; rintro e x6 ⟨h6, k6, rfl, m6, n6, o6, p6, b6⟩; rw [tkN_nb, hRK.out] at p6; have B6 : Below wr.heap.size wr x6 := keepB (keepB (keepB b1 b2) B2) (keepB (below_one w2 _) b6); have hown6 := Eb.row_keeps hown B6; have h6w : w2.heap.size < h6 := Nat.lt_of_lt_of_le (by simp) m6)
          | (at_builtin; refine wpList_append_lies _ rfl _ _ _ rfl w.heap.size 58 i1 _ 1 24 Try.underlying126 hi1 hy0 hy1 hy2 rfl (by omega) _ j _ rfl (hown6.alloc _) ⟨x6.heap.size, 0, none⟩ 1 1 _ rfl (by rfl) (World.news_of_block (heap_alloc_new x6 _)) (by simp [Value.oneCell']) (by omega) (by unfold maxLen; omega) (by omega) (by first | (have := B6.size; simp; omega)) (x6.heap.size + 1) (by simp) ?_; intro g7 c7 w7 ow7 gr7 at7 lt7))
        have oL := own_lt hown
        have s0 := b1.size
        have s2 := b2.size
        have s3 := B2.size
        have s4 : w2.heap.size + 1 ≤ x6.heap.size := by have := b6.size; simpa using this
        have s7 : x6.heap.size + 1 ≤ w7.heap.size := by have := gr7.size; simpa using this
        have KR : ∀ g l, g < x6.heap.size → u6.ownBlock ≠ some g → x6.rangeAt g 0 (nv l) → w7.rangeAt g 0 (nv l) := fun g l hg hne h => range_own gr7 (by simp; omega) hne (range_keep (below_one x6 _) hg h)
        have fresh : ∀ g, wr.heap.size ≤ g → u6.ownBlock ≠ some g := fun g hg h => by have := oL g h; omega
        have K1 : Below x1.heap.size x1 x6 := keepB (keepB b2 B2) (keepB (below_one w2 _) b6)
        have K2 : Below x2.heap.size x2 x6 := keepB B2 (keepB (below_one w2 _) b6)
        refine ⟨⟨j + 1, hlt, by congr 1, h1, 0, k1, h2, 0, k2, L ++ [(h6, k6)], rfl, rfl, by omega, by omega, ?_, ?_, ?_, by simp [hLl], ?_, ?_⟩, by simp only [intOf]; omega⟩
        · rw [HC1.out]; exact KR h1 _ (by omega) (fresh h1 m1) (range_keep K1 n1 p1)
        · rw [HD1.out]; exact KR h2 _ (by omega) (fresh h2 (by omega)) (range_keep K2 n2 p2)
        · exact owns_len ow7 rfl rfl (by simp [sv])
        · intro i p hp
          have at8 : g7 < wr.heap.size ∧ u6.ownBlock = some g7 ∨ g7 = x6.heap.size + 1 := by
            rcases at7 with h | h
            · exact .inl ⟨oL _ h, h⟩
            · exact .inr h
          by_cases hi2 : i < L.length
          · rw [List.getElem?_append_left hi2] at hp
            obtain ⟨q1, q2, q3⟩ := hL i p hp
            have q4 : p.1 < x6.heap.size := Nat.lt_of_lt_of_le q1 B6.size
            refine ⟨by omega, ?_, KR p.1 _ q4 q2 (range_keep B6 q1 q3)⟩
            intro h
            have h' : g7 = p.1 := by simpa [Value.ownBlock] using h
            rcases at8 with ⟨_, h8⟩ | h8
            · rw [h'] at h8; exact q2 h8
            · omega
          · have hie : i = j := by
              have := (List.getElem?_eq_some_iff.1 hp).1
              simp at this; omega
            subst hie
            rw [List.getElem?_append_right (by omega), hLl, Nat.sub_self] at hp
            have hpe : p = (h6, k6) := by simpa using hp.symm
            subst hpe
            refine ⟨by show h6 < _; omega, ?_, KR h6 _ n6 (fresh h6 (by omega)) p6⟩
            intro h
            have h' : g7 = h6 := by simpa [Value.ownBlock] using h
            rcases at8 with ⟨h8, _⟩ | h8 <;> omega
        · exact ((keepB hbw B6).alloc (by have := B6.size; omega) _).grown gr7 (by simp; have := B6.size; omega) (own_ge hown)
      · have z1 : ((j : Int) + 1 == 1) = false := beq_eq_false_iff_ne.mpr (by omega)
        have z2 : ((j : Int) + 1 == 2) = true := beq_iff_eq.mpr (by omega)
        have t2 : turns (j + 1) = 1 := by rw [hT.out, if_pos (by omega)]
        rw [t2] at LC2
        clear hone LC tpos tle
        have e1 : Hid (rot (hlv key j).1 1 = (hlv key (j + 1)).1) := (by show _ = rot (hlv key j).1 (turns (j + 1)); rw [t2] : rot (hlv key j).1 1 = (hlv key (j + 1)).1)
        have e2 : Hid (rot (hlv key j).2 1 = (hlv key (j + 1)).2) := (by show _ = rot (hlv key j).2 (turns (j + 1)); rw [t2] : rot (hlv key j).2 1 = (hlv key (j + 1)).2)
        rw [e1.out] at LC2
        have LD2 := fun u hu hr => LD 1 (by decide) (by decide) u hu hr
        rw [e2.out] at LD2
        have lc1 := (hlen (j + 1)).1
        have ld1 := (hlen (j + 1)).2
        have hRK : Hid (tk tK2 ((hlv key (j + 1)).1 ++ (hlv key (j + 1)).2) = rk key j) := rfl
        generalize hC1 : (hlv key (j + 1)).1 = C1 at *
        generalize hD1 : (hlv key (j + 1)).2 = D1 at *
        have HC1 : Hid ((hlv key (j + 1)).1 = C1) := hC1
        have HD1 : Hid ((hlv key (j + 1)).2 = D1) := hD1
        clear hC1 hD1
        clear LD t2 e1 e2 hT
        go_wp2_with (first
          | (go_at_call_of 111 (Value.slice (some ⟨gc, oc, none⟩) 28 cc); refine LC2.mono ?_; rintro e x1 ⟨h1, k1, rfl, m1, n1, o1, p1, b1⟩)
          | (go_at_call 111; refine (LD2 x1 (Nat.lt_of_lt_of_le hgd b1.size) (range_keep b1 hgd hrd)).mono ?_; rintro e x2 ⟨h2, k2, rfl, m2, n2, o2, p2, b2⟩; have p1' := range_keep b2 n1 p1; have n1' := Nat.lt_of_lt_of_le n1 b2.size)
          | (at_builtin; refine wpList_append_lies _ rfl _ _ _ rfl x2.heap.size 3 i0 _ 1 8 Try.underlying58 hi hz0 hz1 hz2 rfl (by omega) (.slice none 0 0) 0 _ rfl (World.ownsRow_nil _ _ _ _) ⟨h1, 0, none⟩ 28 k1 (nv (nb C1)) rfl (by rw [nv_len, nb_len, lc1]) (news_nv p1') (nv_one _) (by omega) (by unfold maxLen; omega) (by omega) (Nat.le_refl _) x2.heap.size rfl ?_; intro ga ca w1 ow1 gr1 at1 lt1; have B1 : Below x2.heap.size x2 w1 := (Below.refl _ _).grown gr1 (Nat.le_refl _) (fun k h => by cases h); have p2' := range_keep B1 n2 p2)
          | (at_builtin; refine wpList_append_lies _ rfl _ _ _ rfl x2.heap.size 3 i0 _ 1 8 Try.underlying58 hi hz0 hz1 hz2 rfl (by omega) _ 28 _ rfl ow1 ⟨h2, 0, none⟩ 28 k2 (nv (nb D1)) rfl (by rw [nv_len, nb_len, ld1]) (news_nv p2') (nv_one _) (by omega) (by unfold maxLen; omega) (by omega) B1.size w1.heap.size rfl ?_; intro gb cb w2 ow2 gr2 at2 lt2; have B2 : Below x2.heap.size x2 w2 := B1.grown gr2 B1.size (own_ge ow1); obtain ⟨gb', cb', hvb, hB5, hg5, hc5, hr5⟩ := own_range (l := nb (C1 ++ D1)) (owns_len (n' := 56) ow2 rfl rfl (by rw [List.nil_append, nv_app])) (by decide); cases hvb)
          | (go_at_call 112; refine (tabK2_ref _).mono ?_; rintro e u ⟨rfl, rfl⟩)
          | (go_at_call 97; refine (take_ref tK2 (nb (C1 ++ D1)) w2.heap.size gb 0 48 56 48 cb rfl (by rw [nb_len, List.length_append, lc1, ld1]; rfl) (by decide) (by decide) (by decide) Rk.k2_ok _ (by simp) (by simp; omega) (tab_range w2 tK2) (range_keep (below_one w2 _) hg5 hr5)).mono ?_; rintro e x6 ⟨h6, k6, rfl, m6, n6, o6, p6, b6⟩; rw [tkN_nb, hRK.out] at p6; have B6 : Below wr.heap.size wr x6 := keepB (keepB (keepB b1 b2) B2) (keepB (below_one w2 _) b6); have hown6 := Eb.row_keeps hown B6; have h6w : w2.heap.size < h6 := Nat.lt_of_lt_of_le (by simp) m6)
          | (at_builtin; refine wpList_append_lies _ rfl _ _ _ rfl w.heap.size 58 i1 _ 1 24 Try.underlying126 hi1 hy0 hy1 hy2 rfl (by omega) _ j _ rfl (hown6.alloc _) ⟨x6.heap.size, 0, none⟩ 1 1 _ rfl (by rfl) (World.news_of_block (heap_alloc_new x6 _)) (by simp [Value.oneCell']) (by omega) (by unfold maxLen; omega) (by omega) (by first | (have := B6.size; simp; omega)) (x6.heap.size + 1) (by simp) ?_; intro g7 c7 w7 ow7 gr7 at7 lt7))
        have oL := own_lt hown
        have s0 := b1.size
        have s2 := b2.size
        have s3 := B2.size
        have s4 : w2.heap.size + 1 ≤ x6.heap.size := by have := b6.size; simpa using this
        have s7 : x6.heap.size + 1 ≤ w7.heap.size := by have := gr7.size; simpa using this
        have KR : ∀ g l, g < x6.heap.size → u6.ownBlock ≠ some g → x6.rangeAt g 0 (nv l) → w7.rangeAt g 0 (nv l) := fun g l hg hne h => range_own gr7 (by simp; omega) hne (range_keep (below_one x6 _) hg h)
        have fresh : ∀ g, wr.heap.size ≤ g → u6.ownBlock ≠ some g := fun g hg h => by have := oL g h; omega
        have K1 : Below x1.heap.size x1 x6 := keepB (keepB b2 B2) (keepB (below_one w2 _) b6)
        have K2 : Below x2.heap.size x2 x6 := keepB B2 (keepB (below_one w2 _) b6)
        refine ⟨⟨j + 1, hlt, by congr 1, h1, 0, k1, h2, 0, k2, L ++ [(h6, k6)], rfl, rfl, by omega, by omega, ?_, ?_, ?_, by simp [hLl], ?_, ?_⟩, by simp only [intOf]; omega⟩
        · rw [HC1.out]; exact KR h1 _ (by omega) (fresh h1 m1) (range_keep K1 n1 p1)
        · rw [HD1.out]; exact KR h2 _ (by omega) (fresh h2 (by omega)) (range_keep K2 n2 p2)
        · exact owns_len ow7 rfl rfl (by simp [sv])
        · intro i p hp
          have at8 : g7 < wr.heap.size ∧ u6.ownBlock = some g7 ∨ g7 = x6.heap.size + 1 := by
            rcases at7 with h | h
            · exact .inl ⟨oL _ h, h⟩
            · exact .inr h
          by_cases hi2 : i < L.length
          · rw [List.getElem?_append_left hi2] at hp
            obtain ⟨q1, q2, q3⟩ := hL i p hp
            have q4 : p.1 < x6.heap.size := Nat.lt_of_lt_of_le q1 B6.size
            refine ⟨by omega, ?_, KR p.1 _ q4 q2 (range_keep B6 q1 q3)⟩
            intro h
            have h' : g7 = p.1 := by simpa [Value.ownBlock] using h
            rcases at8 with ⟨_, h8⟩ | h8
            · rw [h'] at h8; exact q2 h8
            · omega
          · have hie : i = j := by
              have := (List.getElem?_eq_some_iff.1 hp).1
              simp at this; omega
            subst hie
            rw [List.getElem?_append_right (by omega), hLl, Nat.sub_self] at hp
            have hpe : p = (h6, k6) := by simpa using hp.symm
            subst hpe
            refine ⟨by show h6 < _; omega, ?_, KR h6 _ n6 (fresh h6 (by omega)) p6⟩
            intro h
            have h' : g7 = h6 := by simpa [Value.ownBlock] using h
            rcases at8 with ⟨h8, _⟩ | h8 <;> omega
        · exact ((keepB hbw B6).alloc (by have := B6.size; omega) _).grown gr7 (by simp; have := B6.size; omega) (own_ge hown)
      · have z1 : ((j : Int) + 1 == 1) = false := beq_eq_false_iff_ne.mpr (by omega)
        have z2 : ((j : Int) + 1 == 2) = false := beq_eq_false_iff_ne.mpr (by omega)
        have z3 : ((j : Int) + 1 == 9) = true := beq_iff_eq.mpr (by omega)
        have t2 : turns (j + 1) = 1 := by rw [hT.out, if_pos (by omega)]
        rw [t2] at LC2
        clear hone LC tpos tle
        have e1 : Hid (rot (hlv key j).1 1 = (hlv key (j + 1)).1) := (by show _ = rot (hlv key j).1 (turns (j + 1)); rw [t2] : rot (hlv key j).1 1 = (hlv key (j + 1)).1)
        have e2 : Hid (rot (hlv key j).2 1 = (hlv key (j + 1)).2) := (by show _ = rot (hlv key j).2 (turns (j + 1)); rw [t2] : rot (hlv key j).2 1 = (hlv key (j + 1)).2)
        rw [e1.out] at LC2
        have LD2 := fun u hu hr => LD 1 (by decide) (by decide) u hu hr
        rw [e2.out] at LD2
        have lc1 := (hlen (j + 1)).1
        have ld1 := (hlen (j + 1)).2
        have hRK : Hid (tk tK2 ((hlv key (j + 1)).1 ++ (hlv key (j + 1)).2) = rk key j) := rfl
        generalize hC1 : (hlv key (j + 1)).1 = C1 at *
        generalize hD1 : (hlv key (j + 1)).2 = D1 at *
        have HC1 : Hid ((hlv key (j + 1)).1 = C1) := hC1
        have HD1 : Hid ((hlv key (j + 1)).2 = D1) := hD1
        clear hC1 hD1
        clear LD t2 e1 e2 hT
        go_wp2_with (first
          | (go_at_call_of 111 (Value.slice (some ⟨gc, oc, none⟩) 28 cc); refine LC2.mono ?_; rintro e x1 ⟨h1, k1, rfl, m1, n1, o1, p1, b1⟩)
          | (go_at_call 111; refine (LD2 x1 (Nat.lt_of_lt_of_le hgd b1.size) (range_keep b1 hgd hrd)).mono ?_; rintro e x2 ⟨h2, k2, rfl, m2, n2, o2, p2, b2⟩; have p1' := range_keep b2 n1 p1; have n1' := Nat.lt_of_lt_of_le n1 b2.size)
          | (at_builtin; refine wpList_append_lies _ rfl _ _ _ rfl x2.heap.size 3 i0 _ 1 8 Try.underlying58 hi hz0 hz1 hz2 rfl (by omega) (.slice none 0 0) 0 _ rfl (World.ownsRow_nil _ _ _ _) ⟨h1, 0, none⟩ 28 k1 (nv (nb C1)) rfl (by rw [nv_len, nb_len, lc1]) (news_nv p1') (nv_one _) (by omega) (by unfold maxLen; omega) (by omega) (Nat.le_refl _) x2.heap.size rfl ?_; intro ga ca w1 ow1 gr1 at1 lt1; have B1 : Below x2.heap.size x2 w1 := (Below.refl _ _).grown gr1 (Nat.le_refl _) (fun k h => by cases h); have p2' := range_keep B1 n2 p2)
          | (at_builtin; refine wpList_append_lies _ rfl _ _ _ rfl x2.heap.size 3 i0 _ 1 8 Try.underlying58 hi hz0 hz1 hz2 rfl (by omega) _ 28 _ rfl ow1 ⟨h2, 0, none⟩ 28 k2 (nv (nb D1)) rfl (by rw [nv_len, nb_len, ld1]) (news_nv p2') (nv_one _) (by omega) (by unfold maxLen; omega) (by omega) B1.size w1.heap.size rfl ?_; intro gb cb w2 ow2 gr2 at2 lt2; have B2 : Below x2.heap.size x2 w2 := B1.grown gr2 B1.size (own_ge ow1); obtain ⟨gb', cb', hvb, hB5, hg5, hc5, hr5⟩ := own_range (l := nb (C1 ++ D1)) (owns_len (n' := 56) ow2 rfl rfl (by rw [List.nil_append, nv_app])) (by decide); cases hvb)
          | (go_at_call 112; refine (tabK2_ref _).mono ?_; rintro e u ⟨rfl, rfl⟩)
          | (go_at_call 97; refine (take_ref tK2 (nb (C1 ++ D1)) w2.heap.size gb 0 48 56 48 cb rfl (by rw [nb_len, List.length_append, lc1, ld1]; rfl) (by decide) (by decide) (by decide) Rk.k2_ok _ (by simp) (by simp; omega) (tab_range w2 tK2) (range_keep (below_one w2 _) hg5 hr5)).mono ?_; rintro e x6 ⟨h6, k6, rfl, m6, n6, o6, p6, b6⟩; rw [tkN_nb, hRK.out] at p6; have B6 : Below wr.heap.size wr x6 := keepB (keepB (keepB b1 b2) B2) (keepB (below_one w2 _) b6); have hown6 := Eb.row_keeps hown B6; have h6w : w2.heap.size < h6 := Nat.lt_of_lt_of_le (by simp) m6)
          | (at_builtin; refine wpList_append_lies _ rfl _ _ _ rfl w.heap.size 58 i1 _ 1 24 Try.underlying126 hi1 hy0 hy1 hy2 rfl (by omega) _ j _ rfl (hown6.alloc _) ⟨x6.heap.size, 0, none⟩ 1 1 _ rfl (by rfl) (World.news_of_block (heap_alloc_new x6 _)) (by simp [Value.oneCell']) (by omega) (by unfold maxLen; omega) (by omega) (by first | (have := B6.size; simp; omega)) (x6.heap.size + 1) (by simp) ?_; intro g7 c7 w7 ow7 gr7 at7 lt7))
        have oL := own_lt hown
        have s0 := b1.size
        have s2 := b2.size
        have s3 := B2.size
        have s4 : w2.heap.size + 1 ≤ x6.heap.size := by have := b6.size; simpa using this
        have s7 : x6.heap.size + 1 ≤ w7.heap.size := by have := gr7.size; simpa using this
        have KR : ∀ g l, g < x6.heap.size → u6.ownBlock ≠ some g → x6.rangeAt g 0 (nv l) → w7.rangeAt g 0 (nv l) := fun g l hg hne h => range_own gr7 (by simp; omega) hne (range_keep (below_one x6 _) hg h)
        have fresh : ∀ g, wr.heap.size ≤ g → u6.ownBlock ≠ some g := fun g hg h => by have := oL g h; omega
        have K1 : Below x1.heap.size x1 x6 := keepB (keepB b2 B2) (keepB (below_one w2 _) b6)
        have K2 : Below x2.heap.size x2 x6 := keepB B2 (keepB (below_one w2 _) b6)
        refine ⟨⟨j + 1, hlt, by congr 1, h1, 0, k1, h2, 0, k2, L ++ [(h6, k6)], rfl, rfl, by omega, by omega, ?_, ?_, ?_, by simp [hLl], ?_, ?_⟩, by simp only [intOf]; omega⟩
        · rw [HC1.out]; exact KR h1 _ (by omega) (fresh h1 m1) (range_keep K1 n1 p1)
        · rw [HD1.out]; exact KR h2 _ (by omega) (fresh h2 (by omega)) (range_keep K2 n2 p2)
        · exact owns_len ow7 rfl rfl (by simp [sv])
        · intro i p hp
          have at8 : g7 < wr.heap.size ∧ u6.ownBlock = some g7 ∨ g7 = x6.heap.size + 1 := by
            rcases at7 with h | h
            · exact .inl ⟨oL _ h, h⟩
            · exact .inr h
          by_cases hi2 : i < L.length
          · rw [List.getElem?_append_left hi2] at hp
            obtain ⟨q1, q2, q3⟩ := hL i p hp
            have q4 : p.1 < x6.heap.size := Nat.lt_of_lt_of_le q1 B6.size
            refine ⟨by omega, ?_, KR p.1 _ q4 q2 (range_keep B6 q1 q3)⟩
            intro h
            have h' : g7 = p.1 := by simpa [Value.ownBlock] using h
            rcases at8 with ⟨_, h8⟩ | h8
            · rw [h'] at h8; exact q2 h8
            · omega
          · have hie : i = j := by
              have := (List.getElem?_eq_some_iff.1 hp).1
              simp at this; omega
            subst hie
            rw [List.getElem?_append_right (by omega), hLl, Nat.sub_self] at hp
            have hpe : p = (h6, k6) := by simpa using hp.symm
            subst hpe
            refine ⟨by show h6 < _; omega, ?_, KR h6 _ n6 (fresh h6 (by omega)) p6⟩
            intro h
            have h' : g7 = h6 := by simpa [Value.ownBlock] using h
            rcases at8 with ⟨h8, _⟩ | h8 <;> omega
        · exact ((keepB hbw B6).alloc (by have := B6.size; omega) _).grown gr7 (by simp; have := B6.size; omega) (own_ge hown)
      · have z1 : ((j : Int) + 1 == 1) = false := beq_eq_false_iff_ne.mpr (by omega)
        have z2 : ((j : Int) + 1 == 2) = false := beq_eq_false_iff_ne.mpr (by omega)
        have z3 : ((j : Int) + 1 == 9) = false := beq_eq_false_iff_ne.mpr (by omega)
        have z4 : ((j : Int) + 1 == 16) = true := beq_iff_eq.mpr (by omega)
        have t2 : turns (j + 1) = 1 := by rw [hT.out, if_pos (by omega)]
        rw [t2] at LC2
        clear hone LC tpos tle
        have e1 : Hid (rot (hlv key j).1 1 = (hlv key (j + 1)).1) := (by show _ = rot (hlv key j).1 (turns (j + 1)); rw [t2] : rot (hlv key j).1 1 = (hlv key (j + 1)).1)
        have e2 : Hid (rot (hlv key j).2 1 = (hlv key (j + 1)).2) := (by show _ = rot (hlv key j).2 (turns (j + 1)); rw [t2] : rot (hlv key j).2 1 = (hlv key (j + 1)).2)
        rw [e1.out] at LC2
        have LD2 := fun u hu hr => LD 1 (by decide) (by decide) u hu hr
        rw [e2.out] at LD2
        have lc1 := (hlen (j + 1)).1
        have ld1 := (hlen (j + 1)).2
        have hRK : Hid (tk tK2 ((hlv key (j + 1)).1 ++ (hlv key (j + 1)).2) = rk key j) := rfl
        generalize hC1 : (hlv key (j + 1)).1 = C1 at *
        generalize hD1 : (hlv key (j + 1)).2 = D1 at *
        have HC1 : Hid ((hlv key (j + 1)).1 = C1) := hC1
        have HD1 : Hid ((hlv key (j + 1)).2 = D1) := hD1
        clear hC1 hD1
        clear LD t2 e1 e2 hT
        go_wp2_with (first
          | (go_at_call_of 111 (Value.slice (some ⟨gc, oc, none⟩) 28 cc); refine LC2.mono ?_; rintro e x1 ⟨h1, k1, rfl, m1, n1, o1, p1, b1⟩)
          | (go_at_call 111; refine (LD2 x1 (Nat.lt_of_lt_of_le hgd b1.size) (range_keep b1 hgd hrd)).mono ?_; rintro e x2 ⟨h2, k2, rfl, m2, n2, o2, p2, b2⟩; have p1' := range_keep b2 n1 p1; have n1' := Nat.lt_of_lt_of_le n1 b2.size)
          | (at_builtin; refine wpList_append_lies _ rfl _ _ _ rfl x2.heap.size 3 i0 _ 1 8 Try.underlying58 hi hz0 hz1 hz2 rfl (by omega) (.slice none 0 0) 0 _ rfl (World.ownsRow_nil _ _ _ _) ⟨h1, 0, none⟩ 28 k1 (nv (nb C1)) rfl (by rw [nv_len, nb_len, lc1]) (news_nv p1') (nv_one _) (by omega) (by unfold maxLen; omega) (by omega) (Nat.le_refl _) x2.heap.size rfl ?_; intro ga ca w1 ow1 gr1 at1 lt1; have B1 : Below x2.heap.size x2 w1 := (Below.refl _ _).grown gr1 (Nat.le_refl _) (fun k h => by cases h); have p2' := range_keep B1 n2 p2)
          | (at_builtin; refine wpList_append_lies _ rfl _ _ _ rfl x2.heap.size 3 i0 _ 1 8 Try.underlying58 hi hz0 hz1 hz2 rfl (by omega) _ 28 _ rfl ow1 ⟨h2, 0, none⟩ 28 k2 (nv (nb D1)) rfl (by rw [nv_len, nb_len, ld1]) (news_nv p2') (nv_one _) (by omega) (by unfold maxLen; omega) (by omega) B1.size w1.heap.size rfl ?_; intro gb cb w2 ow2 gr2 at2 lt2; have B2 : Below x2.heap.size x2 w2 := B1.grown gr2 B1.size (own_ge ow1); obtain ⟨gb', cb', hvb, hB5, hg5, hc5, hr5⟩ := own_range (l := nb (C1 ++ D1)) (owns_len (n' := 56) ow2 rfl rfl (by rw [List.nil_append, nv_app])) (by decide); cases hvb)
          | (go_at_call 112; refine (tabK2_ref _).mono ?_; rintro e u ⟨rfl, rfl⟩)
          | (go_at_call 97; refine (take_ref tK2 (nb (C1 ++ D1)) w2.heap.size gb 0 48 56 48 cb rfl (by rw [nb_len, List.length_append, lc1, ld1]; rfl) (by decide) (by decide) (by decide) Rk.k2_ok _ (by simp) (by simp; omega) (tab_range w2 tK2) (range_keep (below_one w2 _) hg5 hr5)).mono ?_; rintro e x6 ⟨h6, k6, rfl, m6, n6, o6, p6, b6⟩; rw [tkN_nb, hRK.out] at p6; have B6 : Below wr.heap.size wr x6 := keepB (keepB (keepB b1 b2) B2) (keepB (below_one w2 _) b6); have hown6 := Eb.row_keeps hown B6; have h6w : w2.heap.size < h6 := Nat.lt_of_lt_of_le (by simp) m6)
          | (at_builtin; refine wpList_append_lies _ rfl _ _ _ rfl w.heap.size 58 i1 _ 1 24 Try.underlying126 hi1 hy0 hy1 hy2 rfl (by omega) _ j _ rfl (hown6.alloc _) ⟨x6.heap.size, 0, none⟩ 1 1 _ rfl (by rfl) (World.news_of_block (heap_alloc_new x6 _)) (by simp [Value.oneCell']) (by omega) (by unfold maxLen; omega) (by omega) (by first | (have := B6.size; simp; omega)) (x6.heap.size + 1) (by simp) ?_; intro g7 c7 w7 ow7 gr7 at7 lt7))
        have oL := own_lt hown
        have s0 := b1.size
        have s2 := b2.size
        have s3 := B2.size
        have s4 : w2.heap.size + 1 ≤ x6.heap.size := by have := b6.size; simpa using this
        have s7 : x6.heap.size + 1 ≤ w7.heap.size := by have := gr7.size; simpa using this
        have KR : ∀ g l, g < x6.heap.size → u6.ownBlock ≠ some g → x6.rangeAt g 0 (nv l) → w7.rangeAt g 0 (nv l) := fun g l hg hne h => range_own gr7 (by simp; omega) hne (range_keep (below_one x6 _) hg h)
        have fresh : ∀ g, wr.heap.size ≤ g → u6.ownBlock ≠ some g := fun g hg h => by have := oL g h; omega
        have K1 : Below x1.heap.size x1 x6 := keepB (keepB b2 B2) (keepB (below_one w2 _) b6)
        have K2 : Below x2.heap.size x2 x6 := keepB B2 (keepB (below_one w2 _) b6)
        refine ⟨⟨j + 1, hlt, by congr 1, h1, 0, k1, h2, 0, k2, L ++ [(h6, k6)], rfl, rfl, by omega, by omega, ?_, ?_, ?_, by simp [hLl], ?_, ?_⟩, by simp only [intOf]; omega⟩
        · rw [HC1.out]; exact KR h1 _ (by omega) (fresh h1 m1) (range_keep K1 n1 p1)
        · rw [HD1.out]; exact KR h2 _ (by omega) (fresh h2 (by omega)) (range_keep K2 n2 p2)
        · exact owns_len ow7 rfl rfl (by simp [sv])
        · intro i p hp
          have at8 : g7 < wr.heap.size ∧ u6.ownBlock = some g7 ∨ g7 = x6.heap.size + 1 := by
            rcases at7 with h | h
            · exact .inl ⟨oL _ h, h⟩
            · exact .inr h
          by_cases hi2 : i < L.length
          · rw [List.getElem?_append_left hi2] at hp
            obtain ⟨q1, q2, q3⟩ := hL i p hp
            have q4 : p.1 < x6.heap.size := Nat.lt_of_lt_of_le q1 B6.size
            refine ⟨by omega, ?_, KR p.1 _ q4 q2 (range_keep B6 q1 q3)⟩
            intro h
            have h' : g7 = p.1 := by simpa [Value.ownBlock] using h
            rcases at8 with ⟨_, h8⟩ | h8
            · rw [h'] at h8; exact q2 h8
            · omega
          · have hie : i = j := by
              have := (List.getElem?_eq_some_iff.1 hp).1
              simp at this; omega
            subst hie
            rw [List.getElem?_append_right (by omega), hLl, Nat.sub_self] at hp
            have hpe : p = (h6, k6) := by simpa using hp.symm
            subst hpe
            refine ⟨by show h6 < _; omega, ?_, KR h6 _ n6 (fresh h6 (by omega)) p6⟩
            intro h
            have h' : g7 = h6 := by simpa [Value.ownBlock] using h
            rcases at8 with ⟨h8, _⟩ | h8 <;> omega
        · exact ((keepB hbw B6).alloc (by have := B6.size; omega) _).grown gr7 (by simp; have := B6.size; omega) (own_ge hown)
      · have z1 : ((j : Int) + 1 == 1) = false := beq_eq_false_iff_ne.mpr (by omega)
        have z2 : ((j : Int) + 1 == 2) = false := beq_eq_false_iff_ne.mpr (by omega)
        have z3 : ((j : Int) + 1 == 9) = false := beq_eq_false_iff_ne.mpr (by omega)
        have z4 : ((j : Int) + 1 == 16) = false := beq_eq_false_iff_ne.mpr (by omega)
        have t2 : turns (j + 1) = 2 := by rw [hT.out, if_neg hone]
        rw [t2] at LC2
        clear hone LC tpos tle
        have e1 : Hid (rot (hlv key j).1 2 = (hlv key (j + 1)).1) := (by show _ = rot (hlv key j).1 (turns (j + 1)); rw [t2] : rot (hlv key j).1 2 = (hlv key (j + 1)).1)
        have e2 : Hid (rot (hlv key j).2 2 = (hlv key (j + 1)).2) := (by show _ = rot (hlv key j).2 (turns (j + 1)); rw [t2] : rot (hlv key j).2 2 = (hlv key (j + 1)).2)
        rw [e1.out] at LC2
        have LD2 := fun u hu hr => LD 2 (by decide) (by decide) u hu hr
        rw [e2.out] at LD2
        have lc1 := (hlen (j + 1)).1
        have ld1 := (hlen (j + 1)).2
        have hRK : Hid (tk tK2 ((hlv key (j + 1)).1 ++ (hlv key (j + 1)).2) = rk key j) := rfl
        generalize hC1 : (hlv key (j + 1)).1 = C1 at *
        generalize hD1 : (hlv key (j + 1)).2 = D1 at *
        have HC1 : Hid ((hlv key (j + 1)).1 = C1) := hC1
        have HD1 : Hid ((hlv key (j + 1)).2 = D1) := hD1
        clear hC1 hD1
        clear LD t2 e1 e2 hT
        go_wp2_with (first
          | (go_at_call_of 111 (Value.slice (some ⟨gc, oc, none⟩) 28 cc); refine LC2.mono ?_; rintro e x1 ⟨h1, k1, rfl, m1, n1, o1, p1, b1⟩)
          | (go_at_call 111; refine (LD2 x1 (Nat.lt_of_lt_of_le hgd b1.size) (range_keep b1 hgd hrd)).mono ?_; rintro e x2 ⟨h2, k2, rfl, m2, n2, o2, p2, b2⟩; have p1' := range_keep b2 n1 p1; have n1' := Nat.lt_of_lt_of_le n1 b2.size)
          | (at_builtin; refine wpList_append_lies _ rfl _ _ _ rfl x2.heap.size 3 i0 _ 1 8 Try.underlying58 hi hz0 hz1 hz2 rfl (by omega) (.slice none 0 0) 0 _ rfl (World.ownsRow_nil _ _ _ _) ⟨h1, 0, none⟩ 28 k1 (nv (nb C1)) rfl (by rw [nv_len, nb_len, lc1]) (news_nv p1') (nv_one _) (by omega) (by unfold maxLen; omega) (by omega) (Nat.le_refl _) x2.heap.size rfl ?_; intro ga ca w1 ow1 gr1 at1 lt1; have B1 : Below x2.heap.size x2 w1 := (Below.refl _ _).grown gr1 (Nat.le_refl _) (fun k h => by cases h); have p2' := range_keep B1 n2 p2)
          | (at_builtin; refine wpList_append_lies _ rfl _ _ _ rfl x2.heap.size 3 i0 _ 1 8 Try.underlying58 hi hz0 hz1 hz2 rfl (by omega) _ 28 _ rfl ow1 ⟨h2, 0, none⟩ 28 k2 (nv (nb D1)) rfl (by rw [nv_len, nb_len, ld1]) (news_nv p2') (nv_one _) (by omega) (by unfold maxLen; omega) (by omega) B1.size w1.heap.size rfl ?_; intro gb cb w2 ow2 gr2 at2 lt2; have B2 : Below x2.heap.size x2 w2 := B1.grown gr2 B1.size (own_ge ow1); obtain ⟨gb', cb', hvb, hB5, hg5, hc5, hr5⟩ := own_range (l := nb (C1 ++ D1)) (owns_len (n' := 56) ow2 rfl rfl (by rw [List.nil_append, nv_app])) (by decide); cases hvb)
          | (go_at_call 112; refine (tabK2_ref _).mono ?_; rintro e u ⟨rfl, rfl⟩)
          | (go_at_call 97; refine (take_ref tK2 (nb (C1 ++ D1)) w2.heap.size gb 0 48 56 48 cb rfl (by rw [nb_len, List.length_append, lc1, ld1]; rfl) (by decide) (by decide) (by decide) Rk.k2_ok _ (by simp) (by simp; omega) (tab_range w2 tK2) (range_keep (below_one w2 _) hg5 hr5)).mono ?_; rintro e x6 ⟨h6, k6, rfl, m6, n6, o6, p6, b6⟩; rw [tkN_nb, hRK.out] at p6; have B6 : Below wr.heap.size wr x6 := keepB (keepB (keepB b1 b2) B2) (keepB (below_one w2 _) b6); have hown6 := Eb.row_keeps hown B6; have h6w : w2.heap.size < h6 := Nat.lt_of_lt_of_le (by simp) m6)
          | (at_builtin; refine wpList_append_lies _ rfl _ _ _ rfl w.heap.size 58 i1 _ 1 24 Try.underlying126 hi1 hy0 hy1 hy2 rfl (by omega) _ j _ rfl (hown6.alloc _) ⟨x6.heap.size, 0, none⟩ 1 1 _ rfl (by rfl) (World.news_of_block (heap_alloc_new x6 _)) (by simp [Value.oneCell']) (by omega) (by unfold maxLen; omega) (by omega) (by first | (have := B6.size; simp; omega)) (x6.heap.size + 1) (by simp) ?_; intro g7 c7 w7 ow7 gr7 at7 lt7))
        have oL := own_lt hown
        have s0 := b1.size
        have s2 := b2.size
        have s3 := B2.size
        have s4 : w2.heap.size + 1 ≤ x6.heap.size := by have := b6.size; simpa using this
        have s7 : x6.heap.size + 1 ≤ w7.heap.size := by have := gr7.size; simpa using this
        have KR : ∀ g l, g < x6.heap.size → u6.ownBlock ≠ some g → x6.rangeAt g 0 (nv l) → w7.rangeAt g 0 (nv l) := fun g l hg hne h => range_own gr7 (by simp; omega) hne (range_keep (below_one x6 _) hg h)
        have fresh : ∀ g, wr.heap.size ≤ g → u6.ownBlock ≠ some g := fun g hg h => by have := oL g h; omega
        have K1 : Below x1.heap.size x1 x6 := keepB (keepB b2 B2) (keepB (below_one w2 _) b6)
        have K2 : Below x2.heap.size x2 x6 := keepB B2 (keepB (below_one w2 _) b6)
        refine ⟨⟨j + 1, hlt, by congr 1, h1, 0, k1, h2, 0, k2, L ++ [(h6, k6)], rfl, rfl, by omega, by omega, ?_, ?_, ?_, by simp [hLl], ?_, ?_⟩, by simp only [intOf]; omega⟩
        · rw [HC1.out]; exact KR h1 _ (by omega) (fresh h1 m1) (range_keep K1 n1 p1)
        · rw [HD1.out]; exact KR h2 _ (by omega) (fresh h2 (by omega)) (range_keep K2 n2 p2)
        · exact owns_len ow7 rfl rfl (by simp [sv])
        · intro i p hp
          have at8 : g7 < wr.heap.size ∧ u6.ownBlock = some g7 ∨ g7 = x6.heap.size + 1 := by
            rcases at7 with h | h
            · exact .inl ⟨oL _ h, h⟩
            · exact .inr h
          by_cases hi2 : i < L.length
          · rw [List.getElem?_append_left hi2] at hp
            obtain ⟨q1, q2, q3⟩ := hL i p hp
            have q4 : p.1 < x6.heap.size := Nat.lt_of_lt_of_le q1 B6.size
            refine ⟨by omega, ?_, KR p.1 _ q4 q2 (range_keep B6 q1 q3)⟩
            intro h
            have h' : g7 = p.1 := by simpa [Value.ownBlock] using h
            rcases at8 with ⟨_, h8⟩ | h8
            · rw [h'] at h8; exact q2 h8
            · omega
          · have hie : i = j := by
              have := (List.getElem?_eq_some_iff.1 hp).1
              simp at this; omega
            subst hie
            rw [List.getElem?_append_right (by omega), hLl, Nat.sub_self] at hp
            have hpe : p = (h6, k6) := by simpa using hp.symm
            subst hpe
            refine ⟨by show h6 < _; omega, ?_, KR h6 _ n6 (fresh h6 (by omega)) p6⟩
            intro h
            have h' : g7 = h6 := by simpa [Value.ownBlock] using h
            rcases at8 with ⟨h8, _⟩ | h8 <;> omega
        · exact ((keepB hbw B6).alloc (by have := B6.size; omega) _).grown gr7 (by simp; have := B6.size; omega) (own_ge hown)
    · obtain rfl : j = 16 := by omega
      obtain ⟨g, cap, rfl, hB, hg, hcap, hr⟩ := own_rangeV hown (by decide)
      clear hown hrc hrd
      go_wp2
      go_ret
      exact ⟨L, g, cap, rfl, hcap, hg, hLl, hr, fun i p hp => ⟨(hL i p hp).1, (hL i p hp).2.2⟩, hbw⟩
end Go.Proofs.Ytciblmdpngnakaa.Rr
