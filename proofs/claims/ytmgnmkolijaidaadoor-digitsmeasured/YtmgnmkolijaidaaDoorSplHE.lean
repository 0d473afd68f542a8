/- Halves read: hlf, even. -/
import Derived.Test.YtmgnmkolijaidaaDoorSpl
namespace Go.Proofs.YtmgnmkolijaidaaDoor.Spl
open Go.RowKit Lib0 Chars Ebc
set_option maxRecDepth 100000 in
set_option maxHeartbeats 12800000 in
theorem split_hlf_even (enc : Int) (s : ByteArray) (n : Nat) (w : World) (hs : s.size ≤ 4194304) (hn : n = 2 * s.size) :
    Calls Tryd.prog 24 #[.int .i64 enc, .string s, .int .i64 n, .func (.func 34) #[] #[]] w fun e w' => e = .returned (val3 (splitG (fun k b => byteR hlf (holeAt enc n k) b) 0 s.data.toList [])) ∧ Below w.heap.size w w' := by
  obtain ⟨i0, hi, hz0, hz1, hz2⟩ := info_parts info
  have Hn : Hid (n = 2 * s.size) := hn
  have hn1 : n ≤ 8388608 := by omega
  clear hn
  obtain ⟨F, hG⟩ : ∃ F : Nat → UInt8 → List UInt8 × Int, (fun k b => byteR hlf (holeAt enc n k) b) = F := ⟨_, rfl⟩
  rw [hG]
  have HG : Hid (∀ k b, F k b = byteR hlf (holeAt enc n k) b) := by
    show ∀ _ _, _
    intro k b; rw [← hG]
  clear hG
  have x0 := ix0
  have x1 := ix1
  go_enter Tryd.func24, Tryd.ntmps24
  go_wp2_with fail
  refine (fill_none enc n _ (by have := Hn.out; omega) (by omega)).mono ?_
  rintro e w' ⟨rfl, rfl⟩
  go_wp2_with (at_make; refine wpList_make_own _ rfl _ _ 43 rfl w'.heap.size 5 i0 _ 1 Tryd.underlying43 hi hz0 hz1 _ _ _ n rfl rfl (by omega) (by rw [hz2]; omega) (by unfold maxLen; omega) (Nat.le_refl _) ?_)
  intro w0 hown0 hgrow0
  have hb0 := (Below.refl w'.heap.size w').grown hgrow0 (Nat.le_refl _) (fun k h => by cases h)
  go_wp2
  go_loopw [13, 29] (fun v i wr => ∃ (k : Nat) (acc : List UInt8), k ≤ s.size ∧ i = .int .i64 k ∧ acc.length ≤ 2 * k ∧ Hid (splitG F 0 s.data.toList [] = splitG F k (s.data.toList.drop k) acc) ∧ wr.ownsRow w'.heap.size 5 1 v acc.length (bs acc) ∧ Below w'.heap.size w' wr) (fun _ i _ => s.size - (intOf i).toNat)
  case atStart => exact ⟨0, [], Nat.zero_le _, rfl, Nat.le_refl _, rfl, hown0, hb0⟩
  case round =>
    obtain ⟨k, acc, hk, rfl, hacc, HS, hown, hb⟩ := hrel
    by_cases hlt : k < s.size
    · have h1 : (0 : Int) ≤ (k : Int) := by omega
      have h2 : (k : Int) < (s.size : Int) := by omega
      have h3 : (s[k].toNat : Int) < 256 := toNat_lt _
      have d1 : (0 : Int) ≤ (s[k].toNat : Int) / 16 := by omega
      have d2 : (s[k].toNat : Int) / 16 < 16 := by omega
      have d3 : (0 : Int) ≤ (s[k].toNat : Int) % 16 := by omega
      have d4 : (s[k].toNat : Int) % 16 < 16 := by omega
      have d6 : bits .and .u8 (s[k].toNat : Int) 15 = (s[k].toNat : Int) % 16 := u8_and15 _ (by omega) (by omega)
      have hnn := Hn.out
      have q0 : ((2 * (k : Int)) == -1) = false := by simp; omega
      have q1 : ((2 * (k : Int) + 1) == -1) = false := by simp; omega
      have HK : F k s[k] = if hlf (c1 s[k]) then (if hlf (c2 s[k]) then ([c1 s[k], c2 s[k]], 0) else ([], 11)) else ([], 11) := by
        rw [HG.out, show holeAt enc n k = 0 from by have h3 : n % 2 = 0 := (by omega); simp [holeAt, h3]]; simp [byteR]
      clear hnn
      go_wp2
      go_quiet (fail)
      obtain ⟨x, hxw⟩ : ∃ x, x = wr.drewN nq := ⟨_, rfl⟩
      rw [← hxw]
      have hown2 : x.ownsRow w'.heap.size 5 1 u13 acc.length (bs acc) := hxw ▸ own_draws hown nq
      have hb2 : Below w'.heap.size w' x := hxw ▸ below_drewN hb nq
      have hbs2 := hb2.size
      clear hxw hown hb
      go_wp2
      refine wp_loop_rounds 3 ?_
      rw [rounds_succ]
      cases hp1 : hlf (c1 s[k])
      · have Hp1 : Hid (hlf (c1 s[k]) = false) := hp1
        clear hp1
        cases hp2 : hlf (c2 s[k])
        · have Hp2 : Hid (hlf (c2 s[k]) = false) := hp2
          clear hp2
          have HFK : F k s[k] = ([], 11) := by rw [HK, Hp1.out]; rfl
          clear HK
          go_wp2_with fail
          refine (isHalf_int _ (c1 s[k]) (c1_int _ _ rfl) _).mono ?_
          rintro e y ⟨rfl, hy⟩
          rw [hy, Hp1.out]
          clear hy y
          go_wp2_with (at_builtin; refine wpList_append_lies _ rfl _ _ _ rfl w'.heap.size 5 i0 _ 1 1 Tryd.underlying43 hi hz0 hz1 hz2 rfl (by omega) u13 (acc.length) _ rfl (hown2.alloc _) ⟨x.heap.size, 0, none⟩ 1 1 _ rfl (by rfl) (World.news_of_block (heap_alloc_new x _)) (by simp [Value.oneCell']) (by omega) (by unfold maxLen; omega) (by omega) (by simp; omega) (x.heap.size + 1) (by simp) ?_)
          intro g1 cap1 w1 own1 grow1 hat1 hltg1
          have bel1 : Below w'.heap.size w' w1 := below_app0 hb2 hbs2 hown2 grow1
          clear grow1 hat1 hltg1
          have hbs1 := bel1.size
          go_wp2
          rw [rounds_succ]
          go_wp2_with fail
          refine (isHalf_int _ (c2 s[k]) (c2_int _ _ rfl) _).mono ?_
          rintro e y ⟨rfl, hy⟩
          rw [hy, Hp2.out]
          clear hy y
          go_wp2_with (at_builtin; refine wpList_append_lies _ rfl _ _ _ rfl w'.heap.size 5 i0 _ 1 1 Tryd.underlying43 hi hz0 hz1 hz2 rfl (by omega) (.slice (some ⟨g1, 0, none⟩) (acc.length + 1) cap1) (acc.length + 1) _ rfl (own1.alloc _) ⟨w1.heap.size, 0, none⟩ 1 1 _ rfl (by rfl) (World.news_of_block (heap_alloc_new w1 _)) (by simp [Value.oneCell']) (by omega) (by unfold maxLen; omega) (by omega) (by simp; omega) (w1.heap.size + 1) (by simp) ?_)
          intro g2 cap2 w2 own2 grow2 hat2 hltg2
          have bel2 : Below w'.heap.size w' w2 := below_app0 bel1 bel1.size own1 grow2
          clear grow2 hat2 hltg2
          go_wp2
          rw [rounds_succ]
          have HE : Hid (splitG F 0 s.data.toList [] = ([], 11, (k : Int))) := by show _ = _; rw [HS.out]; exact step_no F s k hlt acc _ 11 (by decide) HFK
          go_wp2
          go_ret3
          exact ⟨by rw [HE.out]; rfl, bel2⟩
        · have Hp2 : Hid (hlf (c2 s[k]) = true) := hp2
          clear hp2
          have HFK : F k s[k] = ([], 11) := by rw [HK, Hp1.out]; rfl
          clear HK
          go_wp2_with fail
          refine (isHalf_int _ (c1 s[k]) (c1_int _ _ rfl) _).mono ?_
          rintro e y ⟨rfl, hy⟩
          rw [hy, Hp1.out]
          clear hy y
          go_wp2_with (at_builtin; refine wpList_append_lies _ rfl _ _ _ rfl w'.heap.size 5 i0 _ 1 1 Tryd.underlying43 hi hz0 hz1 hz2 rfl (by omega) u13 (acc.length) _ rfl (hown2.alloc _) ⟨x.heap.size, 0, none⟩ 1 1 _ rfl (by rfl) (World.news_of_block (heap_alloc_new x _)) (by simp [Value.oneCell']) (by omega) (by unfold maxLen; omega) (by omega) (by simp; omega) (x.heap.size + 1) (by simp) ?_)
          intro g1 cap1 w1 own1 grow1 hat1 hltg1
          have bel1 : Below w'.heap.size w' w1 := below_app0 hb2 hbs2 hown2 grow1
          clear grow1 hat1 hltg1
          have hbs1 := bel1.size
          go_wp2
          rw [rounds_succ]
          go_wp2_with fail
          refine (isHalf_int _ (c2 s[k]) (c2_int _ _ rfl) _).mono ?_
          rintro e y ⟨rfl, hy⟩
          rw [hy, Hp2.out]
          clear hy y
          go_wp2_with (at_builtin; refine wpList_append_lies _ rfl _ _ _ rfl w'.heap.size 5 i0 _ 1 1 Tryd.underlying43 hi hz0 hz1 hz2 rfl (by omega) (.slice (some ⟨g1, 0, none⟩) (acc.length + 1) cap1) (acc.length + 1) _ rfl (own1.alloc _) ⟨w1.heap.size, 0, none⟩ 1 1 _ rfl (by rfl) (World.news_of_block (heap_alloc_new w1 _)) (by simp [Value.oneCell']) (by omega) (by unfold maxLen; omega) (by omega) (by simp; omega) (w1.heap.size + 1) (by simp) ?_)
          intro g2 cap2 w2 own2 grow2 hat2 hltg2
          have bel2 : Below w'.heap.size w' w2 := below_app0 bel1 bel1.size own1 grow2
          clear grow2 hat2 hltg2
          go_wp2
          rw [rounds_succ]
          have HE : Hid (splitG F 0 s.data.toList [] = ([], 11, (k : Int))) := by show _ = _; rw [HS.out]; exact step_no F s k hlt acc _ 11 (by decide) HFK
          go_wp2
          go_ret3
          exact ⟨by rw [HE.out]; rfl, bel2⟩
      · have Hp1 : Hid (hlf (c1 s[k]) = true) := hp1
        clear hp1
        cases hp2 : hlf (c2 s[k])
        · have Hp2 : Hid (hlf (c2 s[k]) = false) := hp2
          clear hp2
          have HFK : F k s[k] = ([], 11) := by rw [HK, Hp1.out, Hp2.out]; rfl
          clear HK
          go_wp2_with fail
          refine (isHalf_int _ (c1 s[k]) (c1_int _ _ rfl) _).mono ?_
          rintro e y ⟨rfl, hy⟩
          rw [hy, Hp1.out]
          clear hy y
          go_wp2_with (at_builtin; refine wpList_append_lies _ rfl _ _ _ rfl w'.heap.size 5 i0 _ 1 1 Tryd.underlying43 hi hz0 hz1 hz2 rfl (by omega) u13 (acc.length) _ rfl (hown2.alloc _) ⟨x.heap.size, 0, none⟩ 1 1 _ rfl (by rfl) (World.news_of_block (heap_alloc_new x _)) (by simp [Value.oneCell']) (by omega) (by unfold maxLen; omega) (by omega) (by simp; omega) (x.heap.size + 1) (by simp) ?_)
          intro g1 cap1 w1 own1 grow1 hat1 hltg1
          have bel1 : Below w'.heap.size w' w1 := below_app0 hb2 hbs2 hown2 grow1
          clear grow1 hat1 hltg1
          have hbs1 := bel1.size
          go_wp2
          rw [rounds_succ]
          go_wp2_with fail
          refine (isHalf_int _ (c2 s[k]) (c2_int _ _ rfl) _).mono ?_
          rintro e y ⟨rfl, hy⟩
          rw [hy, Hp2.out]
          clear hy y
          go_wp2_with (at_builtin; refine wpList_append_lies _ rfl _ _ _ rfl w'.heap.size 5 i0 _ 1 1 Tryd.underlying43 hi hz0 hz1 hz2 rfl (by omega) (.slice (some ⟨g1, 0, none⟩) (acc.length + 1) cap1) (acc.length + 1) _ rfl (own1.alloc _) ⟨w1.heap.size, 0, none⟩ 1 1 _ rfl (by rfl) (World.news_of_block (heap_alloc_new w1 _)) (by simp [Value.oneCell']) (by omega) (by unfold maxLen; omega) (by omega) (by simp; omega) (w1.heap.size + 1) (by simp) ?_)
          intro g2 cap2 w2 own2 grow2 hat2 hltg2
          have bel2 : Below w'.heap.size w' w2 := below_app0 bel1 bel1.size own1 grow2
          clear grow2 hat2 hltg2
          go_wp2
          rw [rounds_succ]
          have HE : Hid (splitG F 0 s.data.toList [] = ([], 11, (k : Int))) := by show _ = _; rw [HS.out]; exact step_no F s k hlt acc _ 11 (by decide) HFK
          go_wp2
          go_ret3
          exact ⟨by rw [HE.out]; rfl, bel2⟩
        · have Hp2 : Hid (hlf (c2 s[k]) = true) := hp2
          clear hp2
          have HFK : F k s[k] = ([c1 s[k], c2 s[k]], 0) := by rw [HK, Hp1.out, Hp2.out]; rfl
          clear HK
          go_wp2_with fail
          refine (isHalf_int _ (c1 s[k]) (c1_int _ _ rfl) _).mono ?_
          rintro e y ⟨rfl, hy⟩
          rw [hy, Hp1.out]
          clear hy y
          go_wp2_with (at_builtin; refine wpList_append_lies _ rfl _ _ _ rfl w'.heap.size 5 i0 _ 1 1 Tryd.underlying43 hi hz0 hz1 hz2 rfl (by omega) u13 (acc.length) _ rfl (hown2.alloc _) ⟨x.heap.size, 0, none⟩ 1 1 _ rfl (by rfl) (World.news_of_block (heap_alloc_new x _)) (by simp [Value.oneCell']) (by omega) (by unfold maxLen; omega) (by omega) (by simp; omega) (x.heap.size + 1) (by simp) ?_)
          intro g1 cap1 w1 own1 grow1 hat1 hltg1
          have bel1 : Below w'.heap.size w' w1 := below_app0 hb2 hbs2 hown2 grow1
          clear grow1 hat1 hltg1
          have hbs1 := bel1.size
          go_wp2
          rw [rounds_succ]
          go_wp2_with fail
          refine (isHalf_int _ (c2 s[k]) (c2_int _ _ rfl) _).mono ?_
          rintro e y ⟨rfl, hy⟩
          rw [hy, Hp2.out]
          clear hy y
          go_wp2_with (at_builtin; refine wpList_append_lies _ rfl _ _ _ rfl w'.heap.size 5 i0 _ 1 1 Tryd.underlying43 hi hz0 hz1 hz2 rfl (by omega) (.slice (some ⟨g1, 0, none⟩) (acc.length + 1) cap1) (acc.length + 1) _ rfl (own1.alloc _) ⟨w1.heap.size, 0, none⟩ 1 1 _ rfl (by rfl) (World.news_of_block (heap_alloc_new w1 _)) (by simp [Value.oneCell']) (by omega) (by unfold maxLen; omega) (by omega) (by simp; omega) (w1.heap.size + 1) (by simp) ?_)
          intro g2 cap2 w2 own2 grow2 hat2 hltg2
          have bel2 : Below w'.heap.size w' w2 := below_app0 bel1 bel1.size own1 grow2
          clear grow2 hat2 hltg2
          go_wp2
          rw [rounds_succ]
          go_wp2
          go_roundw
          case rel => exact ⟨k + 1, acc ++ [c1 s[k], c2 s[k]], by omega, by go_num, by simp; omega, (by show _ = _; rw [HS.out]; exact step_ok F s k hlt acc _ HFK), owns_len own2 rfl (by simp) (two_bs acc (c1 s[k]) (c2 s[k]) _ _ (c1_int _ _ rfl) (c2_int _ _ rfl)), bel2⟩
          case measure => simp [intOf]; omega
    · have HE : Hid (splitG F 0 s.data.toList [] = (acc, 0, 0)) := by show _ = _; rw [HS.out]; exact step_end F s k (by omega) acc
      have hcv := run_str (P := Tryd.prog) (src := 43) (dst := 9) Tryd.underlying43 Tryd.underlying5 Tryd.underlying9 hown
      go_wp2
      go_ret3
      exact ⟨by rw [HE.out]; rfl, hb⟩
end Go.Proofs.YtmgnmkolijaidaaDoor.Spl
