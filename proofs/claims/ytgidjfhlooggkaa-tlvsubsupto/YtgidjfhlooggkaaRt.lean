/- The document's ParseSub. -/
import Derived.Test.YtgidjfhlooggkaaRr
import Derived.Test.YtgidjfhlooggkaaBs
import Derived.Test.YtgidjfhlooggkaaGj
import Derived.BigQuiet
namespace Go.Proofs.Ytgidjfhlooggkaa.Rt
set_option linter.unusedVariables false
set_option linter.unusedSimpArgs false
open Go.RowKit Kb Ga Gb Gc Gd Nt Gf Gg Rr Np Gj Gl Gn Go_
def t0 : Rs → Int
  | .ok t _ => t
  | .bad _ _ => 0
def t1 : Rs → Int
  | .ok _ _ => 0
  | .bad y _ => y
def t2 : Rs → Int
  | .ok _ _ => 0
  | .bad _ a => a
/-- how far two digits are read -/
def Tw (s : ByteArray) (k : Nat) (e why : Int) (j : Nat) (n : Int) : Prop :=
  (j = 0 ∧ n = 0) ∨ (j = 1 ∧ digR s k e why = .ok n (k + 1)) ∨ (j = 2 ∧ pairR s k e why = .ok n (k + 2))
theorem tw_short {s : ByteArray} {k : Nat} {e why : Int} {j : Nat} {n : Int} (h : Tw s k e why j n) (hj : j < 2) (hs : e ≤ ((k + j : Nat) : Int)) : pairR s k e why = .bad 10 e := by
  rcases h with ⟨rfl, rfl⟩ | ⟨rfl, h⟩ | ⟨rfl, h⟩
  · unfold pairR digR
    rw [if_neg (by omega)]
  · unfold pairR
    rw [h]
    simp only
    unfold digR
    rw [if_neg (by omega)]
  · omega
theorem tw_bad {s : ByteArray} {k : Nat} {e why : Int} {j : Nat} {n : Int} (h : Tw s k e why j n) (hj : j < 2) (hs : ((k + j : Nat) : Int) < e) (hb : ¬ (48 ≤ byt s (k + j) ∧ byt s (k + j) ≤ 57)) : pairR s k e why = .bad why ((k + j : Nat) : Int) := by
  rcases h with ⟨rfl, rfl⟩ | ⟨rfl, h⟩ | ⟨rfl, h⟩
  · unfold pairR digR
    rw [if_pos (by simpa using hs), if_neg (by simpa using hb)]
    simp
  · unfold pairR
    rw [h]
    simp only
    unfold digR
    rw [if_pos hs, if_neg hb]
  · omega
theorem tw_next {s : ByteArray} {k : Nat} {e why : Int} {j : Nat} {n : Int} (h : Tw s k e why j n) (hj : j < 2) (hs : ((k + j : Nat) : Int) < e) (hb : 48 ≤ byt s (k + j) ∧ byt s (k + j) ≤ 57) : Tw s k e why (j + 1) (10 * n + byt s (k + j) - 48) := by
  rcases h with ⟨rfl, rfl⟩ | ⟨rfl, h⟩ | ⟨rfl, h⟩
  · refine .inr (.inl ⟨rfl, ?_⟩)
    unfold digR
    rw [if_pos (by simpa using hs), if_pos (by simpa using hb)]
    simp
  · refine .inr (.inr ⟨rfl, ?_⟩)
    unfold pairR
    rw [h]
    simp only
    unfold digR
    rw [if_pos hs, if_pos hb]
    simp only [Rs.ok.injEq]
    exact ⟨by omega, trivial⟩
  · omega
theorem tw_bd {s : ByteArray} {k : Nat} {e why : Int} {j : Nat} {n : Int} (h : Tw s k e why j n) : 0 ≤ n ∧ n ≤ 99 := by
  rcases h with ⟨rfl, rfl⟩ | ⟨rfl, h⟩ | ⟨rfl, h⟩
  · omega
  · have := digR_ok h; omega
  · have := pairR_ok h; omega
set_option maxRecDepth 100000 in
set_option maxHeartbeats 1600000 in
theorem two_doc (s : ByteArray) (k : Nat) (why : Int) (w : World) (hs : s.size ≤ 1048576) (hk : k ≤ 2097152) :
    Calls Try.prog 44 #[.string s, .int .i64 (k : Int), .int .i64 why] w fun e w' => e = .returned (.tuple #[.int .i64 (t0 (pairR s k s.size why)), .int .i64 (t1 (pairR s k s.size why)), .int .i64 (t2 (pairR s k s.size why))]) ∧ w' = w := by
  obtain ⟨R, HR⟩ : ∃ R, Hid (pairR s k s.size why = R) := ⟨_, rfl⟩
  rw [HR.out]
  go_enter Try.func44, Try.ntmps44
  go_wp2
  go_loopw [9, 10] (fun vn vj wr => ∃ (j : Nat) (n : Int), j ≤ 2 ∧ vn = .int .i64 n ∧ vj = .int .i64 (j : Int) ∧ wr = w ∧ Hid (Tw s k s.size why j n)) (fun _ vj _ => 2 - (intOf vj).toNat)
  case atStart => exact ⟨0, 0, by omega, rfl, rfl, rfl, .inl ⟨rfl, rfl⟩⟩
  case round =>
    obtain ⟨j, n, hj, rfl, rfl, hwr, HT⟩ := hrel
    rename World => wr
    have HW : Hid (wr = w) := hwr
    clear hwr
    have hbd := tw_bd HT.out
    by_cases hlt : j < 2
    · have hlt' : (j : Int) < 2 := by omega
      obtain ⟨K, HK⟩ : ∃ K, Hid (k + j = K) := ⟨_, rfl⟩
      have hK := HK.out
      have eK : (k : Int) + (j : Int) = (K : Int) := by omega
      have hKm : K ≤ 2097155 := by omega
      by_cases hsh : K < s.size
      · have hsh' : ¬ (s.size : Int) ≤ (K : Int) := by omega
        have ix' : (K : Int) < (s.size : Int) := by omega
        obtain ⟨a, Ha⟩ : ∃ a : Int, Hid (a = byt s K) := ⟨_, rfl⟩
        have bx : ((s[K]'hsh).toNat : Int) = a := by rw [Ha.out]; exact (byt_get s K hsh).symm
        have ba : 0 ≤ a ∧ a ≤ 255 := by rw [Ha.out]; exact byt_bd s K
        clear hK
        by_cases h1 : a < 48
        · have HE : Hid (R = .bad why (K : Int)) := by
            show _ = _
            have ha := Ha.out
            rw [← HR.out, tw_bad HT.out hlt (by rw [HK.out]; omega) (by rw [HK.out, ← ha]; omega), HK.out]
          go_wp2
          go_ret3
          exact ⟨by rw [HE.out]; rfl, HW.out⟩
        · by_cases h2 : a ≤ 57
          · have h1' : ¬ a < 48 := h1
            have h2' : ¬ 57 < a := by omega
            have HN : Hid (Tw s k s.size why (j + 1) (10 * n + a - 48)) := by
              have ha := Ha.out
              have := tw_next HT.out hlt (by rw [HK.out]; omega) (by rw [HK.out, ← ha]; omega)
              rw [HK.out, ← ha] at this
              exact this
            clear h1 h2
            go_wp2
            exact ⟨⟨j + 1, _, by omega, rfl, by go_num, HW.out, HN.out⟩, by simp [intOf]; omega⟩
          · have h1' : ¬ a < 48 := h1
            have h2' : 57 < a := by omega
            have HE : Hid (R = .bad why (K : Int)) := by
              show _ = _
              have ha := Ha.out
              rw [← HR.out, tw_bad HT.out hlt (by rw [HK.out]; omega) (by rw [HK.out, ← ha]; omega), HK.out]
            clear h1 h2
            go_wp2
            go_ret3
            exact ⟨by rw [HE.out]; rfl, HW.out⟩
      · have hsh' : (s.size : Int) ≤ (K : Int) := by omega
        have HE : Hid (R = .bad 10 (s.size : Int)) := by
          show _ = _
          rw [← HR.out, tw_short HT.out hlt (by rw [HK.out]; exact hsh')]
        clear hK
        go_wp2
        go_ret3
        exact ⟨by rw [HE.out]; rfl, HW.out⟩
    · have hlt' : ¬ (j : Int) < 2 := by omega
      obtain rfl : j = 2 := by omega
      have HE : Hid (R = .ok n (k + 2)) := by
        rcases HT.out with ⟨h, _⟩ | ⟨h, _⟩ | ⟨_, h⟩
        · omega
        · omega
        · show _ = _
          rw [← HR.out]; exact h
      go_wp2
      go_ret3
      exact ⟨by rw [HE.out]; rfl, HW.out⟩
theorem digR_bad {s : ByteArray} {k : Nat} {e why y a : Int} (hw : why ≠ 0) (h : digR s k e why = .bad y a) : y ≠ 0 := by
  unfold digR at h
  repeat' split at h
  all_goals first
    | (injection h with h1 h2; omega)
    | cases h
theorem pairR_bad {s : ByteArray} {k : Nat} {e why y a : Int} (hw : why ≠ 0) (h : pairR s k e why = .bad y a) : y ≠ 0 := by
  unfold pairR at h
  cases h1 : digR s k e why with
  | bad y2 a2 =>
    rw [h1] at h
    simp only at h
    injection h with h2 h3
    subst h2
    exact digR_bad hw h1
  | ok t k1 =>
    rw [h1] at h
    simp only at h
    cases h4 : digR s k1 e why with
    | bad y2 a2 =>
      rw [h4] at h
      simp only at h
      injection h with h2 h3
      subst h2
      exact digR_bad hw h4
    | ok u k2 =>
      rw [h4] at h
      simp only at h
      cases h
theorem ext_size {s : ByteArray} {a n : Nat} (h : a + n ≤ s.size) : (s.extract a (a + n)).size = n := by rw [ByteArray.size_extract]; omega
theorem ext_len {s : ByteArray} {a n : Nat} (h : a + n ≤ s.size) : (s.extract a (a + n)).data.toList.length = n := by
  rw [Array.length_toList]
  exact ext_size h
theorem ext_at {s : ByteArray} {a n j : Nat} (h : a + n ≤ s.size) (hj : j < n) : (s.extract a (a + n)).data.toList[j]'(by rw [ext_len h]; exact hj) = s[a + j]'(by omega) := by
  simp only [ByteArray.data_extract, Array.getElem_toList, Array.getElem_extract]
  rfl
theorem take_vis {s : ByteArray} {a n j : Nat} (h : a + n ≤ s.size) (hj : j < n) (ha : ((s.extract a (a + n)).data.toList.take j).all vis = true) (hv : vis (s[a + j]'(by omega)) = true) : ((s.extract a (a + n)).data.toList.take (j + 1)).all vis = true := by
  have hl : j < (s.extract a (a + n)).data.toList.length := by rw [ext_len h]; exact hj
  rw [List.take_succ_eq_append_getElem hl, List.all_append, ha, ext_at h hj]
  simp [hv]
theorem hit_vis {s : ByteArray} {a n j : Nat} (h : a + n ≤ s.size) (hj : j < n) (ha : ((s.extract a (a + n)).data.toList.take j).all vis = true) (hv : vis (s[a + j]'(by omega)) = false) : Go_.seen (s.extract a (a + n)) = j := by
  have hl : j < (s.extract a (a + n)).data.toList.length := by rw [ext_len h]; exact hj
  refine Lib0.fuL_hit vis _ j hl ha ?_
  rw [ext_at h hj]
  exact hv
theorem all_vis {s : ByteArray} {a n : Nat} (h : a + n ≤ s.size) (ha : ((s.extract a (a + n)).data.toList.take n).all vis = true) : Go_.seen (s.extract a (a + n)) = n := by
  have hl := ext_len h
  rw [List.take_of_length_le (by omega)] at ha
  unfold Go_.seen
  rw [Lib0.fuL_all vis _ ha, hl]
theorem grow3 {base e n size : Nat} {x y : World} {v : Value} {xs : List Value} {o : Obj} (hb : base ≤ x.heap.size) (ho : x.ownsRow base e size v n xs) (g : (x.alloc o).grownBy y v.ownBlock) : Below base x y :=
  ((Below.refl base x).alloc hb o).grown g (by simp; omega) fun k hk => (ho.lt k hk).1
set_option maxRecDepth 100000 in
set_option maxHeartbeats 6400000 in
theorem parseSub_doc (s : ByteArray) (w : World) (hs : s.size ≤ 4611686018427387904) : Calls Try.prog 21 #[.string s] w (PostR w (parseS s)) := by
  unfold parseS
  by_cases h9 : s.size ≤ 9999
  case neg =>
    rw [if_neg h9]
    have h9' : 9999 < (s.size : Int) := by omega
    go_enter Try.func21, Try.ntmps21
    go_wp2
    go_ret3
    exact ⟨rfl, Below.refl _ _⟩
  rw [if_pos h9]
  have h9' : ¬ 9999 < (s.size : Int) := by omega
  obtain ⟨R0, HR⟩ : ∃ R0, Hid (subsR s s.size 0 s.size 0 = R0) := ⟨_, rfl⟩
  rw [HR.out]
  obtain ⟨ia, hia, hza0, hza1, hza2⟩ := info_parts infoNN
  have tw := fun k why (w : World) (hk : k ≤ 2097152) => two_doc s k why w (by omega) hk
  go_enter Try.func21, Try.ntmps21
  go_wp2
  go_loopw [5, 6] (fun lv va wr => ∃ (ats : List AT) (k f' : Nat), Nt.Own wr w.heap.size lv ats ∧ va = .int .i64 (k : Int) ∧ k ≤ s.size ∧ ats.length ≤ 500 ∧ Hid (R0 = preR (er ats) (subsR s f' k s.size ats.length)) ∧ s.size - k ≤ f' ∧ Below w.heap.size w wr) (fun _ va _ => s.size - (intOf va).toNat)
  case atStart => exact ⟨[], 0, s.size, own_nil _ _, rfl, Nat.zero_le _, by simp, by show _ = _; rw [← HR.out]; simp only [er]; rw [preR_nil]; rfl, by omega, Below.refl _ _⟩
  case round =>
    obtain ⟨ats, k, f', ho, rfl, hk, hl5, HP, hf, hwr⟩ := hrel
    rename World => wr
    obtain ⟨o, cap, rfl⟩ := ho.form
    obtain ⟨LN, HLN⟩ : ∃ LN, Hid (ats.length = LN) := ⟨_, rfl⟩
    have HO : Hid (Nt.Own wr w.heap.size (.slice o ats.length cap) ats) := ho
    rw [HLN.out] at hl5 HP ⊢
    have HWR : Hid (Below w.heap.size w wr) := hwr
    have hsw := hwr.size
    clear ho hwr HR
    by_cases hlt : k < s.size
    case neg =>
      have hlt' : ¬ (k : Int) < (s.size : Int) := by omega
      have HQ : Hid (R0 = .ok (er ats) k LN) := by show _ = _; rw [HP.out, subsR_done hlt]; simp only [preR, List.append_nil]
      go_wp2
      go_ret3
      rw [HQ.out]
      exact ⟨_, ats, rfl, rfl, by rw [← HLN.out]; exact HO.out, HWR.out⟩
    have hlt' : (k : Int) < (s.size : Int) := by omega
    obtain ⟨q, rfl⟩ : ∃ q, f' = q + 1 := ⟨f' - 1, by omega⟩
    have HQ : Hid (R0 = preR (er ats) (thenR (subR s k s.size LN) (fun k' b' => subsR s q k' s.size b'))) := by show _ = _; rw [HP.out, subsR_step hlt]
    clear HP
    by_cases g5 : LN < 500
    case neg =>
      have g5' : 500 ≤ (LN : Int) := by omega
      have HT : Hid (R0 = .bad 93 (k : Int)) := by show _ = _; rw [HQ.out]; unfold subR; rw [if_neg g5]; rfl
      go_wp2
      go_ret3
      rw [HT.out]
      exact ⟨rfl, HWR.out⟩
    have g5' : ¬ 500 ≤ (LN : Int) := by omega
    go_wp2_with fail
    refine (tw k 90 wr (by omega)).mono ?_
    rintro _ y ⟨rfl, hy⟩
    subst hy
    cases hT : pairR s k s.size 90 with
    | bad yy a =>
      have HT : Hid (R0 = .bad yy a) := by show _ = _; rw [HQ.out]; unfold subR; rw [if_pos g5, hT]; rfl
      have hy' : (yy == 0) = false := by have := pairR_bad (by omega) hT; simpa using this
      simp only [t0, t1, t2]
      clear hT
      go_wp2
      go_ret3
      rw [HT.out]
      exact ⟨rfl, HWR.out⟩
    | ok t k1 =>
      obtain ⟨rfl, a2, a3, a4, -⟩ := pairR_ok hT
      have HT : Hid (pairR s k s.size 90 = .ok t (k + 2)) := hT
      simp only [t0, t1, t2]
      have tw2 := tw (k + 2) 91 y (by omega)
      rw [show ((k + 2 : Nat) : Int) = (k : Int) + 2 by omega] at tw2
      clear hT
      go_wp2_with fail
      refine tw2.mono ?_
      clear tw2
      rintro _ y2 ⟨rfl, hy⟩
      subst hy
      cases hT2 : pairR s (k + 2) s.size 91 with
      | bad yy a =>
        have HT : Hid (R0 = .bad yy a) := by show _ = _; rw [HQ.out]; unfold subR; rw [if_pos g5, HT.out]; simp only; rw [hT2]; rfl
        have hy' : (yy == 0) = false := by have := pairR_bad (by omega) hT2; simpa using this
        simp only [t0, t1, t2]
        clear hT2
        go_wp2
        go_ret3
        rw [HT.out]
        exact ⟨rfl, HWR.out⟩
      | ok n k2 =>
        obtain ⟨rfl, b2, b3, b4, -⟩ := pairR_ok hT2
        obtain ⟨N, rfl⟩ : ∃ N : Nat, n = (N : Int) := ⟨n.toNat, by omega⟩
        simp only [t0, t1, t2]
        obtain ⟨K4, HK4⟩ : ∃ K4, Hid (k + 2 + 2 = K4) := ⟨_, rfl⟩
        have HC : Hid (R0 = preR (er ats) (thenR (if (N : Int) ≤ (s.size : Int) - (K4 : Int) then
          if Go_.seen (s.extract K4 (K4 + N)) = N then .ok (.mk t (s.extract K4 (K4 + N)) []) (K4 + N) (LN + 1) else .bad 11 ((K4 : Int) + (Go_.seen (s.extract K4 (K4 + N)) : Int))
          else .bad 10 (s.size : Int)) (fun k' b' => subsR s q k' s.size b'))) := by
          show _ = _; rw [HQ.out]; unfold subR; rw [if_pos g5, HT.out]; simp only; rw [hT2, HK4.out]; simp only [Int.toNat_natCast]
        have hK := HK4.out
        have eK : (k : Int) + 4 = (K4 : Int) := by omega
        clear hT2 HQ HT
        by_cases hn : K4 + N ≤ s.size
        case neg =>
          have hn' : (s.size : Int) < (K4 : Int) + (N : Int) := by omega
          have HD : Hid (R0 = .bad 10 (s.size : Int)) := by show _ = _; rw [HC.out, if_neg (by omega)]; rfl
          clear hK
          go_wp2
          go_ret3
          rw [HD.out]
          exact ⟨rfl, HWR.out⟩
        have hn' : ¬ (s.size : Int) < (K4 : Int) + (N : Int) := by omega
        have HD : Hid (R0 = preR (er ats) (thenR (if Go_.seen (s.extract K4 (K4 + N)) = N then .ok (.mk t (s.extract K4 (K4 + N)) []) (K4 + N) (LN + 1) else .bad 11 ((K4 : Int) + (Go_.seen (s.extract K4 (K4 + N)) : Int))) (fun k' b' => subsR s q k' s.size b'))) := by show _ = _; rw [HC.out, if_pos (by omega)]
        have hk4 : k + 4 = K4 := by omega
        clear hK HC
        go_wp2
        have HWR2 : Hid (Below w.heap.size w y2) := HWR.out
        go_loopw [13] (fun vk wx => ∃ (j : Nat), j ≤ N ∧ vk = .int .i64 (((K4 + j : Nat)) : Int) ∧ Hid (wx = y2 ∧ ((s.extract K4 (K4 + N)).data.toList.take j).all Go_.vis = true)) (fun vk _ => K4 + N + 1 - (intOf vk).toNat)
        case atStart => exact ⟨0, Nat.zero_le _, by go_num, rfl, by simp⟩
        case round =>
          obtain ⟨j, hj, rfl, HJ⟩ := hrel
          rename World => wx
          obtain ⟨rfl, -⟩ := HJ.out
          obtain ⟨KJ, HKJ⟩ : ∃ KJ, Hid (K4 + j = KJ) := ⟨_, rfl⟩
          have hKJ := HKJ.out
          rw [hKJ]
          have HV : Hid (((s.extract K4 (K4 + N)).data.toList.take j).all Go_.vis = true) := HJ.out.2
          clear HJ
          by_cases hjn : j < N
          · have q1 : (KJ : Int) < (K4 : Int) + (N : Int) := by omega
            have ix : KJ < s.size := by omega
            have ix' : (KJ : Int) < (s.size : Int) := by omega
            obtain ⟨C, HC⟩ : ∃ C : Int, Hid (C = ((s[KJ]'ix).toNat : Int)) := ⟨_, rfl⟩
            have bx : ((s[KJ]'ix).toNat : Int) = C := HC.out.symm
            have HSJ : Hid (s[K4 + j]'(by omega) = s[KJ]'ix) := by show _ = _; simp only [hKJ]
            by_cases h1 : C < 32
            · have HE : Hid (R0 = .bad 11 (KJ : Int)) := by
                have hc := HC.out
                have e := hit_vis hn hjn HV.out (by rw [HSJ.out]; unfold Go_.vis; simp; omega)
                show _ = _
                rw [HD.out, e, if_neg (by omega)]
                simp only [thenR, preR]
                rw [show (K4 : Int) + (j : Int) = (KJ : Int) by omega]
              clear HSJ hKJ
              go_wp2
              go_ret3
              rw [HE.out]
              exact ⟨rfl, HWR2.out⟩
            · by_cases h2 : C ≤ 126
              · have h1' : ¬ C < 32 := h1
                have h2' : ¬ 126 < C := by omega
                have HV2 : Hid (((s.extract K4 (K4 + N)).data.toList.take (j + 1)).all Go_.vis = true) := by
                  have hc := HC.out
                  exact take_vis hn hjn HV.out (by rw [HSJ.out]; unfold Go_.vis; simp; omega)
                clear HSJ h1 h2 hKJ
                go_wp2
                have hk2 := HKJ.out
                exact ⟨⟨j + 1, by omega, by rw [show K4 + (j + 1) = KJ + 1 by omega]; go_num, by first | rfl | trivial, HV2.out⟩, by simp [intOf]; omega⟩
              · have h1' : ¬ C < 32 := h1
                have h2' : 126 < C := by omega
                have HE : Hid (R0 = .bad 11 (KJ : Int)) := by
                  have hc := HC.out
                  have e := hit_vis hn hjn HV.out (by rw [HSJ.out]; unfold Go_.vis; simp; omega)
                  show _ = _
                  rw [HD.out, e, if_neg (by omega)]
                  simp only [thenR, preR]
                  rw [show (K4 : Int) + (j : Int) = (KJ : Int) by omega]
                clear HSJ h1 h2 hKJ
                go_wp2
                go_ret3
                rw [HE.out]
                exact ⟨rfl, HWR2.out⟩
          · have q1 : ¬ (KJ : Int) < (K4 : Int) + (N : Int) := by omega
            obtain rfl : j = N := by omega
            have hV := all_vis hn HV.out
            have HE : Hid (R0 = preR (er ats) (thenR (.ok (.mk t (s.extract K4 (K4 + j)) []) (K4 + j) (LN + 1)) (fun k' b' => subsR s q k' s.size b'))) := by show _ = _; rw [HD.out, if_pos hV]
            have kn1 : (K4 : Int) ≤ (K4 : Int) + (j : Int) := by omega
            have kn2 : (K4 : Int) + (j : Int) ≤ (s.size : Int) := by omega
            have own1 := HO.out.row
            rw [HLN.out] at own1
            have OWN1 : Hid (World.ownsRow wx w.heap.size 40 3 (.slice o LN cap) LN (cs ats)) := own1
            have hLN : LN ≤ 500 := by omega
            clear own1 hV hKJ
            go_wp2_with (at_builtin; refine Bq.halt ?_)
            intro _
            refine wpList_append_lies _ rfl _ _ _ rfl w.heap.size 40 ia _ 3 48 Try.underlying23 hia hza0 hza1 hza2 rfl (by omega) _ LN _ rfl (OWN1.out.alloc _) ⟨wx.heap.size, 0, Option.none⟩ 1 1 _ rfl (by rfl) (World.news_of_block (heap_alloc_new wx _)) (by simp [Value.oneCell']) (by omega) (by unfold maxLen; omega) (by omega) (by simp; omega) (wx.heap.size + 1) (by simp) ?_
            intro g1 c1 w1 own1 gr1 hat1 hlt1
            go_wp2_with fail
            have gr2 : (wx.alloc (.cells #[.int .i64 t, .string (s.extract K4 (K4 + j)), .slice none 0 0] 40)).grownBy w1 (Value.slice o ats.length cap).ownBlock := by
              rw [HLN.out]
              exact gr1
            have gr3 : (wx.alloc (.cells #[.int .i64 t, .string (s.extract K4 (K4 + j)), .slice none 0 0] 40)).grownBy w1 (Value.slice o LN cap).ownBlock := gr1
            have hat2 : (Value.slice o ats.length cap).ownBlock = some g1 ∨ g1 = wx.heap.size + 1 := by
              rw [HLN.out]
              exact hat1
            have B1 := grow3 hsw OWN1.out gr3
            have hp := own_push (t := t) HO.out (own_nil wx wx.heap.size) (fun q hq => (HO.out.lt q hq).2) hsw (by rw [ext_size hn]; omega) ⟨by omega, by omega⟩ (by have := HLN.out; omega) gr2 (by rw [HLN.out]; exact own1) hat2
            have e1 : (ats ++ [AT.mk t (s.extract K4 (K4 + j)) (.slice none 0 0) []]).length = LN + 1 := by rw [List.length_append, HLN.out]; rfl
            rw [e1] at hp
            have hk2 := HKJ.out
            refine ⟨⟨_, K4 + j, q, hp, by go_num, by omega, by rw [e1]; omega, ?_, by omega, HWR2.out.trans B1⟩, by simp [intOf]; omega⟩
            show _ = _
            rw [HE.out, er_append, e1]
            simp only [thenR, er]
            rw [preR_and]
end Go.Proofs.Ytgidjfhlooggkaa.Rt
