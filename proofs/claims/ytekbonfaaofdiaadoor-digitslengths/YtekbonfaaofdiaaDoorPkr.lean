/- The document's Pack. -/
import Derived.Test.YtekbonfaaofdiaaDoorHlv
namespace Go.Proofs.YtekbonfaaofdiaaDoor.Pkr
open Go.RowKit Lib0 Chars Ebc Join Pck Cod Hlv
theorem known_yes (enc : Int) (w : World) (h : 1 ≤ enc ∧ enc ≤ 5) : Calls Tryd.prog 25 #[.int .i64 enc] w fun e w' => e = .returned (.bool true) ∧ w' = w := by
  have h1 := h.1
  have h2 := h.2
  clear h
  go_enter Tryd.func25, Tryd.ntmps25
  go_wp2
  go_ret
  exact ⟨rfl, rfl⟩
theorem known_no (enc : Int) (w : World) (h : enc < 1 ∨ 5 < enc) : Calls Tryd.prog 25 #[.int .i64 enc] w fun e w' => e = .returned (.bool false) ∧ w' = w := by
  by_cases h1 : 1 ≤ enc
  · have h2 : ¬ enc ≤ 5 := by omega
    clear h
    go_enter Tryd.func25, Tryd.ntmps25
    go_wp2
    go_ret
    exact ⟨by first | rfl | simp, rfl⟩
  · clear h
    go_enter Tryd.func25, Tryd.ntmps25
    go_wp2
    go_ret
    exact ⟨rfl, rfl⟩
theorem packed_yes (enc : Int) (w : World) (h : enc = 2 ∨ enc = 3) : Calls Tryd.prog 26 #[.int .i64 enc] w fun e w' => e = .returned (.bool true) ∧ w' = w := by
  rcases h with rfl | rfl
  all_goals
    go_enter Tryd.func26, Tryd.ntmps26
    go_wp2
    go_ret
    exact ⟨rfl, rfl⟩
theorem packed_no (enc : Int) (w : World) (h : enc = 1 ∨ enc = 4 ∨ enc = 5) : Calls Tryd.prog 26 #[.int .i64 enc] w fun e w' => e = .returned (.bool false) ∧ w' = w := by
  rcases h with rfl | rfl | rfl
  all_goals
    go_enter Tryd.func26, Tryd.ntmps26
    go_wp2
    go_ret
    exact ⟨rfl, rfl⟩
theorem halves_any (enc : Int) (s : ByteArray) (w : World) (hs : s.size ≤ 4194300) (h : enc = 2 ∨ enc = 3) : Calls Tryd.prog 27 #[.int .i64 enc, .string s] w (Hlv.Post enc s w) := by
  rcases h with rfl | rfl
  · by_cases ho : s.size % 2 = 1
    · exact hlv2odd s w hs ho
    · exact hlv2even s w hs ho
  · by_cases ho : s.size % 2 = 1
    · exact hlv3odd s w hs ho
    · exact hlv3even s w hs ho
theorem packL_map (enc : Int) (l : List UInt8) (h : enc = 1 ∨ enc = 4 ∨ enc = 5) (ha : l.all (fit enc) = true) : packL enc l = l.map (codeB enc) := by
  rcases h with rfl | rfl | rfl
  · have e : codeB 1 = id := by funext c; simp [codeB]
    rw [e, List.map_id]; simp [packL]
  · simp only [packL, if_true]
    refine List.map_congr_left fun c hc => ?_
    have := List.all_eq_true.1 ha c hc
    rw [fit4] at this
    simp [codeB, this]
  · have e : codeB 5 = id := by funext c; simp [codeB]
    rw [e, List.map_id]; simp [packL]
set_option maxRecDepth 100000 in
set_option maxHeartbeats 1600000 in
theorem packr_one (enc : Int) (s : ByteArray) (w : World) (hs : s.size ≤ 4194300) (h : enc = 1 ∨ enc = 4 ∨ enc = 5) : Calls Tryd.prog 9 #[.int .i64 enc, .string s] w (Pck.Post enc s w) := by
  show Calls _ _ _ _ fun e w' => e = _ ∧ _
  obtain ⟨i0, hi, hz0, hz1, hz2⟩ := info_parts info
  have HL : Hid (s.data.toList.length = s.size) := len_eq s
  have HN : Hid (enc = 1 ∨ enc = 4 ∨ enc = 5) := h
  have hk : 1 ≤ enc ∧ enc ≤ 5 := by omega
  clear h
  go_enter Tryd.func9, Tryd.ntmps9
  go_wp2_with fail
  refine (known_yes enc _ hk).mono ?_
  rintro e w' ⟨rfl, rfl⟩
  go_wp2_with fail
  refine (packed_no enc _ HN.out).mono ?_
  rintro e w' ⟨rfl, rfl⟩
  go_wp2
  go_loopw [8, 9] (fun v i wr => ∃ k : Nat, k ≤ s.size ∧ i = .int .i64 k ∧ (s.data.toList.take k).all (fit enc) = true ∧ wr.ownsRow w'.heap.size 5 1 v k (bs ((s.data.toList.take k).map (codeB enc))) ∧ Below w'.heap.size w' wr) (fun _ i _ => s.size - (intOf i).toNat)
  case atStart => exact ⟨0, Nat.zero_le _, rfl, rfl, World.ownsRow_nil _ _ _ _, Below.refl _ _⟩
  case round =>
    obtain ⟨k, hkk, rfl, hal, hown, hb⟩ := hrel
    have Hal : Hid ((s.data.toList.take k).all (fit enc) = true) := hal
    clear hal
    have hbs := hb.size
    by_cases hlt : k < s.size
    · go_wp2_with fail
      refine (code_any enc s[k] _ HN.out).mono ?_
      rintro e x ⟨rfl, nq, hw⟩
      have hown2 : x.ownsRow w'.heap.size 5 1 u8 k (bs ((s.data.toList.take k).map (codeB enc))) := hw ▸ own_draws hown nq
      have hb2 : Below w'.heap.size w' x := hw ▸ below_drewN hb nq
      have hbs2 := hb2.size
      clear hw hown hb hbs
      cases hp : fit enc s[k]
      · have HE : Hid (packR enc s.data.toList = ([], 11)) := by
          have h1 := fuL_hit (fit enc) s.data.toList k (by rw [HL.out]; exact hlt) Hal.out hp
          exact p_char enc _ hk (by rw [h1, HL.out]; exact hlt)
        clear hp
        go_wp2
        go_ret2
        exact ⟨by rw [HE.out]; rfl, hb2⟩
      · have Hp : Hid (fit enc s[k] = true) := hp
        clear hp
        go_wp2_with (at_builtin; refine wpList_append_lies _ rfl _ _ _ rfl w'.heap.size 5 i0 _ 1 1 Tryd.underlying44 hi hz0 hz1 hz2 rfl (by omega) u8 k _ rfl (hown2.alloc _) ⟨x.heap.size, 0, none⟩ 1 1 _ rfl (by rfl) (World.news_of_block (heap_alloc_new x _)) (by simp [Value.oneCell']) (by omega) (by unfold maxLen; omega) (by omega) (by simp; omega) (x.heap.size + 1) (by simp) ?_)
        intro g cap w1 hown1 hgrow hat hltg
        go_wp2
        go_roundw
        case rel => exact ⟨k + 1, by omega, by go_num, all_snoc (fit enc) s k hlt Hal.out Hp.out, owns_len hown1 rfl rfl (by rw [take_snoc s k hlt]; simp [bs]), below_app0 hb2 hbs2 hown2 hgrow⟩
        case measure => simp [intOf]; omega
    · have HA : Hid (s.data.toList.all (fit enc) = true) := by have := Hal.out; rwa [take_all s k (by omega)] at this
      have HE : Hid (packR enc s.data.toList = (s.data.toList.map (codeB enc), 0)) := by
        show _ = _
        rw [← packL_map enc _ HN.out HA.out]
        exact p_yes enc _ hk (by have := fuL_all (fit enc) _ HA.out; omega)
      have hcv := run_str (P := Tryd.prog) (src := 44) (dst := 9) Tryd.underlying44 Tryd.underlying5 Tryd.underlying9 hown
      go_wp2
      go_ret2
      exact ⟨by rw [HE.out]; exact ret_ss (by rw [List.take_of_length_le (by rw [List.length_map, HL.out]; omega)]) rfl, hb⟩
theorem packr_two (enc : Int) (s : ByteArray) (w : World) (hs : s.size ≤ 4194300) (h : enc = 2 ∨ enc = 3) : Calls Tryd.prog 9 #[.int .i64 enc, .string s] w (Pck.Post enc s w) := by
  show Calls _ _ _ _ fun e w' => e = _ ∧ _
  have HN : Hid (enc = 2 ∨ enc = 3) := h
  have hk : 1 ≤ enc ∧ enc ≤ 5 := by omega
  clear h
  go_enter Tryd.func9, Tryd.ntmps9
  go_wp2_with fail
  refine (known_yes enc _ hk).mono ?_
  rintro e w' ⟨rfl, rfl⟩
  go_wp2_with fail
  refine (packed_yes enc _ HN.out).mono ?_
  rintro e w' ⟨rfl, rfl⟩
  go_wp2_with fail
  refine (halves_any enc s _ hs HN.out).mono ?_
  rintro e x ⟨rfl, hb⟩
  go_wp2
  go_ret2
  exact ⟨rfl, hb⟩
theorem packr_none (enc : Int) (s : ByteArray) (w : World) (h : enc < 1 ∨ 5 < enc) : Calls Tryd.prog 9 #[.int .i64 enc, .string s] w (Pck.Post enc s w) := by
  show Calls _ _ _ _ fun e w' => e = _ ∧ _
  rw [p_arg enc _ h]
  go_enter Tryd.func9, Tryd.ntmps9
  go_wp2_with fail
  refine (known_no enc _ h).mono ?_
  rintro e w' ⟨rfl, rfl⟩
  go_wp2
  go_ret2
  exact ⟨rfl, Below.refl _ _⟩
theorem packr_any (enc : Int) (s : ByteArray) (w : World) (hs : s.size ≤ 4194300) : Calls Tryd.prog 9 #[.int .i64 enc, .string s] w (Pck.Post enc s w) := by
  by_cases h : 1 ≤ enc ∧ enc ≤ 5
  · by_cases h2 : enc = 2 ∨ enc = 3
    · exact packr_two enc s w hs h2
    · exact packr_one enc s w hs (by omega)
  · exact packr_none enc s w (by omega)
end Go.Proofs.YtekbonfaaofdiaaDoor.Pkr
