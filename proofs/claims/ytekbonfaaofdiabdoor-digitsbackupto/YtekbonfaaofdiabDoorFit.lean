/- fitted: an encoding, and characters of it. -/
import Derived.Test.YtekbonfaaofdiabDoorBck
import Derived.BigQuiet
import Derived.Deep.QuietTactic
namespace Go.Proofs.YtekbonfaaofdiabDoor.Fit
open Go.RowKit Lib0 Chars Ebc Join Frm Spl Pck Rdd Unp Bck
def elevenths : ByteArray := ByteArray.mk #[48, 49, 50, 51, 52, 53, 54, 55, 56, 57, 61]
def one (enc : Int) (b : UInt8) : UInt8 := if enc = 5 then b else if enc = 2 ∨ enc = 3 then [48, 49, 50, 51, 52, 53, 54, 55, 56, 57, 61].getD (b.toNat % 11) 0 else (32 + b.toNat % 95).toUInt8
theorem el_get (n : Nat) (h : n < 11) : (⟨#[48, 49, 50, 51, 52, 53, 54, 55, 56, 57, 61]⟩ : ByteArray)[n]'h = [48, 49, 50, 51, 52, 53, 54, 55, 56, 57, 61].getD n 0 := by
  have : ∀ m : Fin 11, (⟨#[48, 49, 50, 51, 52, 53, 54, 55, 56, 57, 61]⟩ : ByteArray)[m.val]'m.isLt = [48, 49, 50, 51, 52, 53, 54, 55, 56, 57, 61].getD m.val 0 := by decide
  exact this ⟨n, h⟩
theorem el_half : ∀ m : Fin 11, hlf ([48, 49, 50, 51, 52, 53, 54, 55, 56, 57, 61].getD m.val 0) = true := by decide
theorem one_fit (enc : Int) (b : UInt8) (h : 1 ≤ enc ∧ enc ≤ 5) : fit enc (one enc b) = true := by
  have h5 : enc = 1 ∨ enc = 2 ∨ enc = 3 ∨ enc = 4 ∨ enc = 5 := by omega
  have hs : sgn (32 + b.toNat % 95).toUInt8 = true := by
    unfold sgn
    simp only [UInt8.toNat_ofNat', Nat.toUInt8, decide_eq_true_eq]
    omega
  rcases h5 with rfl | rfl | rfl | rfl | rfl
  · rw [fit1]; simpa [one] using hs
  · rw [fit2]; simpa [one] using el_half ⟨b.toNat % 11, by omega⟩
  · rw [fit3]; simpa [one] using el_half ⟨b.toNat % 11, by omega⟩
  · rw [fit4]; simpa [one] using hs
  · rw [fit5]; rfl
theorem all_fit (enc : Int) (l : List UInt8) (h : 1 ≤ enc ∧ enc ≤ 5) : (l.map (one enc)).all (fit enc) = true := by
  rw [List.all_eq_true]
  intro c hc
  obtain ⟨b, _, rfl⟩ := List.mem_map.1 hc
  exact one_fit enc b h
theorem one5 (l : List UInt8) : l.map (one 5) = l := by
  have e : one 5 = id := by funext b; simp [one]
  rw [e, List.map_id]
theorem ret_is {a b : ByteArray} {x : Value} (h : a = b) : Ending.returned (.tuple #[x, .string a]) = .returned (.tuple #[x, .string b]) := by rw [h]
def encOf (raw : Int) : Int := 1 + Pick.pickOf raw 5
theorem enc_bd (raw : Int) : 1 ≤ encOf raw ∧ encOf raw ≤ 5 := by
  have := Pick.pick_lo raw 5 (by omega)
  have := Pick.pick_hi raw 5 (by omega)
  unfold encOf; omega
set_option maxRecDepth 100000 in
set_option maxHeartbeats 1600000 in
theorem fitted_any (raw : Int) (s : ByteArray) (w : World) (hs : s.size ≤ 4194304) (r0 : -9223372036854775808 ≤ raw) (r1 : raw ≤ 9223372036854775807) :
    Calls Tryd.prog 7 #[.int .i64 raw, .string s] w fun e w' => e = .returned (.tuple #[.int .i64 (encOf raw), .string ⟨(s.data.toList.map (one (encOf raw))).toArray⟩]) ∧ Below w.heap.size w w' := by
  obtain ⟨i0, hi, hz0, hz1, hz2⟩ := info_parts info
  have he := enc_bd raw
  have h0 : encOf raw = 1 + Pick.pickOf raw 5 := rfl
  generalize hee : encOf raw = enc at *
  clear hee
  obtain ⟨p, Hp, hp⟩ : ∃ p, Hid (Pick.pickOf raw 5 = p) ∧ enc = 1 + p := ⟨_, rfl, h0⟩
  clear h0
  have HN : Hid (enc = 1 + p) := hp
  have hpb : 0 ≤ p ∧ p ≤ 4 := by omega
  by_cases h5 : enc = 5
  · have HE5 : Hid (enc = 5) := h5
    have hp4 : ((1 + p) == 5) = true := by simp; omega
    clear h5 hp
    rw [HE5.out, one5]
    have H5 : Hid (1 + p = 5) := by show _ = _; rw [← HN.out, HE5.out]
    go_enter Tryd.func7, Tryd.ntmps7
    go_wp2_with fail
    refine (Pick.pick_any raw 5 _ r0 r1 (by omega) (by omega)).mono ?_
    rintro e w' ⟨rfl, rfl⟩
    rw [Hp.out]
    go_wp2
    go_ret2
    exact ⟨by rw [← H5.out]; rfl, Below.refl _ _⟩
  · have hp4 : ((1 + p) == 5) = false := by simp; omega
    have hH5 : Hid (¬ enc = 5) := h5
    clear h5 hp
    go_enter Tryd.func7, Tryd.ntmps7
    go_wp2_with fail
    refine (Pick.pick_any raw 5 _ r0 r1 (by omega) (by omega)).mono ?_
    rintro e w' ⟨rfl, rfl⟩
    rw [Hp.out]
    go_wp2
    go_loopw [7, 8] (fun v i wr => ∃ k : Nat, k ≤ s.size ∧ i = .int .i64 k ∧ wr.ownsRow w'.heap.size 5 1 v k (bs ((s.data.toList.take k).map (one enc))) ∧ Below w'.heap.size w' wr) (fun _ i _ => s.size - (intOf i).toNat)
    case atStart => exact ⟨0, Nat.zero_le _, rfl, World.ownsRow_nil _ _ _ _, Below.refl _ _⟩
    case round =>
      obtain ⟨k, hk, rfl, hown, hb⟩ := hrel
      have hbs := hb.size
      by_cases hlt : k < s.size
      · have h3 : (s[k].toNat : Int) < 256 := toNat_lt _
        have d1 : (0 : Int) ≤ (s[k].toNat : Int) % 95 := by omega
        have d2 : (s[k].toNat : Int) % 95 < 95 := by omega
        have d3 : (0 : Int) ≤ (s[k].toNat : Int) % 11 := by omega
        have d4 : (s[k].toNat : Int) % 11 < 11 := by omega
        by_cases h2 : enc = 2 ∨ enc = 3
        · have HO : Hid ((one enc s[k]) = [48, 49, 50, 51, 52, 53, 54, 55, 56, 57, 61].getD (s[k].toNat % 11) 0) := by show _ = _; unfold one; rw [if_neg hH5.out, if_pos h2]
          have h2' : 1 + p = 2 ∨ 1 + p = 3 := by rw [← HN.out]; exact h2
          clear h2
          by_cases g2 : 1 + p = 2
          · have q2 : ((1 + p) == 2) = true := by simpa using g2
            clear g2 h2'
            go_wp2_with (at_builtin; refine wpList_append_lies _ rfl _ _ _ rfl w'.heap.size 5 i0 _ 1 1 Tryd.underlying34 hi hz0 hz1 hz2 rfl (by omega) u7 k _ rfl (hown.alloc _) ⟨wr.heap.size, 0, none⟩ 1 1 _ rfl (by rfl) (World.news_of_block (heap_alloc_new wr _)) (by simp [Value.oneCell']) (by omega) (by unfold maxLen; omega) (by omega) (by simp; omega) (wr.heap.size + 1) (by simp) ?_)
            intro g cap w1 hown1 hgrow hat hltg
            go_wp2
            go_roundw
            case rel => exact ⟨k + 1, by omega, by go_num, owns_len hown1 rfl rfl (by rw [take_snoc s k hlt, List.map_append, bs_append]; simp [bs, HO.out, el_get]), below_app0 hb hbs hown hgrow⟩
            case measure => simp [intOf]; omega
          · have q2 : ((1 + p) == 2) = false := by simpa using g2
            have q3 : ((1 + p) == 3) = true := by simp; omega
            clear g2 h2'
            go_wp2_with (at_builtin; refine wpList_append_lies _ rfl _ _ _ rfl w'.heap.size 5 i0 _ 1 1 Tryd.underlying34 hi hz0 hz1 hz2 rfl (by omega) u7 k _ rfl (hown.alloc _) ⟨wr.heap.size, 0, none⟩ 1 1 _ rfl (by rfl) (World.news_of_block (heap_alloc_new wr _)) (by simp [Value.oneCell']) (by omega) (by unfold maxLen; omega) (by omega) (by simp; omega) (wr.heap.size + 1) (by simp) ?_)
            intro g cap w1 hown1 hgrow hat hltg
            go_wp2
            go_roundw
            case rel => exact ⟨k + 1, by omega, by go_num, owns_len hown1 rfl rfl (by rw [take_snoc s k hlt, List.map_append, bs_append]; simp [bs, HO.out, el_get]), below_app0 hb hbs hown hgrow⟩
            case measure => simp [intOf]; omega
        · have HO : Hid (((one enc s[k]).toNat : Int) = 32 + (s[k].toNat : Int) % 95) := by
            show _ = _; unfold one; rw [if_neg hH5.out, if_neg h2]
            simp only [UInt8.toNat_ofNat', Nat.toUInt8]; omega
          have h2' : ¬ (1 + p = 2 ∨ 1 + p = 3) := by rw [← HN.out]; exact h2
          have q2 : ((1 + p) == 2) = false := by simp; omega
          have q3 : ((1 + p) == 3) = false := by simp; omega
          clear h2 h2'
          go_wp2_with (at_builtin; refine wpList_append_lies _ rfl _ _ _ rfl w'.heap.size 5 i0 _ 1 1 Tryd.underlying34 hi hz0 hz1 hz2 rfl (by omega) u7 k _ rfl (hown.alloc _) ⟨wr.heap.size, 0, none⟩ 1 1 _ rfl (by rfl) (World.news_of_block (heap_alloc_new wr _)) (by simp [Value.oneCell']) (by omega) (by unfold maxLen; omega) (by omega) (by simp; omega) (wr.heap.size + 1) (by simp) ?_)
          intro g cap w1 hown1 hgrow hat hltg
          go_wp2
          go_roundw
          case rel => exact ⟨k + 1, by omega, by go_num, owns_len hown1 rfl rfl (by rw [take_snoc s k hlt, List.map_append, bs_append]; simp [bs, HO.out]), below_app0 hb hbs hown hgrow⟩
          case measure => simp [intOf]; omega
      · have hcv := run_str (P := Tryd.prog) (src := 34) (dst := 9) Tryd.underlying34 Tryd.underlying5 Tryd.underlying9 hown.drew
        have HX : Hid ((s.data.toList.take k).map (one enc) = s.data.toList.map (one enc)) := by show _ = _; rw [take_all s k (by omega)]
        rw [HX.out] at hcv
        go_wp2
        go_region
        all_goals
          go_wp2
          go_ret2
          exact ⟨by rw [HN.out]; rfl, hb.drew⟩
end Go.Proofs.YtekbonfaaofdiabDoor.Fit
