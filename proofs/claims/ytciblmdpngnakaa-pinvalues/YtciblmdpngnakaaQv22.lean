import Derived.Test.YtciblmdpngnakaaQv21
/- The document's bits of bytes, and back. -/
namespace Go.Proofs.Ytciblmdpngnakaa.Rs
set_option linter.unusedVariables false
open Go.RowKit Pla Cb Sm Rb Wd
open Lib0 (owns_len own_ge below_app below_app0 bs bs_append bs_length run_str)
theorem bit_at (x q : Nat) : ((x : Int) / 2 ^ q) % 2 = (((x.testBit q).toNat : Nat) : Int) := by
  have e : ((x : Int) / 2 ^ q) % 2 = ((x / 2 ^ q % 2 : Nat) : Int) := by simp
  rw [e, Nat.testBit_eq_decide_div_mod_eq]
  have := Nat.mod_lt (x / 2 ^ q) (show 2 > 0 by decide)
  by_cases c : x / 2 ^ q % 2 = 1
  · rw [c]; rfl
  · rw [show x / 2 ^ q % 2 = 0 by omega]; rfl
theorem bits_step (A : List Bool) (x m q : Nat) (h : q + m = 7) : nv (nb (A ++ (bitsN 8 x).take (m + 1))) = nv (nb (A ++ (bitsN 8 x).take m)) ++ [.int .i64 (((x.testBit q).toNat : Nat) : Int)] := by
  have hl : m < (bitsN 8 x).length := by rw [bitsN_len]; omega
  rw [List.take_succ_eq_append_getElem hl, ← List.append_assoc]
  have e : (bitsN 8 x)[m] = x.testBit q := by simp [bitsN, show 7 - m = q by omega]
  rw [e]
  simp [nv, nb]
set_option maxRecDepth 100000 in
set_option maxHeartbeats 3200000 in
theorem bits_ref (s : ByteArray) (h0 : 0 < s.size) (h1 : s.size ≤ 100) (w : World) :
    Calls Try.prog 99 #[.string s] w (New w (nb (bitsS s.data.toList)) (8 * s.size)) := by
  obtain ⟨i0, hi, hz0, hz1, hz2⟩ := info_parts infoI
  have n1 : (s.size : Int) ≤ 100 := by omega
  go_enter Try.func99, Try.ntmps99
  go_wp2
  go_loopw [3, 4] (fun v c wr => ∃ k : Nat, k ≤ s.size ∧ c = .int .i64 (k : Int) ∧ wr.ownsRow w.heap.size 3 1 v (8 * k) (nv (nb (bitsS (s.data.toList.take k)))) ∧ Below w.heap.size w wr) (fun _ c _ => s.size + 1 - (intOf c).toNat)
  case atStart => exact ⟨0, Nat.zero_le _, rfl, World.ownsRow_nil _ _ _ _, Below.refl _ _⟩
  case round =>
    obtain ⟨i, hk, rfl, hown, hbw⟩ := hrel
    rename World => w9
    by_cases hlt : i < s.size
    · have q0 : (0 : Int) ≤ (i : Int) := by omega
      have q1 : (i : Int) < (s.size : Int) := by omega
      have HE : Hid (bitsS (s.data.toList.take (i + 1)) = bitsS (s.data.toList.take i) ++ bitsN 8 s[i].toNat) := (by rw [take_snoc s i hlt]; simp [bitsS] : bitsS (s.data.toList.take (i + 1)) = bitsS (s.data.toList.take i) ++ bitsN 8 s[i].toNat)
      have x1 : (s[i].toNat : Int) < 256 := toNat_lt _
      have x0 : (0 : Int) ≤ (s[i].toNat : Int) := by omega
      generalize bitsS (s.data.toList.take i) = A at *
      have c8 : (bitsN 8 s[i].toNat).length = 8 := bitsN_len _ _
      go_wp2
      go_loopw [3, 5] (fun v c wr => ∃ m q : Nat, ((m < 8 ∧ Hid (q + m = 7) ∧ c = .int .i64 (q : Int)) ∨ (m = 8 ∧ c = .int .i64 (-1))) ∧ wr.ownsRow w.heap.size 3 1 v (8 * i + m) (nv (nb (A ++ (bitsN 8 s[i].toNat).take m))) ∧ Below w.heap.size w wr) (fun _ c _ => (intOf c + 1).toNat)
      case atStart => exact ⟨0, 7, .inl ⟨by omega, rfl, rfl⟩, by simpa using hown, hbw⟩
      case round =>
        obtain ⟨m, q, hc, hown2, hbw2⟩ := hrel
        have hbs2 := hbw2.size
        rcases hc with ⟨hm, hq, rfl⟩ | ⟨rfl, rfl⟩
        · have mq := hq.out
          have r0 : (0 : Int) ≤ (q : Int) := by omega
          have r1 : (q : Int) ≤ 7 := by omega
          have u1 := bit_at s[i].toNat q
          have HN : Hid (nv (nb (A ++ (bitsN 8 s[i].toNat).take (m + 1))) = nv (nb (A ++ (bitsN 8 s[i].toNat).take m)) ++ [.int .i64 (((s[i].toNat.testBit q).toNat : Nat) : Int)]) := bits_step A s[i].toNat m q mq
          have u2 : ((s[i].toNat : Int) / 2 ^ q).tmod 2 = (((s[i].toNat.testBit q).toNat : Nat) : Int) := by rw [Int.tmod_eq_emod_of_nonneg (Int.ediv_nonneg x0 (Int.pow_nonneg (by decide))), u1]
          generalize (s[i].toNat.testBit q).toNat = z at *
          clear mq hown hbw HE
          go_wp2_with (at_builtin; refine wpList_append_lies _ rfl _ _ _ rfl w.heap.size 3 i0 _ 1 8 Try.underlying58 hi hz0 hz1 hz2 rfl (by omega) _ (8 * i + m) _ rfl (hown2.alloc _) ⟨wr.heap.size, 0, none⟩ 1 1 _ rfl (by rfl) (World.news_of_block (heap_alloc_new wr _)) (by simp [Value.oneCell']) (by omega) (by unfold maxLen; omega) (by omega) (by first | omega | (simp <;> omega)) (wr.heap.size + 1) (by simp) ?_; intro gg cap w1 hown1 hgrow hat hlt1)
          have own1 := owns_len (n' := 8 * i + (m + 1)) hown1 rfl (by omega) HN.out.symm
          have mq := hq.out
          refine ⟨?_, by simp only [intOf]; omega⟩
          by_cases h8 : m + 1 < 8
          · exact ⟨m + 1, q - 1, .inl ⟨h8, (by omega : q - 1 + (m + 1) = 7), by congr 1; omega⟩, own1, below_app0 hbw2 (by omega) hown2 hgrow⟩
          · exact ⟨m + 1, 0, .inr ⟨by omega, by congr 1; omega⟩, own1, below_app0 hbw2 (by omega) hown2 hgrow⟩
        · rw [List.take_of_length_le (by omega), ← HE.out] at hown2
          clear hown hbw HE
          go_wp2
          exact ⟨⟨i + 1, hlt, by simp, by rw [Nat.mul_succ]; exact hown2, hbw2⟩, by simp only [intOf]; omega⟩
    · obtain rfl : i = s.size := by omega
      have hall : s.data.toList.take s.size = s.data.toList := List.take_of_length_le (by simp)
      rw [hall] at hown
      obtain ⟨g, cap, rfl, hB, hg, hcap, hr⟩ := own_range hown (by omega)
      clear hown
      go_wp2
      go_ret
      exact ⟨g, cap, rfl, hB, hg, hcap, hr, hbw⟩
theorem byt_step (x : List Bool) (j k : Nat) (hj : j < 8) (hk : k < 8) (hx : x.length = 64) : val (((x.drop (8 * j)).take 8).take (k + 1)) = 2 * val (((x.drop (8 * j)).take 8).take k) + (x.getD (8 * j + k) false).toNat := by
  have hl : k < ((x.drop (8 * j)).take 8).length := by rw [List.length_take, List.length_drop, hx]; omega
  rw [List.take_succ_eq_append_getElem hl, val_snoc]
  congr 2
  simp [List.getD_eq_getElem?_getD, List.getElem?_eq_getElem (show 8 * j + k < x.length by omega)]
theorem byW_step (x : List Bool) (j : Nat) (hj : j < 8) : bs ((byW x).take (j + 1)) = bs ((byW x).take j) ++ [.int .u8 (val ((x.drop (8 * j)).take 8) : Int)] := by
  have := Aw.bs_snoc [] x j hj
  simpa [Aw.byt] using this
set_option maxRecDepth 100000 in
set_option maxHeartbeats 3200000 in
theorem bytes_ref (x : List Bool) (g o cap : Nat) (hx : Hid (x.length = 64)) (w : World) (hg : g < w.heap.size) (hr : w.rangeAt g o (nv (nb x))) :
    Calls Try.prog 102 #[.slice (some ⟨g, o, none⟩) 64 cap] w fun e w' => e = .returned (.string ⟨(byW x).toArray⟩) ∧ Below w.heap.size w w' := by
  obtain ⟨i0, hi, hz0, hz1, hz2⟩ := info_parts Aw.info
  go_enter Try.func102, Try.ntmps102
  go_wp2
  go_loopw [3, 4, 5, 6] (fun v c n kk wr => ∃ j : Nat, j ≤ 8 ∧ c = .int .i64 (8 * (j : Int)) ∧ wr.ownsRow w.heap.size 5 1 v j (bs ((byW x).take j)) ∧ Below w.heap.size w wr) (fun _ c _ _ _ => 72 - (intOf c).toNat)
  case atStart => exact ⟨0, Nat.zero_le _, rfl, World.ownsRow_nil _ _ _ _, Below.refl _ _⟩
  case round =>
    obtain ⟨j, hj, rfl, hown, hbw⟩ := hrel
    rename World => w9
    have hbs := hbw.size
    by_cases hlt : j < 8
    · have q0 : (0 : Int) ≤ (j : Int) := by omega
      have q1 : (j : Int) < 8 := by omega
      have q2 : 8 * (j : Int) + 8 ≤ 64 := by omega
      have HB : Hid (bs ((byW x).take (j + 1)) = bs ((byW x).take j) ++ [.int .u8 (val ((x.drop (8 * j)).take 8) : Int)]) := byW_step x j hlt
      have hv8 : val ((x.drop (8 * j)).take 8) < 256 := Aw.byt_lt x j
      have HT : Hid (((x.drop (8 * j)).take 8).take 8 = (x.drop (8 * j)).take 8) := (by rw [List.take_take, Nat.min_self] : ((x.drop (8 * j)).take 8).take 8 = (x.drop (8 * j)).take 8)
      go_wp2
      go_loopw [5, 6] (fun n kk wr => ∃ k : Nat, k ≤ 8 ∧ kk = .int .i64 (k : Int) ∧ n = .int .i64 (val (((x.drop (8 * j)).take 8).take k) : Int) ∧ wr = w9) (fun _ kk _ => 9 - (intOf kk).toNat)
      case atStart => exact ⟨0, by omega, rfl, rfl, rfl⟩
      case round =>
        obtain ⟨k, hk, rfl, rfl, rfl⟩ := hrel
        by_cases hk2 : k < 8
        · have r0 : (0 : Int) ≤ (k : Int) := by omega
          have r1 : (k : Int) < 8 := by omega
          have r2 : 8 * (j : Int) + (k : Int) < 64 := by omega
          have r3 : (0 : Int) ≤ 8 * (j : Int) + (k : Int) := by omega
          have hjl : 8 * j + k < x.length := by rw [hx.out]; omega
          have c1 := range_cell (range_keep hbw hg hr) (8 * j + k) (by rw [nb_len]; exact hjl)
          rw [nb_get x _ hjl] at c1
          have HS : Hid (val (((x.drop (8 * j)).take 8).take (k + 1)) = 2 * val (((x.drop (8 * j)).take 8).take k) + x[8 * j + k].toNat) := (by
            rw [byt_step x j k hlt hk2 hx.out, List.getD_eq_getElem?_getD, List.getElem?_eq_getElem hjl]; rfl : val (((x.drop (8 * j)).take 8).take (k + 1)) = 2 * val (((x.drop (8 * j)).take 8).take k) + x[8 * j + k].toNat)
          have vk : val (((x.drop (8 * j)).take 8).take k) < 256 := Nat.lt_of_lt_of_le (val_lt _) (Nat.pow_le_pow_right (n := 2) (by decide) (show (((x.drop (8 * j)).take 8).take k).length ≤ 8 by rw [List.length_take]; omega))
          have b1 := toNat_le x[8 * j + k]
          generalize x[8 * j + k].toNat = y at *
          generalize val (((x.drop (8 * j)).take 8).take k) = vv at *
          have s1 : (vv : Int) < 256 := by omega
          have s2 : (0 : Int) ≤ (vv : Int) := by omega
          have s3 : (y : Int) ≤ 1 := by omega
          have s4 : (0 : Int) ≤ (y : Int) := by omega
          have t1 : (8 * (j : Int) + (k : Int)).toNat = 8 * j + k := by omega
          clear hown hr HB HT hv8 hjl b1 vk
          go_wp2
          exact ⟨⟨k + 1, hk2, by simp, by rw [HS.out]; simp, trivial⟩, by simp only [intOf]; omega⟩
        · obtain rfl : k = 8 := by omega
          rw [HT.out]
          generalize val ((x.drop (8 * j)).take 8) = vv at *
          have s1 : (vv : Int) < 256 := by omega
          have s2 : (0 : Int) ≤ (vv : Int) := by omega
          clear hr HT hv8
          go_wp2_with (at_builtin; refine wpList_append_lies _ rfl _ _ _ rfl w.heap.size 5 i0 _ 1 1 Try.underlying65 hi hz0 hz1 hz2 rfl (by omega) _ j _ rfl (hown.alloc _) ⟨wr.heap.size, 0, none⟩ 1 1 _ rfl (by rfl) (World.news_of_block (heap_alloc_new wr _)) (by simp [Value.oneCell']) (by omega) (by unfold maxLen; omega) (by omega) (by first | omega | (simp <;> omega)) (wr.heap.size + 1) (by simp) ?_; intro gg cap w1 hown1 hgrow hat hlt1)
          exact ⟨⟨j + 1, hlt, by congr 1, owns_len hown1 rfl rfl HB.out.symm, below_app0 hbw hbs hown hgrow⟩, by simp only [intOf]; omega⟩
    · obtain rfl : j = 8 := by omega
      rw [List.take_of_length_le (by rw [byW_len]; exact Nat.le_refl _)] at hown
      have hcv := run_str (P := Try.prog) (src := 65) (dst := 9) Try.underlying65 Try.underlying5 Try.underlying9 hown
      clear hr hx
      go_wp2
      go_ret
      exact ⟨rfl, hbw⟩
end Go.Proofs.Ytciblmdpngnakaa.Rs
/- The document's tables. -/
namespace Go.Proofs.Ytciblmdpngnakaa.Rt
set_option linter.unusedVariables false
open Go.RowKit Pla Cb Rb
theorem tabIn_ref (w : World) : Calls Try.prog 98 #[] w fun e w' => e = .returned (.slice (some ⟨w.heap.size, 0, none⟩) 64 64) ∧ w' = w.alloc (Obj.cells (nv tIn).toArray 3) := by
  go_enter Try.func98, Try.ntmps98
  go_wp2
  go_ret
  exact ⟨rfl, rfl⟩
theorem tabOut_ref (w : World) : Calls Try.prog 103 #[] w fun e w' => e = .returned (.slice (some ⟨w.heap.size, 0, none⟩) 64 64) ∧ w' = w.alloc (Obj.cells (nv tOut).toArray 3) := by
  go_enter Try.func103, Try.ntmps103
  go_wp2
  go_ret
  exact ⟨rfl, rfl⟩
theorem tabWide_ref (w : World) : Calls Try.prog 113 #[] w fun e w' => e = .returned (.slice (some ⟨w.heap.size, 0, none⟩) 48 48) ∧ w' = w.alloc (Obj.cells (nv tWide).toArray 3) := by
  go_enter Try.func113, Try.ntmps113
  go_wp2
  go_ret
  exact ⟨rfl, rfl⟩
theorem tabP_ref (w : World) : Calls Try.prog 115 #[] w fun e w' => e = .returned (.slice (some ⟨w.heap.size, 0, none⟩) 32 32) ∧ w' = w.alloc (Obj.cells (nv tP).toArray 3) := by
  go_enter Try.func115, Try.ntmps115
  go_wp2
  go_ret
  exact ⟨rfl, rfl⟩
theorem tabK1_ref (w : World) : Calls Try.prog 110 #[] w fun e w' => e = .returned (.slice (some ⟨w.heap.size, 0, none⟩) 56 56) ∧ w' = w.alloc (Obj.cells (nv tK1).toArray 3) := by
  go_enter Try.func110, Try.ntmps110
  go_wp2
  go_ret
  exact ⟨rfl, rfl⟩
theorem tabK2_ref (w : World) : Calls Try.prog 112 #[] w fun e w' => e = .returned (.slice (some ⟨w.heap.size, 0, none⟩) 48 48) ∧ w' = w.alloc (Obj.cells (nv tK2).toArray 3) := by
  go_enter Try.func112, Try.ntmps112
  go_wp2
  go_ret
  exact ⟨rfl, rfl⟩
end Go.Proofs.Ytciblmdpngnakaa.Rt
