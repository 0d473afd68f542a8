/- The document's Tag. -/
import Derived.Test.YtpifebapodfeaaaRc
import Derived.Test.YtpifebapodfeaaaTg
import Derived.Deep.RegionWith
namespace Go.Proofs.Ytpifebapodfeaaa.Rg
set_option linter.unusedVariables false
open Go.RowKit Pla Cb Sm Wd Nw Bk Eb Et Cc Ch Pm Fp Sp Pe Se Tg
open Ck (z64)
open Ea (rowB)
open Ru (turnB)
theorem sizer_any (a : Int) (w : World) : Calls Try.prog 23 #[.int .i64 a] w fun e w' => e = .returned (.int .i64 (ksz a)) ∧ w' = w := by
  by_cases h1 : a = 1
  · subst h1
    go_enter Try.func23, Try.ntmps23
    go_wp2
    go_ret
    exact ⟨rfl, rfl⟩
  · by_cases h3 : a = 3
    · subst h3
      go_enter Try.func23, Try.ntmps23
      go_wp2
      go_ret
      exact ⟨rfl, rfl⟩
    · have q1 : (a == 1) = false := by simpa using h1
      have q3 : (a == 3) = false := by simpa using h3
      go_enter Try.func23, Try.ntmps23
      go_wp2
      go_ret
      exact ⟨by rw [ksz, if_neg h1, if_neg h3]; rfl, rfl⟩
theorem made8 (w : World) : (Instr.makeSlice 34 (.int .i64 8) (.int .i64 8)).run Try.prog w.drew = .ok (.slice (some ⟨w.heap.size, 0, none⟩) 8 8) ((w.alloc (Obj.cells (Pd.R (List.replicate 8 0)) 5)).drew) := by
  obtain ⟨i0, hi, hz0, hz1, hz2⟩ := info_parts Pd.info
  have h := run_make_row (P := Try.prog) 34 5 i0 _ Try.underlying34 hi hz0 hz1 rfl .i64 .i64 8 (by rw [hz2]; omega) (by omega) w.drew
  rw [Pd.R_made] at h
  exact h
theorem conv8 (w : World) : (convert 34 9 (.slice (some ⟨w.heap.size, 0, none⟩) 8 8)).run Try.prog ((w.alloc (Obj.cells (Pd.R (List.replicate 8 0)) 5)).drew) = .ok (.string noughts) ((w.alloc (Obj.cells (Pd.R (List.replicate 8 0)) 5)).drew) :=
  Pd.R_str (P := Try.prog) (w := (w.alloc (Obj.cells (Pd.R (List.replicate 8 0)) 5)).drew) (src := 34) (dst := 9) (e := 5) (l := List.replicate 8 0) Try.underlying34 Try.underlying5 Try.underlying9 (h1_0 w (Obj.cells (Pd.R (List.replicate 8 0)) 5)) 8
theorem turn_one (l : List UInt8) (back : Bool) (x : List Bool) (hx : x.length = 64) : turnB l back ⟨(byW x).toArray⟩ 1 = ⟨(byW (Rl.cph l back x)).toArray⟩ := by
  have h := map_one (Rl.cph l back) x hx
  rw [mapB, show (byW x).length / 8 = 1 by rw [byW_len]] at h
  rw [turnB, show (ByteArray.mk (byW x).toArray).data.toList = byW x by simp, h]
set_option maxRecDepth 100000 in
set_option maxHeartbeats 1600000 in
theorem tagr_one (m : Nat) (hm : m = 1 ∨ m = 2) (key : ByteArray) (hk : key.size = 8) (s : ByteArray) (hs : s.size ≤ 1100000) (w : World) :
    Calls Try.prog 12 #[.int .i64 1, .int .i64 (m : Int), .string key, .string s] w fun e w' => e = .returned (.tuple #[.string (tagB 1 m key s), .int .i64 0]) ∧ Below w.heap.size w w' := by
  have PA := fun y => padr_good m hm s (by omega) y
  have SZ := fun y => sizer_any 1 y
  rw [show ksz 1 = 8 from rfl] at SZ
  obtain ⟨N, hN⟩ : ∃ N, nbM m s.size = N + 1 := ⟨nbM m s.size - 1, by have := nbM_pos m s.size; omega⟩
  have hN2 : 8 * (N + 1) ≤ 1100009 := by have := nbM_le m s.size; omega
  have hz : (fillB m s).size = 8 * (N + 1) := by rw [fillB_size, hN]
  have hp : (fillL m s.data.toList).length = 8 * (N + 1) := by rw [fillL_len, len_size, hN]
  have CH := fun y => Rc.chain_fore (key.extract 0 8) noughts (fillB m s) (.inl (by rw [ByteArray.size_extract, hk]; rfl)) (rfl : noughts.size = 8) (N + 1) hz (by omega) y
  have eR : rowB (key.extract 0 8).data.toList noughts (fillB m s) (N + 1) = ⟨(chainL (key.data.toList.take 8) z64 (fillL m s.data.toList)).toArray⟩ := by
    rw [rowB, ext_take, noughts_bits, fillB_list, chainL, hp, show 8 * (N + 1) / 8 = N + 1 by omega]
  rw [eR] at CH
  have EX := chain_ext (key.data.toList.take 8) (fillL m s.data.toList) N hp
  have sz : (⟨(chainL (key.data.toList.take 8) z64 (fillL m s.data.toList)).toArray⟩ : ByteArray).size = 8 * N + 8 := by
    show (chainL _ _ _).toArray.size = _
    rw [List.size_toArray, chain_len _ _ _ (N + 1) hp]; omega
  rw [tagB, tagC, if_neg (by decide)]
  generalize (⟨(chainL (key.data.toList.take 8) z64 (fillL m s.data.toList)).toArray⟩ : ByteArray) = C at *
  generalize (⟨(byW (lastC (key.data.toList.take 8) (fillL m s.data.toList))).toArray⟩ : ByteArray) = L at *
  generalize fillB m s = F at *
  have hX : C.extract (C.size - 8) C.size = L := by rw [sz, show 8 * N + 8 - 8 = 8 * N by omega]; exact EX
  have q1 : (8 : Int) ≤ (C.size : Int) := by omega
  have q2 : (C.size : Int) ≤ 1000000010 := by omega
  have q3 : ((key.size : Int) != 8) = false := by simp only [bne_eq_false_iff_eq]; omega
  have q4 : (8 : Int) ≤ (key.size : Int) := by omega
  clear EX sz hp hz hN hm hN2 hk eR
  have hmk := made8 w
  have hcv := conv8 w
  have hb0 : Below w.heap.size w ((w.alloc (Obj.cells (Pd.R (List.replicate 8 0)) 5)).drew) := (below_one w _).drew
  generalize (w.alloc (Obj.cells (Pd.R (List.replicate 8 0)) 5)).drew = W1 at *
  go_enter Try.func12, Try.ntmps12
  go_wp2_with (first
    | (go_at_call 9; refine (PA _).mono ?_; rintro e x ⟨rfl, hx⟩; rw [hx])
    | (go_at_call 23; refine (SZ _).mono ?_; rintro e x ⟨rfl, hx⟩; rw [hx]))
  go_region_with (go_at_call 24; refine (CH _).mono ?_; rintro e y ⟨rfl, hy⟩)
  all_goals (go_wp2; exact bodyPost_ret (v := .tuple #[.string L, .int .i64 0]) (by simp [results, Try.results12, go_sem, hX]) rfl ⟨rfl, keepB hb0 hy⟩)
set_option maxRecDepth 100000 in
set_option maxHeartbeats 1600000 in
theorem tagr_three (m : Nat) (hm : m = 1 ∨ m = 2) (key : ByteArray) (hk : key.size = 16) (s : ByteArray) (hs : s.size ≤ 1100000) (w : World) :
    Calls Try.prog 12 #[.int .i64 3, .int .i64 (m : Int), .string key, .string s] w fun e w' => e = .returned (.tuple #[.string (tagB 3 m key s), .int .i64 0]) ∧ Below w.heap.size w w' := by
  have PA := fun y => padr_good m hm s (by omega) y
  have SZ := fun y => sizer_any 3 y
  rw [show ksz 3 = 16 from rfl] at SZ
  obtain ⟨N, hN⟩ : ∃ N, nbM m s.size = N + 1 := ⟨nbM m s.size - 1, by have := nbM_pos m s.size; omega⟩
  have hN2 : 8 * (N + 1) ≤ 1100009 := by have := nbM_le m s.size; omega
  have hz : (fillB m s).size = 8 * (N + 1) := by rw [fillB_size, hN]
  have hp : (fillL m s.data.toList).length = 8 * (N + 1) := by rw [fillL_len, len_size, hN]
  have CH := fun y => Rc.chain_fore (key.extract 0 8) noughts (fillB m s) (.inl (by rw [ByteArray.size_extract, hk]; rfl)) (rfl : noughts.size = 8) (N + 1) hz (by omega) y
  have eR : rowB (key.extract 0 8).data.toList noughts (fillB m s) (N + 1) = ⟨(chainL (key.data.toList.take 8) z64 (fillL m s.data.toList)).toArray⟩ := by
    rw [rowB, ext_take, noughts_bits, fillB_list, chainL, hp, show 8 * (N + 1) / 8 = N + 1 by omega]
  rw [eR] at CH
  have EX := chain_ext (key.data.toList.take 8) (fillL m s.data.toList) N hp
  have sz : (⟨(chainL (key.data.toList.take 8) z64 (fillL m s.data.toList)).toArray⟩ : ByteArray).size = 8 * N + 8 := by
    show (chainL _ _ _).toArray.size = _
    rw [List.size_toArray, chain_len _ _ _ (N + 1) hp]; omega
  rw [tagB, tagC, if_pos rfl]
  generalize (⟨(chainL (key.data.toList.take 8) z64 (fillL m s.data.toList)).toArray⟩ : ByteArray) = C at *
  have hlc := lastC_len (key.data.toList.take 8) (fillL m s.data.toList)
  generalize lastC (key.data.toList.take 8) (fillL m s.data.toList) = lc at *
  have T1 := fun y => Ru.turn_ref (key.extract 8 key.size) ⟨(byW lc).toArray⟩ true (.inl (by rw [ByteArray.size_extract, hk]; rfl)) 1 (by show (byW lc).toArray.size = 8 * 1; rw [List.size_toArray, byW_len]) (by decide) y
  rw [turn_one _ _ _ hlc, ext_drop] at T1
  rw [show Rl.cph (key.data.toList.drop 8) true lc = dec (key.data.toList.drop 8) lc from rfl] at T1
  have hld := dec_len (key.data.toList.drop 8) lc
  generalize dec (key.data.toList.drop 8) lc = ld at *
  have T2 := fun y => Ru.turn_ref (key.extract 0 8) ⟨(byW ld).toArray⟩ false (.inl (by rw [ByteArray.size_extract, hk]; rfl)) 1 (by show (byW ld).toArray.size = 8 * 1; rw [List.size_toArray, byW_len]) (by decide) y
  rw [turn_one _ _ _ hld, ext_take] at T2
  rw [show Rl.cph (key.data.toList.take 8) false ld = enc (key.data.toList.take 8) ld from rfl] at T2
  generalize (⟨(byW (enc (key.data.toList.take 8) ld)).toArray⟩ : ByteArray) = T at *
  generalize (⟨(byW ld).toArray⟩ : ByteArray) = M at *
  generalize (⟨(byW lc).toArray⟩ : ByteArray) = L at *
  generalize fillB m s = F at *
  have hX : C.extract (C.size - 8) C.size = L := by rw [sz, show 8 * N + 8 - 8 = 8 * N by omega]; exact EX
  have q1 : (8 : Int) ≤ (C.size : Int) := by omega
  have q2 : (C.size : Int) ≤ 1000000010 := by omega
  have q3 : ((key.size : Int) != 16) = false := by simp only [bne_eq_false_iff_eq]; omega
  have q4 : (8 : Int) ≤ (key.size : Int) := by omega
  clear EX sz hp hz hN hm hN2 hk eR
  have hmk := made8 w
  have hcv := conv8 w
  have hb0 : Below w.heap.size w ((w.alloc (Obj.cells (Pd.R (List.replicate 8 0)) 5)).drew) := (below_one w _).drew
  generalize (w.alloc (Obj.cells (Pd.R (List.replicate 8 0)) 5)).drew = W1 at *
  go_enter Try.func12, Try.ntmps12
  go_wp2_with (first
    | (go_at_call 9; refine (PA _).mono ?_; rintro e x ⟨rfl, hx⟩; rw [hx])
    | (go_at_call 23; refine (SZ _).mono ?_; rintro e x ⟨rfl, hx⟩; rw [hx]))
  go_region_with (go_at_call 24; refine (CH _).mono ?_; rintro e y ⟨rfl, hy⟩)
  all_goals (
    go_wp2_with (first
      | (go_at_call_of 25 (Value.bool true); refine (T1 _).mono ?_; rintro e z1 ⟨rfl, hz1⟩)
      | (go_at_call 25; refine (T2 _).mono ?_; rintro e z2 ⟨rfl, hz2⟩))
    exact bodyPost_ret (v := .tuple #[.string T, .int .i64 0]) (by simp [results, Try.results12, go_sem]) rfl ⟨rfl, keepB (keepB (keepB hb0 hy) hz1) hz2⟩)
theorem tagr_good (alg m : Nat) (ha : alg = 1 ∨ alg = 3) (hm : m = 1 ∨ m = 2) (key : ByteArray) (hk : key.size = 4 + 4 * alg) (s : ByteArray) (hs : s.size ≤ 1100000) (w : World) :
    Calls Try.prog 12 #[.int .i64 (alg : Int), .int .i64 (m : Int), .string key, .string s] w fun e w' => e = .returned (.tuple #[.string (tagB alg m key s), .int .i64 0]) ∧ Below w.heap.size w w' := by
  rcases ha with rfl | rfl
  · exact tagr_one m hm key (by omega) s hs w
  · exact tagr_three m hm key (by omega) s hs w
/-- refused -/
theorem tagr_arg (a b : Int) (h : ((ksz a == 0) || !(b == 1 || b == 2)) = true) (key s : ByteArray) (hs : s.size ≤ 1100000) (w : World) :
    Calls Try.prog 12 #[.int .i64 a, .int .i64 b, .string key, .string s] w fun e w' => e = .returned (.tuple #[.string ⟨#[]⟩, .int .i64 1]) ∧ Below w.heap.size w w' := by
  have SZ := fun y => sizer_any a y
  by_cases hb : b = 1 ∨ b = 2
  · obtain ⟨m, hm, rfl⟩ : ∃ m : Nat, (m = 1 ∨ m = 2) ∧ b = (m : Int) := by
      rcases hb with rfl | rfl
      · exact ⟨1, .inl rfl, rfl⟩
      · exact ⟨2, .inr rfl, rfl⟩
    have hz : (ksz a == 0) = true := by rcases hm with rfl | rfl <;> simpa using h
    have PA := fun y => padr_good m hm s (by omega) y
    generalize fillB m s = F at *
    clear h hb hm
    go_enter Try.func12, Try.ntmps12
    go_wp2_with (first
      | (go_at_call 9; refine (PA _).mono ?_; rintro e x ⟨rfl, hx⟩; rw [hx])
      | (go_at_call 23; refine (SZ _).mono ?_; rintro e x ⟨rfl, hx⟩; rw [hx]))
    exact bodyPost_ret (v := .tuple #[.string ⟨#[]⟩, .int .i64 1]) (by simp [results, Try.results12, go_sem]) rfl ⟨rfl, Below.refl _ _⟩
  · have PA := fun y => padr_bad b (by simp only [beq_eq_false_iff_ne]; omega) (by simp only [beq_eq_false_iff_ne]; omega) s y
    clear h hb
    by_cases hz : (ksz a == 0) = true
    · go_enter Try.func12, Try.ntmps12
      go_wp2_with (first
        | (go_at_call 9; refine (PA _).mono ?_; rintro e x ⟨rfl, hx⟩; rw [hx])
        | (go_at_call 23; refine (SZ _).mono ?_; rintro e x ⟨rfl, hx⟩; rw [hx]))
      exact bodyPost_ret (v := .tuple #[.string ⟨#[]⟩, .int .i64 1]) (by simp [results, Try.results12, go_sem]) rfl ⟨rfl, Below.refl _ _⟩
    · have hz' : (ksz a == 0) = false := by simpa using hz
      clear hz
      go_enter Try.func12, Try.ntmps12
      go_wp2_with (first
        | (go_at_call 9; refine (PA _).mono ?_; rintro e x ⟨rfl, hx⟩; rw [hx])
        | (go_at_call 23; refine (SZ _).mono ?_; rintro e x ⟨rfl, hx⟩; rw [hx]))
      exact bodyPost_ret (v := .tuple #[.string ⟨#[]⟩, .int .i64 1]) (by simp [results, Try.results12, go_sem]) rfl ⟨rfl, Below.refl _ _⟩
theorem tagr_key (a : Int) (m : Nat) (hm : m = 1 ∨ m = 2) (ha : (ksz a == 0) = false) (key s : ByteArray) (hk : ((key.size : Int) != ksz a) = true) (hs : s.size ≤ 1100000) (w : World) :
    Calls Try.prog 12 #[.int .i64 a, .int .i64 (m : Int), .string key, .string s] w fun e w' => e = .returned (.tuple #[.string ⟨#[]⟩, .int .i64 30]) ∧ Below w.heap.size w w' := by
  have SZ := fun y => sizer_any a y
  have PA := fun y => padr_good m hm s (by omega) y
  generalize fillB m s = F at *
  clear hm
  go_enter Try.func12, Try.ntmps12
  go_wp2_with (first
    | (go_at_call 9; refine (PA _).mono ?_; rintro e x ⟨rfl, hx⟩; rw [hx])
    | (go_at_call 23; refine (SZ _).mono ?_; rintro e x ⟨rfl, hx⟩; rw [hx]))
  exact bodyPost_ret (v := .tuple #[.string ⟨#[]⟩, .int .i64 30]) (by simp [results, Try.results12, go_sem]) rfl ⟨rfl, Below.refl _ _⟩
/-- whatever is asked: one answer -/
theorem both (a b : Int) (key s : ByteArray) (hs : s.size ≤ 1100000) : ∃ (X : ByteArray) (E : Int), 0 ≤ E ∧ E ≤ 100 ∧ (∀ y, Calls Try.prog 11 #[.int .i64 a, .int .i64 b, .string key, .string s] y (Tu.RetE X E y)) ∧
    (∀ y, Calls Try.prog 12 #[.int .i64 a, .int .i64 b, .string key, .string s] y (Tu.RetE X E y)) := by
  by_cases hb : b = 1 ∨ b = 2
  · obtain ⟨m, hm, rfl⟩ : ∃ m : Nat, (m = 1 ∨ m = 2) ∧ b = (m : Int) := by
      rcases hb with rfl | rfl
      · exact ⟨1, .inl rfl, rfl⟩
      · exact ⟨2, .inr rfl, rfl⟩
    have hbt : (((m : Int) == 1) || ((m : Int) == 2)) = true := by rcases hm with rfl | rfl <;> rfl
    by_cases ha : a = 1 ∨ a = 3
    · obtain ⟨alg, hal, rfl⟩ : ∃ alg : Nat, (alg = 1 ∨ alg = 3) ∧ a = (alg : Int) := by
        rcases ha with rfl | rfl
        · exact ⟨1, .inl rfl, rfl⟩
        · exact ⟨3, .inr rfl, rfl⟩
      have hks : ksz (alg : Int) = ((4 + 4 * alg : Nat) : Int) := by rcases hal with rfl | rfl <;> rfl
      have hz : (ksz (alg : Int) == 0) = false := by rw [hks]; simp only [beq_eq_false_iff_ne]; omega
      by_cases hk : key.size = 4 + 4 * alg
      · exact ⟨_, 0, by decide, by decide, fun y => Tag_good alg m hal hm key hk s (by omega) y, fun y => tagr_good alg m hal hm key hk s hs y⟩
      · have hk' : ((key.size : Int) != ksz (alg : Int)) = true := by rw [hks]; simp only [bne_iff_ne]; omega
        exact ⟨⟨#[]⟩, 30, by decide, by decide, fun y => (Tag_key _ _ hz hbt key s hk' y).mono (fun e w' h => ⟨h.1, h.2 ▸ Below.refl _ _⟩), fun y => tagr_key _ m hm hz key s hk' hs y⟩
    · have hz : ((ksz a == 0) || !(((m : Int) == 1) || ((m : Int) == 2))) = true := by
        have : ksz a = 0 := by unfold ksz; rw [if_neg (fun h => ha (.inl h)), if_neg (fun h => ha (.inr h))]
        rw [this]; rfl
      exact ⟨⟨#[]⟩, 1, by decide, by decide, fun y => (Tag_arg a _ hz key s y).mono (fun e w' h => ⟨h.1, h.2 ▸ Below.refl _ _⟩), fun y => tagr_arg a _ hz key s hs y⟩
  · have hz : ((ksz a == 0) || !((b == 1) || (b == 2))) = true := by
      have h1 : (b == 1) = false := by simp only [beq_eq_false_iff_ne]; omega
      have h2 : (b == 2) = false := by simp only [beq_eq_false_iff_ne]; omega
      rw [h1, h2]; simp
    exact ⟨⟨#[]⟩, 1, by decide, by decide, fun y => (Tag_arg a _ hz key s y).mono (fun e w' h => ⟨h.1, h.2 ▸ Below.refl _ _⟩), fun y => tagr_arg a _ hz key s hs y⟩
end Go.Proofs.Ytpifebapodfeaaa.Rg
