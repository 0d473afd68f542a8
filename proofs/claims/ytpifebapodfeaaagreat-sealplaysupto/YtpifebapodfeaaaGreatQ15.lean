import Derived.Test.YtpifebapodfeaaaGreatQ14
import Derived.Test.YtpifebapodfeaaaGreatQ09
import Derived.Deep.RegionWith
import Derived.Test.YtpifebapodfeaaaGreatQ10
import Derived.Test.YtpifebapodfeaaaGreatQ06
import Derived.Test.YtpifebapodfeaaaGreatQ08
import Derived.Test.YtpifebapodfeaaaGreatQ07
import Derived.Laws.IdiomStrings
/- The document's Tag. -/
namespace Go.Proofs.YtpifebapodfeaaaGreat.Rg
set_option linter.unusedVariables false
open Go.RowKit Pla Cb Sm Wd Nw Bk Eb Et Cc Ch Pm Fp Sp Pe Se Tg
open Ck (z64)
open Ea (rowB)
open Ru (turnB)
theorem sizer_any (a : Int) (w : World) : Calls Tryz.prog 28 #[.int .i64 a] w fun e w' => e = .returned (.int .i64 (ksz a)) ∧ w' = w := by
  by_cases h1 : a = 1
  · subst h1
    go_enter Tryz.func28, Tryz.ntmps28
    go_wp2
    go_ret
    exact ⟨rfl, rfl⟩
  · by_cases h3 : a = 3
    · subst h3
      go_enter Tryz.func28, Tryz.ntmps28
      go_wp2
      go_ret
      exact ⟨rfl, rfl⟩
    · have q1 : (a == 1) = false := by simpa using h1
      have q3 : (a == 3) = false := by simpa using h3
      go_enter Tryz.func28, Tryz.ntmps28
      go_wp2
      go_ret
      exact ⟨by rw [ksz, if_neg h1, if_neg h3]; rfl, rfl⟩
theorem made8 (w : World) : (Instr.makeSlice 75 (.int .i64 8) (.int .i64 8)).run Tryz.prog w.drew = .ok (.slice (some ⟨w.heap.size, 0, none⟩) 8 8) ((w.alloc (Obj.cells (Pd.R (List.replicate 8 0)) 5)).drew) := by
  obtain ⟨i0, hi, hz0, hz1, hz2⟩ := info_parts Pd.info
  have h := run_make_row (P := Tryz.prog) 75 5 i0 _ Tryz.underlying75 hi hz0 hz1 rfl .i64 .i64 8 (by rw [hz2]; omega) (by omega) w.drew
  rw [Pd.R_made] at h
  exact h
theorem conv8 (w : World) : (convert 75 9 (.slice (some ⟨w.heap.size, 0, none⟩) 8 8)).run Tryz.prog ((w.alloc (Obj.cells (Pd.R (List.replicate 8 0)) 5)).drew) = .ok (.string noughts) ((w.alloc (Obj.cells (Pd.R (List.replicate 8 0)) 5)).drew) :=
  Pd.R_str (P := Tryz.prog) (w := (w.alloc (Obj.cells (Pd.R (List.replicate 8 0)) 5)).drew) (src := 75) (dst := 9) (e := 5) (l := List.replicate 8 0) Tryz.underlying75 Tryz.underlying5 Tryz.underlying9 (h1_0 w (Obj.cells (Pd.R (List.replicate 8 0)) 5)) 8
theorem turn_one (l : List UInt8) (back : Bool) (x : List Bool) (hx : x.length = 64) : turnB l back ⟨(byW x).toArray⟩ 1 = ⟨(byW (Rl.cph l back x)).toArray⟩ := by
  have h := map_one (Rl.cph l back) x hx
  rw [mapB, show (byW x).length / 8 = 1 by rw [byW_len]] at h
  rw [turnB, show (ByteArray.mk (byW x).toArray).data.toList = byW x by simp, h]
set_option maxRecDepth 100000 in
set_option maxHeartbeats 1600000 in
theorem tagr_one (m : Nat) (hm : m = 1 ∨ m = 2) (key : ByteArray) (hk : key.size = 8) (s : ByteArray) (hs : s.size ≤ 1100000) (w : World) :
    Calls Tryz.prog 25 #[.int .i64 1, .int .i64 (m : Int), .string key, .string s] w fun e w' => e = .returned (.tuple #[.string (tagB 1 m key s), .int .i64 0]) ∧ Below w.heap.size w w' := by
  have PA := fun y => padr_good m hm s (by omega) y
  have SZ := fun y => sizer_any 1 y
  rw [show ksz 1 = 8 from rfl] at SZ
  obtain ⟨N, hN⟩ : ∃ N, nbM m s.size = N + 1 := ⟨nbM m s.size - 1, by have := nbM_pos m s.size; omega⟩
  have hN2 : 8 * (N + 1) ≤ 1100009 := by have := nbM_le m s.size; omega
  have hz : (fillB m s).size = 8 * (N + 1) := by rw [fillB_size, hN]
  have hp : (fillL m s.data.toList).length = 8 * (N + 1) := by rw [fillL_len, len_size, hN]
  have CH := fun y => Rc.chain_fore (key.extract 0 8) noughts (fillB m s) (.inl (by rw [ByteArray.size_extract, hk]; rfl)) (rfl : noughts.size = 8) (N + 1) hz (by omega) y
  have eR : rowB (key.extract 0 8).data.toList noughts (fillB m s) (N + 1) = ⟨(chainL (key.data.toList.take 8) z64 (fillL m s.data.toList)).toArray⟩ := by
    rw [rowB, ext_take, noughts_bits, fillB_list, chainL, hp, show 8 * (N + 1) / 8 = N + 1 by omega]
  rw [eR] at CH
  have EX := chain_ext (key.data.toList.take 8) (fillL m s.data.toList) N hp
  have sz : (⟨(chainL (key.data.toList.take 8) z64 (fillL m s.data.toList)).toArray⟩ : ByteArray).size = 8 * N + 8 := by
    show (chainL _ _ _).toArray.size = _
    rw [List.size_toArray, chain_len _ _ _ (N + 1) hp]; omega
  rw [tagB, tagC, if_neg (by decide)]
  generalize (⟨(chainL (key.data.toList.take 8) z64 (fillL m s.data.toList)).toArray⟩ : ByteArray) = C at *
  generalize (⟨(byW (lastC (key.data.toList.take 8) (fillL m s.data.toList))).toArray⟩ : ByteArray) = L at *
  generalize fillB m s = F at *
  have hX : C.extract (C.size - 8) C.size = L := by rw [sz, show 8 * N + 8 - 8 = 8 * N by omega]; exact EX
  have q1 : (8 : Int) ≤ (C.size : Int) := by omega
  have q2 : (C.size : Int) ≤ 1000000010 := by omega
  have q3 : ((key.size : Int) != 8) = false := by simp only [bne_eq_false_iff_eq]; omega
  have q4 : (8 : Int) ≤ (key.size : Int) := by omega
  clear EX sz hp hz hN hm hN2 hk eR
  have hmk := made8 w
  have hcv := conv8 w
  have hb0 : Below w.heap.size w ((w.alloc (Obj.cells (Pd.R (List.replicate 8 0)) 5)).drew) := (below_one w _).drew
  generalize (w.alloc (Obj.cells (Pd.R (List.replicate 8 0)) 5)).drew = W1 at *
  go_enter Tryz.func25, Tryz.ntmps25
  go_wp2_with (first
    | (go_at_call 41; refine (PA _).mono ?_; rintro e x ⟨rfl, hx⟩; rw [hx])
    | (go_at_call 28; refine (SZ _).mono ?_; rintro e x ⟨rfl, hx⟩; rw [hx]))
  go_region_with (go_at_call 42; refine (CH _).mono ?_; rintro e y ⟨rfl, hy⟩)
  all_goals (go_wp2; exact bodyPost_ret (v := .tuple #[.string L, .int .i64 0]) (by simp [results, Tryz.results25, go_sem, hX]) rfl ⟨rfl, keepB hb0 hy⟩)
set_option maxRecDepth 100000 in
set_option maxHeartbeats 1600000 in
theorem tagr_three (m : Nat) (hm : m = 1 ∨ m = 2) (key : ByteArray) (hk : key.size = 16) (s : ByteArray) (hs : s.size ≤ 1100000) (w : World) :
    Calls Tryz.prog 25 #[.int .i64 3, .int .i64 (m : Int), .string key, .string s] w fun e w' => e = .returned (.tuple #[.string (tagB 3 m key s), .int .i64 0]) ∧ Below w.heap.size w w' := by
  have PA := fun y => padr_good m hm s (by omega) y
  have SZ := fun y => sizer_any 3 y
  rw [show ksz 3 = 16 from rfl] at SZ
  obtain ⟨N, hN⟩ : ∃ N, nbM m s.size = N + 1 := ⟨nbM m s.size - 1, by have := nbM_pos m s.size; omega⟩
  have hN2 : 8 * (N + 1) ≤ 1100009 := by have := nbM_le m s.size; omega
  have hz : (fillB m s).size = 8 * (N + 1) := by rw [fillB_size, hN]
  have hp : (fillL m s.data.toList).length = 8 * (N + 1) := by rw [fillL_len, len_size, hN]
  have CH := fun y => Rc.chain_fore (key.extract 0 8) noughts (fillB m s) (.inl (by rw [ByteArray.size_extract, hk]; rfl)) (rfl : noughts.size = 8) (N + 1) hz (by omega) y
  have eR : rowB (key.extract 0 8).data.toList noughts (fillB m s) (N + 1) = ⟨(chainL (key.data.toList.take 8) z64 (fillL m s.data.toList)).toArray⟩ := by
    rw [rowB, ext_take, noughts_bits, fillB_list, chainL, hp, show 8 * (N + 1) / 8 = N + 1 by omega]
  rw [eR] at CH
  have EX := chain_ext (key.data.toList.take 8) (fillL m s.data.toList) N hp
  have sz : (⟨(chainL (key.data.toList.take 8) z64 (fillL m s.data.toList)).toArray⟩ : ByteArray).size = 8 * N + 8 := by
    show (chainL _ _ _).toArray.size = _
    rw [List.size_toArray, chain_len _ _ _ (N + 1) hp]; omega
  rw [tagB, tagC, if_pos rfl]
  generalize (⟨(chainL (key.data.toList.take 8) z64 (fillL m s.data.toList)).toArray⟩ : ByteArray) = C at *
  have hlc := lastC_len (key.data.toList.take 8) (fillL m s.data.toList)
  generalize lastC (key.data.toList.take 8) (fillL m s.data.toList) = lc at *
  have T1 := fun y => Ru.turn_ref (key.extract 8 key.size) ⟨(byW lc).toArray⟩ true (.inl (by rw [ByteArray.size_extract, hk]; rfl)) 1 (by show (byW lc).toArray.size = 8 * 1; rw [List.size_toArray, byW_len]) (by decide) y
  rw [turn_one _ _ _ hlc, ext_drop] at T1
  rw [show Rl.cph (key.data.toList.drop 8) true lc = dec (key.data.toList.drop 8) lc from rfl] at T1
  have hld := dec_len (key.data.toList.drop 8) lc
  generalize dec (key.data.toList.drop 8) lc = ld at *
  have T2 := fun y => Ru.turn_ref (key.extract 0 8) ⟨(byW ld).toArray⟩ false (.inl (by rw [ByteArray.size_extract, hk]; rfl)) 1 (by show (byW ld).toArray.size = 8 * 1; rw [List.size_toArray, byW_len]) (by decide) y
  rw [turn_one _ _ _ hld, ext_take] at T2
  rw [show Rl.cph (key.data.toList.take 8) false ld = enc (key.data.toList.take 8) ld from rfl] at T2
  generalize (⟨(byW (enc (key.data.toList.take 8) ld)).toArray⟩ : ByteArray) = T at *
  generalize (⟨(byW ld).toArray⟩ : ByteArray) = M at *
  generalize (⟨(byW lc).toArray⟩ : ByteArray) = L at *
  generalize fillB m s = F at *
  have hX : C.extract (C.size - 8) C.size = L := by rw [sz, show 8 * N + 8 - 8 = 8 * N by omega]; exact EX
  have q1 : (8 : Int) ≤ (C.size : Int) := by omega
  have q2 : (C.size : Int) ≤ 1000000010 := by omega
  have q3 : ((key.size : Int) != 16) = false := by simp only [bne_eq_false_iff_eq]; omega
  have q4 : (8 : Int) ≤ (key.size : Int) := by omega
  clear EX sz hp hz hN hm hN2 hk eR
  have hmk := made8 w
  have hcv := conv8 w
  have hb0 : Below w.heap.size w ((w.alloc (Obj.cells (Pd.R (List.replicate 8 0)) 5)).drew) := (below_one w _).drew
  generalize (w.alloc (Obj.cells (Pd.R (List.replicate 8 0)) 5)).drew = W1 at *
  go_enter Tryz.func25, Tryz.ntmps25
  go_wp2_with (first
    | (go_at_call 41; refine (PA _).mono ?_; rintro e x ⟨rfl, hx⟩; rw [hx])
    | (go_at_call 28; refine (SZ _).mono ?_; rintro e x ⟨rfl, hx⟩; rw [hx]))
  go_region_with (go_at_call 42; refine (CH _).mono ?_; rintro e y ⟨rfl, hy⟩)
  all_goals (
    go_wp2_with (first
      | (go_at_call_of 43 (Value.bool true); refine (T1 _).mono ?_; rintro e z1 ⟨rfl, hz1⟩)
      | (go_at_call 43; refine (T2 _).mono ?_; rintro e z2 ⟨rfl, hz2⟩))
    exact bodyPost_ret (v := .tuple #[.string T, .int .i64 0]) (by simp [results, Tryz.results25, go_sem]) rfl ⟨rfl, keepB (keepB (keepB hb0 hy) hz1) hz2⟩)
theorem tagr_good (alg m : Nat) (ha : alg = 1 ∨ alg = 3) (hm : m = 1 ∨ m = 2) (key : ByteArray) (hk : key.size = 4 + 4 * alg) (s : ByteArray) (hs : s.size ≤ 1100000) (w : World) :
    Calls Tryz.prog 25 #[.int .i64 (alg : Int), .int .i64 (m : Int), .string key, .string s] w fun e w' => e = .returned (.tuple #[.string (tagB alg m key s), .int .i64 0]) ∧ Below w.heap.size w w' := by
  rcases ha with rfl | rfl
  · exact tagr_one m hm key (by omega) s hs w
  · exact tagr_three m hm key (by omega) s hs w
/-- refused -/
theorem tagr_arg (a b : Int) (h : ((ksz a == 0) || !(b == 1 || b == 2)) = true) (key s : ByteArray) (hs : s.size ≤ 1100000) (w : World) :
    Calls Tryz.prog 25 #[.int .i64 a, .int .i64 b, .string key, .string s] w fun e w' => e = .returned (.tuple #[.string ⟨#[]⟩, .int .i64 1]) ∧ Below w.heap.size w w' := by
  have SZ := fun y => sizer_any a y
  by_cases hb : b = 1 ∨ b = 2
  · obtain ⟨m, hm, rfl⟩ : ∃ m : Nat, (m = 1 ∨ m = 2) ∧ b = (m : Int) := by
      rcases hb with rfl | rfl
      · exact ⟨1, .inl rfl, rfl⟩
      · exact ⟨2, .inr rfl, rfl⟩
    have hz : (ksz a == 0) = true := by rcases hm with rfl | rfl <;> simpa using h
    have PA := fun y => padr_good m hm s (by omega) y
    generalize fillB m s = F at *
    clear h hb hm
    go_enter Tryz.func25, Tryz.ntmps25
    go_wp2_with (first
      | (go_at_call 41; refine (PA _).mono ?_; rintro e x ⟨rfl, hx⟩; rw [hx])
      | (go_at_call 28; refine (SZ _).mono ?_; rintro e x ⟨rfl, hx⟩; rw [hx]))
    exact bodyPost_ret (v := .tuple #[.string ⟨#[]⟩, .int .i64 1]) (by simp [results, Tryz.results25, go_sem]) rfl ⟨rfl, Below.refl _ _⟩
  · have PA := fun y => padr_bad b (by simp only [beq_eq_false_iff_ne]; omega) (by simp only [beq_eq_false_iff_ne]; omega) s y
    clear h hb
    by_cases hz : (ksz a == 0) = true
    · go_enter Tryz.func25, Tryz.ntmps25
      go_wp2_with (first
        | (go_at_call 41; refine (PA _).mono ?_; rintro e x ⟨rfl, hx⟩; rw [hx])
        | (go_at_call 28; refine (SZ _).mono ?_; rintro e x ⟨rfl, hx⟩; rw [hx]))
      exact bodyPost_ret (v := .tuple #[.string ⟨#[]⟩, .int .i64 1]) (by simp [results, Tryz.results25, go_sem]) rfl ⟨rfl, Below.refl _ _⟩
    · have hz' : (ksz a == 0) = false := by simpa using hz
      clear hz
      go_enter Tryz.func25, Tryz.ntmps25
      go_wp2_with (first
        | (go_at_call 41; refine (PA _).mono ?_; rintro e x ⟨rfl, hx⟩; rw [hx])
        | (go_at_call 28; refine (SZ _).mono ?_; rintro e x ⟨rfl, hx⟩; rw [hx]))
      exact bodyPost_ret (v := .tuple #[.string ⟨#[]⟩, .int .i64 1]) (by simp [results, Tryz.results25, go_sem]) rfl ⟨rfl, Below.refl _ _⟩
theorem tagr_key (a : Int) (m : Nat) (hm : m = 1 ∨ m = 2) (ha : (ksz a == 0) = false) (key s : ByteArray) (hk : ((key.size : Int) != ksz a) = true) (hs : s.size ≤ 1100000) (w : World) :
    Calls Tryz.prog 25 #[.int .i64 a, .int .i64 (m : Int), .string key, .string s] w fun e w' => e = .returned (.tuple #[.string ⟨#[]⟩, .int .i64 30]) ∧ Below w.heap.size w w' := by
  have SZ := fun y => sizer_any a y
  have PA := fun y => padr_good m hm s (by omega) y
  generalize fillB m s = F at *
  clear hm
  go_enter Tryz.func25, Tryz.ntmps25
  go_wp2_with (first
    | (go_at_call 41; refine (PA _).mono ?_; rintro e x ⟨rfl, hx⟩; rw [hx])
    | (go_at_call 28; refine (SZ _).mono ?_; rintro e x ⟨rfl, hx⟩; rw [hx]))
  exact bodyPost_ret (v := .tuple #[.string ⟨#[]⟩, .int .i64 30]) (by simp [results, Tryz.results25, go_sem]) rfl ⟨rfl, Below.refl _ _⟩
end Go.Proofs.YtpifebapodfeaaaGreat.Rg
/- The document's slots: Put. -/
namespace Go.Proofs.YtpifebapodfeaaaGreat.Df
set_option linter.unusedVariables false
open Go.RowKit Pla Cb Sm Wd Nw Bk Eb Et Cc Ch Pm Fp Sp Pe Se Tg Sd Sq Sr Dd De Rg
theorem some6 (o : Option Held) : ∃ v0 v1 v2 v3 v4 v5, dC o = #[v0, v1, v2, v3, v4, v5] := by
  cases o with
  | none => exact ⟨_, _, _, _, _, _, rfl⟩
  | some h => exact ⟨_, _, _, _, _, _, rfl⟩
def set6 (w : World) (d o : Nat) (v0 v1 v2 v3 v4 v5 : Value) : World := (((((w.setCell ⟨d, o, Option.none⟩ v0).setCell ⟨d, o + 1, Option.none⟩ v1).setCell ⟨d, o + 2, Option.none⟩ v2).setCell ⟨d, o + 3, Option.none⟩ v3).setCell ⟨d, o + 4, Option.none⟩ v4).setCell ⟨d, o + 5, Option.none⟩ v5
theorem set6_fr (w : World) (d o : Nat) (v0 v1 v2 v3 v4 v5 : Value) : Fr d d w (set6 w d o v0 v1 v2 v3 v4 v5) :=
  (((((Fr.set1 d d w o v0).trans (Fr.set1 d d _ (o + 1) v1)).trans (Fr.set1 d d _ (o + 2) v2)).trans (Fr.set1 d d _ (o + 3) v3)).trans (Fr.set1 d d _ (o + 4) v4)).trans (Fr.set1 d d _ (o + 5) v5)
theorem dmu_ne {w : World} {b d n : Nat} {A : Array Value} (hm : DMu w b d n) (hd : w.heap[d]? = some (.cells A 67)) : b ≠ d := ne_of_type hm hd (by decide)
/-- one slot written anew -/
theorem dput {w : World} {b d n s : Nat} {f : Nat → Option Held} {A : Array Value} (hm : DMu w b d n) (n1 : 1 ≤ n) (n2 : n ≤ 32) (hr : DRow w d n f A) (hs : s < n) (o : Option Held) (v0 v1 v2 v3 v4 v5 : Value) (e : dC o = #[v0, v1, v2, v3, v4, v5]) :
    DSlots (set6 w d (s * 6) v0 v1 v2 v3 v4 v5) b d n (upd f s o) := by
  have hne := dmu_ne hm hr.2.1
  have F := set6_fr w d (s * 6) v0 v1 v2 v3 v4 v5
  have d6 := setCell_heap (setCell_heap (setCell_heap (setCell_heap (setCell_heap (setCell_heap hr.2.1 (s * 6) v0) (s * 6 + 1) v1) (s * 6 + 2) v2) (s * 6 + 3) v3) (s * 6 + 4) v4) (s * 6 + 5) v5
  have sz := hr.1
  refine ⟨F.keep hm hne hne, n1, n2, _, by simp [sz], d6, fun i hi j hj => ?_⟩
  simp only [Array.getElem?_setIfInBounds, Array.size_setIfInBounds]
  by_cases ei : i = s
  · subst ei
    rw [upd, if_pos rfl, e]
    match j, hj with
    | 0, _ => rw [if_neg (by omega), if_neg (by omega), if_neg (by omega), if_neg (by omega), if_neg (by omega), if_pos (by omega), if_pos (by omega)]; rfl
    | 1, _ => rw [if_neg (by omega), if_neg (by omega), if_neg (by omega), if_neg (by omega), if_pos (by omega), if_pos (by omega)]; rfl
    | 2, _ => rw [if_neg (by omega), if_neg (by omega), if_neg (by omega), if_pos (by omega), if_pos (by omega)]; rfl
    | 3, _ => rw [if_neg (by omega), if_neg (by omega), if_pos (by omega), if_pos (by omega)]; rfl
    | 4, _ => rw [if_neg (by omega), if_pos (by omega), if_pos (by omega)]; rfl
    | 5, _ => rw [if_pos (by omega), if_pos (by omega)]; rfl
  · rw [upd, if_neg ei, if_neg (by omega), if_neg (by omega), if_neg (by omega), if_neg (by omega), if_neg (by omega), if_neg (by omega)]
    exact hr.2.2 i hi j hj
set_option maxRecDepth 100000 in
set_option maxHeartbeats 1600000 in
theorem Putr_good (b d n s : Nat) (f : Nat → Option Held) (hs : s < n) (alg m : Nat) (ha : alg = 1 ∨ alg = 3) (hm' : m = 1 ∨ m = 2) (key ex : ByteArray) (hk : key.size = 4 + 4 * alg) (hx : ex.size = 0 ∨ ex.size = 16) (w : World) (hS : DSlots w b d n f) :
    Calls Tryz.prog 14 #[.pointer (some ⟨b, 0, Option.none⟩), .int .i64 (s : Int), .int .i64 (alg : Int), .int .i64 (m : Int), .string key, .string ex] w fun e w' => e = .returned (.int .i64 0) ∧ DSlots w' b d n (upd f s (Option.some ⟨alg, m, key, ex, 0⟩)) ∧ Fr d d w w' := by
  obtain ⟨hm, n1, n2, A, hr⟩ := hS
  obtain ⟨v0, v1, v2, v3, v4, v5, e6⟩ := some6 (f s)
  obtain ⟨c0, c1, c2, c3, c4, c5⟩ := six hr hs _ _ _ _ _ _ e6
  have cb := DMu.cell hm
  have fz := fun j => Pd.R_frozen hr.2.1 j
  have f0 := fz (s * 6)
  have f1 := fz (s * 6 + 1)
  have f2 := fz (s * 6 + 2)
  have f3 := fz (s * 6 + 3)
  have f4 := fz (s * 6 + 4)
  have f5 := fz (s * 6 + 5)
  have SZ := fun y => sizer_any (alg : Int) y
  have hks : ksz (alg : Int) = (key.size : Int) := by rw [hk]; rcases ha with rfl | rfl <;> rfl
  rw [hks] at SZ
  have q0 : ¬ (s : Int) < 0 := by omega
  have q1 : ¬ (s : Int) ≥ (n : Int) := by omega
  have q2 : (s : Int) < (n : Int) := by omega
  have q3 : (0 : Int) ≤ (s : Int) := by omega
  have q4 : ((key.size : Int) == 0) = false := by simp only [beq_eq_false_iff_ne]; omega
  have q5 : ¬ (m : Int) < 1 := by omega
  have q6 : ¬ (m : Int) > 2 := by omega
  have q7 : ((key.size : Int) != (key.size : Int)) = false := by simp
  have FIN := dput hm n1 n2 hr hs (Option.some ⟨alg, m, key, ex, 0⟩) (.bool true) (.int .i64 (alg : Int)) (.int .i64 (m : Int)) (.string key) (.string ex) (.int .i64 0) rfl
  have FF := set6_fr w d (s * 6) (.bool true) (.int .i64 (alg : Int)) (.int .i64 (m : Int)) (.string key) (.string ex) (.int .i64 0)
  clear fz e6 hks
  by_cases hx0 : ex.size = 0
  · have r1 : ((ex.size : Int) != 0) = false := by rw [hx0]; rfl
    clear hx hx0 ha hm' hk hs hm hr
    go_enter Tryz.func14, Tryz.ntmps14
    go_wp2_with (go_at_call 28; refine (SZ _).mono ?_; rintro e w' ⟨rfl, rfl⟩)
    go_ret
    exact ⟨rfl, FIN, FF⟩
  · have hx16 : ex.size = 16 := by omega
    have r1 : ((ex.size : Int) != 0) = true := by rw [hx16]; rfl
    have r2 : ((ex.size : Int) != 16) = false := by rw [hx16]; rfl
    clear hx hx0 hx16 ha hm' hk hs hm hr
    go_enter Tryz.func14, Tryz.ntmps14
    go_wp2_with (go_at_call 28; refine (SZ _).mono ?_; rintro e w' ⟨rfl, rfl⟩)
    go_ret
    exact ⟨rfl, FIN, FF⟩
set_option maxRecDepth 100000 in
set_option maxHeartbeats 1600000 in
theorem Putr_slot (b d n : Nat) (f : Nat → Option Held) (a al mt : Int) (ha : a < 0 ∨ (n : Int) ≤ a) (key ex : ByteArray) (w : World) (hS : DSlots w b d n f) :
    Calls Tryz.prog 14 #[.pointer (some ⟨b, 0, Option.none⟩), .int .i64 a, .int .i64 al, .int .i64 mt, .string key, .string ex] w fun e w' => e = .returned (.int .i64 40) ∧ w' = w := by
  have cb := DMu.cell hS.1
  clear hS
  by_cases h0 : a < 0
  · clear ha
    go_enter Tryz.func14, Tryz.ntmps14
    go_wp2
    go_ret
    exact ⟨rfl, rfl⟩
  · have q1 : a ≥ (n : Int) := by omega
    have q2 : (n : Int) ≤ a := by omega
    clear ha
    go_enter Tryz.func14, Tryz.ntmps14
    go_wp2
    go_ret
    exact ⟨rfl, rfl⟩
set_option maxRecDepth 100000 in
set_option maxHeartbeats 1600000 in
theorem Putr_arg (b d n s : Nat) (f : Nat → Option Held) (hs : s < n) (al mt : Int) (h : ksz al = 0 ∨ mt < 1 ∨ 2 < mt) (key ex : ByteArray) (w : World) (hS : DSlots w b d n f) :
    Calls Tryz.prog 14 #[.pointer (some ⟨b, 0, Option.none⟩), .int .i64 (s : Int), .int .i64 al, .int .i64 mt, .string key, .string ex] w fun e w' => e = .returned (.int .i64 1) ∧ w' = w := by
  have cb := DMu.cell hS.1
  have n2 := hS.2.2.1
  have SZ := fun y => sizer_any al y
  have q0 : ¬ (s : Int) < 0 := by omega
  have q1 : ¬ (s : Int) ≥ (n : Int) := by omega
  have q2 : (s : Int) < (n : Int) := by omega
  generalize ksz al = K at *
  clear hS hs
  by_cases hz : K = 0
  · have r1 : (K == 0) = true := by simpa using hz
    clear h hz
    go_enter Tryz.func14, Tryz.ntmps14
    go_wp2_with (go_at_call 28; refine (SZ _).mono ?_; rintro e w' ⟨rfl, rfl⟩)
    go_ret
    exact ⟨rfl, rfl⟩
  · have r1 : (K == 0) = false := by simpa using hz
    by_cases hm1 : mt < 1
    · clear h hz
      go_enter Tryz.func14, Tryz.ntmps14
      go_wp2_with (go_at_call 28; refine (SZ _).mono ?_; rintro e w' ⟨rfl, rfl⟩)
      go_ret
      exact ⟨rfl, rfl⟩
    · have hm2 : mt > 2 := by omega
      clear h hz
      go_enter Tryz.func14, Tryz.ntmps14
      go_wp2_with (go_at_call 28; refine (SZ _).mono ?_; rintro e w' ⟨rfl, rfl⟩)
      go_ret
      exact ⟨rfl, rfl⟩
set_option maxRecDepth 100000 in
set_option maxHeartbeats 1600000 in
theorem Putr_key (b d n s : Nat) (f : Nat → Option Held) (hs : s < n) (al mt : Int) (hz : ksz al ≠ 0) (hm1 : ¬ mt < 1) (hm2 : ¬ mt > 2) (key ex : ByteArray) (h : (key.size : Int) ≠ ksz al ∨ (ex.size ≠ 0 ∧ ex.size ≠ 16)) (w : World) (hS : DSlots w b d n f) :
    Calls Tryz.prog 14 #[.pointer (some ⟨b, 0, Option.none⟩), .int .i64 (s : Int), .int .i64 al, .int .i64 mt, .string key, .string ex] w fun e w' => e = .returned (.int .i64 30) ∧ w' = w := by
  have cb := DMu.cell hS.1
  have n2 := hS.2.2.1
  have SZ := fun y => sizer_any al y
  have q0 : ¬ (s : Int) < 0 := by omega
  have q1 : ¬ (s : Int) ≥ (n : Int) := by omega
  have q2 : (s : Int) < (n : Int) := by omega
  generalize ksz al = K at *
  have r1 : (K == 0) = false := by simpa using hz
  clear hS hs hz
  by_cases hk : (key.size : Int) = K
  · have hx : ex.size ≠ 0 ∧ ex.size ≠ 16 := by
      rcases h with h | h
      · exact absurd hk h
      · exact h
    have r2 : ((key.size : Int) != K) = false := by simpa using hk
    have r3 : ((ex.size : Int) != 0) = true := by simp only [bne_iff_ne]; omega
    have r4 : ((ex.size : Int) != 16) = true := by simp only [bne_iff_ne]; omega
    clear h hx hk
    go_enter Tryz.func14, Tryz.ntmps14
    go_wp2_with (go_at_call 28; refine (SZ _).mono ?_; rintro e w' ⟨rfl, rfl⟩)
    go_ret
    exact ⟨rfl, rfl⟩
  · have r2 : ((key.size : Int) != K) = true := by simpa using hk
    clear h hk
    go_enter Tryz.func14, Tryz.ntmps14
    go_wp2_with (go_at_call 28; refine (SZ _).mono ?_; rintro e w' ⟨rfl, rfl⟩)
    go_ret
    exact ⟨rfl, rfl⟩
end Go.Proofs.YtpifebapodfeaaaGreat.Df
/- Odd, Weak. -/
namespace Go.Proofs.YtpifebapodfeaaaGreat.Od
set_option linter.unusedVariables false
open Go.RowKit Pla Cb Tk Sm Wd Nw Bk Aw Eb Et Xo
/-- a byte with its lowest bit such that its ones are odd -/
def oddC (c : UInt8) : UInt8 := if Lib.onesCount c.toNat % 2 = 0 then c ^^^ 1 else c
def oddL (l : List UInt8) : List UInt8 := l.map oddC
theorem oddL_len (l : List UInt8) : (oddL l).length = l.length := by simp [oddL]
theorem xor1 (x : UInt8) : bits .xor .u8 (x.toNat : Int) 1 = ((x ^^^ 1).toNat : Int) := by
  have := u8_xor_nat x.toNat 1 x.toNat_lt (by decide)
  rw [UInt8.toNat_xor]; exact this
/-- the row while it is gone through -/
def Row (s : ByteArray) (j : Nat) (A : Array Value) : Prop := s.size ≤ A.size ∧ ∀ i (h : i < s.size), A[i]? = some (.int .u8 ((if i < j then oddC s[i] else s[i]).toNat : Int))
theorem row_zero (s : ByteArray) (C : Nat) : Row s 0 (bytesRow s C) := by
  refine ⟨by simp [bytesRow], fun i h => ?_⟩
  rw [bytesRow_at s C i h, if_neg (by omega)]; rfl
theorem row_same (s : ByteArray) (j : Nat) (A : Array Value) (h : Row s j A) (hj : j < s.size) (he : oddC s[j] = s[j]) : Row s (j + 1) A := by
  refine ⟨h.1, fun i hi => ?_⟩
  rw [h.2 i hi]
  by_cases c : i < j
  · rw [if_pos c, if_pos (by omega)]
  · by_cases c2 : i = j
    · subst c2; rw [if_neg (by omega), if_pos (by omega), he]
    · rw [if_neg c, if_neg (by omega)]
theorem row_set (s : ByteArray) (j : Nat) (A : Array Value) (h : Row s j A) (hj : j < s.size) (v : UInt8) (he : oddC s[j] = v) : Row s (j + 1) (A.setIfInBounds j (.int .u8 (v.toNat : Int))) := by
  refine ⟨by simpa using h.1, fun i hi => ?_⟩
  rw [Array.getElem?_setIfInBounds]
  by_cases c2 : j = i
  · subst c2; rw [if_pos rfl, if_pos (by have := h.1; omega), if_pos (by omega), he]
  · rw [if_neg c2, h.2 i hi]
    by_cases c : i < j
    · rw [if_pos c, if_pos (by omega)]
    · rw [if_neg c, if_neg (by omega)]
theorem row_str {P : Program} {w : World} {src dst e : TypeId} {g C : Nat} {s : ByteArray} {A : Array Value} {t : TypeId} {fr : Nat × Nat} (h : Row s s.size A) (hs : P.underlying src = some (.slice e)) (he : P.underlying e = some (.int .u8)) (hd : P.underlying dst = some .string)
    (hg : w.heap[g]? = some (.cells A t fr)) : (convert src dst (.slice (some ⟨g, 0, none⟩) s.size C)).run P w = .ok (.string ⟨(oddL s.data.toList).toArray⟩) w := by
  have hl : (oddL s.data.toList).length = s.size := by rw [oddL_len]; simp
  have hh := run_convert_bytes_back (P := P) w src dst e ⟨g, 0, none⟩ C (oddL s.data.toList) hs he hd (fun j hj => by
    have hj' : j < s.size := by rwa [hl] at hj
    rw [show (⟨g, 0, none⟩ : Addr).add j = ⟨g, j, none⟩ by unfold Addr.add; split <;> simp_all, cell_of_row w g j _ t fr hg, h.2 j hj', if_pos hj']
    simp [oddL]; rfl)
  rw [hl] at hh
  exact hh
set_option maxRecDepth 100000 in
set_option maxHeartbeats 1600000 in
theorem odd_any (s : ByteArray) (hs : s.size ≤ 1099511627776) (w : World) :
    Calls Tryz.prog 93 #[.string s] w fun e w' => e = .returned (.string ⟨(oddL s.data.toList).toArray⟩) ∧ Below w.heap.size w w' := by
  have cv := run_bytes_of_string (P := Tryz.prog) w 9 75 5 s Tryz.underlying9 Tryz.underlying75 Tryz.underlying5
  have rz := row_zero s (grownCap w s.size 0 5)
  generalize bytesRow s (grownCap w s.size 0 5) = A0 at *
  generalize grownCap w s.size 0 5 = C at *
  have hz : A0.size = A0.size := rfl
  generalize hn : A0.size = n0 at cv
  have g0 : (w.drew.alloc (.cells A0 5 (n0, n0 + 1))).heap[w.heap.size]? = some (.cells A0 5 (n0, n0 + 1)) := h1_0 w.drew _
  have b0 : Below w.heap.size w (w.drew.alloc (.cells A0 5 (n0, n0 + 1))) := ((Below.refl _ w).drew).alloc (Nat.le_refl _) _
  generalize w.drew.alloc (.cells A0 5 (n0, n0 + 1)) = W0 at *
  go_enter Tryz.func93, Tryz.ntmps93
  go_wp2
  go_loopw [4, 5, 10] (fun i cc c wr => ∃ (j : Nat) (A : Array Value), j ≤ s.size ∧ c = .int .i64 (j : Int) ∧ Row s j A ∧ A.size = n0 ∧ wr.heap[w.heap.size]? = some (.cells A 5 (n0, n0 + 1)) ∧ Below w.heap.size w wr) (fun _ _ c _ => s.size + 1 - (intOf c).toNat)
  case atStart => exact ⟨0, A0, Nat.zero_le _, rfl, rz, hn, g0, b0⟩
  case round =>
    obtain ⟨j, A, hj, rfl, hA, hAs, hg, hb⟩ := hrel
    by_cases hlt : j < s.size
    · have q0 : (0 : Int) ≤ (j : Int) := by omega
      have q1 : (j : Int) < (s.size : Int) := by omega
      have c0 : wr.cell? ⟨w.heap.size, j, none⟩ = some (.int .u8 (s[j].toNat : Int)) := by rw [cell_of_row wr _ j _ _ _ hg, hA.2 j hlt, if_neg (by omega)]
      have f0 : wr.frozen? ⟨w.heap.size, j, none⟩ = false := by
        have := hA.1
        simp [World.frozen?, hg]; omega
      have x0 : (0 : Int) ≤ (s[j].toNat : Int) := by omega
      have x1 : (s[j].toNat : Int) ≤ 255 := by have := s[j].toNat_lt; omega
      have OC := fun u => Tryz.bits_OnesCount8 (s[j].toNat : Int) u x0 x1
      rw [Int.toNat_natCast] at OC
      have u1 := xor1 s[j]
      by_cases hev : Lib.onesCount s[j].toNat % 2 = 0
      · have z : (((Lib.onesCount s[j].toNat : Nat) : Int) % 2 == 0) = true := beq_iff_eq.mpr (by omega)
        have HR : Hid (Row s (j + 1) (A.setIfInBounds j (.int .u8 ((s[j] ^^^ 1).toNat : Int)))) := row_set s j A hA hlt _ (by rw [oddC, if_pos hev])
        have hsz : (A.setIfInBounds j (.int .u8 ((s[j] ^^^ 1).toNat : Int))).size = n0 := by simpa using hAs
        have HG := setCell_heap hg j (.int .u8 ((s[j] ^^^ 1).toNat : Int))
        have HB := below_setCell hb (Nat.le_refl w.heap.size) j (.int .u8 ((s[j] ^^^ 1).toNat : Int))
        generalize (s[j] ^^^ 1).toNat = v at *
        generalize Lib.onesCount s[j].toNat = oc at *
        generalize s[j].toNat = x at *
        clear hev hA hg hb cv
        go_wp2_with (go_at_call 107; refine (OC _).mono ?_; rintro e y ⟨rfl, hy⟩; rw [hy])
        exact ⟨⟨j + 1, _, hlt, by simp, HR.out, hsz, HG, HB⟩, by simp only [intOf]; omega⟩
      · have z : (((Lib.onesCount s[j].toNat : Nat) : Int) % 2 == 0) = false := beq_eq_false_iff_ne.mpr (by omega)
        have HR : Hid (Row s (j + 1) A) := row_same s j A hA hlt (by rw [oddC, if_neg hev])
        generalize (s[j] ^^^ 1).toNat = v at *
        generalize Lib.onesCount s[j].toNat = oc at *
        generalize s[j].toNat = x at *
        clear hev hA cv
        go_wp2_with (go_at_call 107; refine (OC _).mono ?_; rintro e y ⟨rfl, hy⟩; rw [hy])
        exact ⟨⟨j + 1, A, hlt, by simp, HR.out, hAs, hg, hb⟩, by simp only [intOf]; omega⟩
    · obtain rfl : j = s.size := by omega
      have cs := row_str (P := Tryz.prog) (src := 75) (dst := 9) (e := 5) (C := C) hA Tryz.underlying75 Tryz.underlying5 Tryz.underlying9 hg
      have q1 : ¬ (s.size : Int) < (s.size : Int) := by omega
      clear cv hA
      go_wp2
      go_ret
      exact ⟨rfl, hb⟩
end Go.Proofs.YtpifebapodfeaaaGreat.Od
/- Weak. -/
namespace Go.Proofs.YtpifebapodfeaaaGreat.Wk
set_option linter.unusedVariables false
open Go.RowKit Pla Cb Tk Sm Wd Nw Bk Aw Eb Et Xo Od
def k1 : List UInt8 := [1, 1, 1, 1, 1, 1, 1, 1]
def k2 : List UInt8 := [254, 254, 254, 254, 254, 254, 254, 254]
def k3 : List UInt8 := [224, 224, 224, 224, 241, 241, 241, 241]
def k4 : List UInt8 := [31, 31, 31, 31, 14, 14, 14, 14]
def oddP (s : ByteArray) (i : Nat) : ByteArray := ⟨(oddL (pt s.data.toList i)).toArray⟩
def isW (x : ByteArray) : Bool := (x.toList == k1) || (x.toList == k2) || (x.toList == k3) || (x.toList == k4)
def wkU (s : ByteArray) (j : Nat) : Bool := (List.range j).any fun i => isW (oddP s i)
theorem wkU_succ (s : ByteArray) (j : Nat) : wkU s (j + 1) = (wkU s j || isW (oddP s j)) := by simp [wkU, List.range_succ]
theorem wkU_mono (s : ByteArray) (j K : Nat) (h : j < K) (hw : isW (oddP s j) = true) : wkU s K = true := by
  rw [wkU, List.any_eq_true]; exact ⟨j, List.mem_range.2 h, hw⟩
set_option maxRecDepth 100000 in
set_option maxHeartbeats 1600000 in
theorem weak_any (s : ByteArray) (w : World) :
    Calls Tryz.prog 71 #[.string s] w fun e w' => e = .returned (.bool (wkU s (kindN s.size))) ∧ Below w.heap.size w w' := by
  have hsz : 8 * kindN s.size ≤ s.size := by
    unfold kindN
    split
    · omega
    · split
      · omega
      · split <;> omega
  have h3 : kindN s.size ≤ 3 := by
    unfold kindN
    split
    · omega
    · split
      · omega
      · split <;> omega
  have KI := fun u => kind_any s u
  generalize kindN s.size = K at *
  go_enter Tryz.func71, Tryz.ntmps71
  go_wp2_with (go_at_call 67; refine (KI _).mono ?_; rintro e x ⟨rfl, hx⟩; rw [hx])
  go_loopw [3, 6] (fun i c wr => ∃ j : Nat, j ≤ K ∧ c = .int .i64 (j : Int) ∧ Hid (wkU s j = false) ∧ Below w.heap.size w wr) (fun _ c _ => 4 - (intOf c).toNat)
  case atStart => exact ⟨0, Nat.zero_le _, rfl, rfl, Below.refl _ _⟩
  case round =>
    obtain ⟨j, hj, rfl, hwk, hb⟩ := hrel
    by_cases hlt : j < K
    · have q0 : (0 : Int) ≤ (j : Int) := by omega
      have q1 : (j : Int) < (K : Int) := by omega
      have PA := fun u => part_any s j (by omega) (by omega) u
      have hps : (s.extract (8 * j) (8 * j + 8)).size ≤ 1099511627776 := by rw [ByteArray.size_extract]; omega
      have OD := fun u => odd_any (s.extract (8 * j) (8 * j + 8)) hps u
      have e0 : (s.extract (8 * j) (8 * j + 8)).data.toList = pt s.data.toList j := by
        rw [pt, ByteArray.data_extract, Array.toList_extract, List.extract_eq_take_drop, show 8 * j + 8 - 8 * j = 8 by omega]
      rw [e0] at OD
      have OD : ∀ u, Calls Tryz.prog 93 #[.string (s.extract (8 * j) (8 * j + 8))] u fun e w' => e = .returned (.string (oddP s j)) ∧ Below u.heap.size u w' := OD
      have HS : Hid (wkU s (j + 1) = (wkU s j || isW (oddP s j))) := wkU_succ s j
      have HM : Hid (isW (oddP s j) = true → wkU s K = true) := wkU_mono s j K hlt
      have HI : Hid (isW (oddP s j) = (((oddP s j).toList == [1, 1, 1, 1, 1, 1, 1, 1]) || ((oddP s j).toList == [254, 254, 254, 254, 254, 254, 254, 254]) || ((oddP s j).toList == [224, 224, 224, 224, 241, 241, 241, 241]) || ((oddP s j).toList == [31, 31, 31, 31, 14, 14, 14, 14]))) := rfl
      generalize oddP s j = X at *
      clear e0 hps
      cases x1 : (X.toList == [1, 1, 1, 1, 1, 1, 1, 1])
      · cases x2 : (X.toList == [254, 254, 254, 254, 254, 254, 254, 254])
        · cases x3 : (X.toList == [224, 224, 224, 224, 241, 241, 241, 241])
          · cases x4 : (X.toList == [31, 31, 31, 31, 14, 14, 14, 14])
            · have hF : Hid (wkU s (j + 1) = false) := (by rw [HS.out, hwk.out, HI.out, x1, x2, x3, x4]; rfl : wkU s (j + 1) = false)
              clear HM HI HS hwk
              go_wp2_with (first
          | (go_at_call 69; refine (PA _).mono ?_; rintro e y1 ⟨rfl, hy1⟩; rw [hy1])
          | (go_at_call 93; refine (OD _).mono ?_; rintro e y2 ⟨rfl, h2⟩))
              exact ⟨⟨j + 1, hlt, by simp, hF.out, keepB hb h2⟩, by simp only [intOf]; omega⟩
            · have hT : wkU s K = true := HM.out (by rw [HI.out, x1, x2, x3, x4]; simp)
              have HT : Hid (wkU s K = true) := hT
              clear hT HM HI HS hwk
              go_wp2_with (first
          | (go_at_call 69; refine (PA _).mono ?_; rintro e y1 ⟨rfl, hy1⟩; rw [hy1])
          | (go_at_call 93; refine (OD _).mono ?_; rintro e y2 ⟨rfl, h2⟩))
              go_ret
              exact ⟨by rw [HT.out]; rfl, keepB hb h2⟩
          · have hT : wkU s K = true := HM.out (by rw [HI.out, x1, x2, x3]; simp)
            have HT : Hid (wkU s K = true) := hT
            clear hT HM HI HS hwk
            go_wp2_with (first
          | (go_at_call 69; refine (PA _).mono ?_; rintro e y1 ⟨rfl, hy1⟩; rw [hy1])
          | (go_at_call 93; refine (OD _).mono ?_; rintro e y2 ⟨rfl, h2⟩))
            go_ret
            exact ⟨by rw [HT.out]; rfl, keepB hb h2⟩
        · have hT : wkU s K = true := HM.out (by rw [HI.out, x1, x2]; simp)
          have HT : Hid (wkU s K = true) := hT
          clear hT HM HI HS hwk
          go_wp2_with (first
          | (go_at_call 69; refine (PA _).mono ?_; rintro e y1 ⟨rfl, hy1⟩; rw [hy1])
          | (go_at_call 93; refine (OD _).mono ?_; rintro e y2 ⟨rfl, h2⟩))
          go_ret
          exact ⟨by rw [HT.out]; rfl, keepB hb h2⟩
      · have hT : wkU s K = true := HM.out (by rw [HI.out, x1]; simp)
        have HT : Hid (wkU s K = true) := hT
        clear hT HM HI HS hwk
        go_wp2_with (first
          | (go_at_call 69; refine (PA _).mono ?_; rintro e y1 ⟨rfl, hy1⟩; rw [hy1])
          | (go_at_call 93; refine (OD _).mono ?_; rintro e y2 ⟨rfl, h2⟩))
        go_ret
        exact ⟨by rw [HT.out]; rfl, keepB hb h2⟩
    · obtain rfl : j = K := by omega
      have q1 : ¬ (j : Int) < (j : Int) := by omega
      go_wp2
      go_ret
      exact ⟨by rw [hwk.out]; rfl, hb⟩
end Go.Proofs.YtpifebapodfeaaaGreat.Wk
