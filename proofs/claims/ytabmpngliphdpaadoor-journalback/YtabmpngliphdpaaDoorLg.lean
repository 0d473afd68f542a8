/- JournalBack: its walk. -/
import Derived.Test.YtabmpngliphdpaaDoorLf
namespace Go.Proofs.YtabmpngliphdpaaDoor.Lg
set_option linter.unusedVariables false
set_option linter.unusedSimpArgs false
open Go.RowKit Go.Shelf Go.Conc Lib0 Kb Ja Jg Bj Jn Jx Ka Kc Kd Ke Kf Kg Kl Km Ko La Lb Lc Ld Lf
attribute [local go_sem] Oper.semAt_some
/-- what the call holds from the first journal on -/
structure Hd (w y : World) (o : Option Addr) (N cap : Nat) (g cap2 : Nat) (Es : List EV) (xs : List En) : Prop where
  bel : Below w.heap.size w y
  lv : Lv y
  row : RowE y (.slice o N cap) Es
  ends : y.ownsRow w.heap.size tI 1 (.slice (some ⟨g, 0, none⟩) (N + 1) cap2) (N + 1) (posV xs (N + 1))
theorem Hd.next {w y z : World} {o : Option Addr} {N cap g cap2 : Nat} {Es : List EV} {xs : List En} (h : Hd w y o N cap g cap2 Es xs) (k : Below y.heap.size y z) : Hd w z o N cap g cap2 Es xs :=
  ⟨keepB h.bel k, h.lv.next k, rowe_below h.row k, Bd.owns_keep h.ends fun p hp => k.block p (h.ends.lt p hp).2⟩
set_option maxRecDepth 100000 in
set_option maxHeartbeats 6400000 in
theorem walk (v0 : Value) (Es0 : List EV) (a1 a2 a3 : Int) (w : World) (hv : RowE w v0 Es0) (hR : ∀ e ∈ Es0, Rw e.1) (hN : Es0.length ≤ 140737488355328) (i1 : i64in a1) (i2 : i64in a2) (i3 : i64in a3) (hT : Lv w) :
    Calls Tryd.prog 6 #[v0, .int .i64 a1, .int .i64 a2, .int .i64 a3] w fun e w' => e = .returned (.bool true) ∧ Below w.heap.size w w' := by
  have HL : Hid (Lv w) := hT
  have HV : Hid (RowE w v0 Es0 ∧ (∀ e ∈ Es0, Rw e.1) ∧ Es0.length ≤ 140737488355328) := ⟨hv, hR, hN⟩
  have HI : Hid (i64in a1 ∧ i64in a2 ∧ i64in a3) := ⟨i1, i2, i3⟩
  clear hv hR hN i1 i2 i3 hT
  go_enter Tryd.func6, Tryd.ntmps6
  go_wp2_with fail
  refine (examples_any w HL.out).mono ?_
  rintro e y1 ⟨rfl, hy1⟩
  have HB1 : Hid (Below w.heap.size w y1) := hy1
  have HSO : Hid (Calls _ _ _ _ _) := some_any y1 v0 Es0 (rowe_below HV.out.1 hy1) HV.out.2.1 HV.out.2.2
  clear hy1
  go_wp2_with fail
  refine HSO.out.mono ?_
  rintro e y2 ⟨v2, rfl, ho2, hb2⟩
  obtain ⟨Es, hEs⟩ : ∃ Es, kept40 Es0 = Es := ⟨_, rfl⟩
  have hmem : ∀ e ∈ Es, e ∈ Es0 ∧ sm e.1 = true := fun e he => kept_mem (hEs ▸ he)
  have hlen : Es.length ≤ 40 := hEs ▸ kept_len Es0
  rw [hEs] at ho2
  have hB2 : Below w.heap.size w y2 := keepB HB1.out hb2
  have hro : ∀ e ∈ Es, RowO y2 e.2 e.1.L := fun e he => by
    obtain ⟨o, cap, _, hc⟩ := HV.out.1
    obtain ⟨i, hi, rfl⟩ := List.getElem_of_mem (hmem e he).1
    exact rowo_below (hc i hi).2 hB2
  have hgd : ∀ e ∈ Es, Ko.Good e.1 := fun e he => ⟨rw_ok (HV.out.2.1 e (hmem e he).1), sm_fits (hmem e he).2⟩
  have hrow : RowE y2 v2 Es := rowe_own ho2 hro
  obtain ⟨N, hN⟩ : ∃ N, Es.length = N := ⟨_, rfl⟩
  obtain ⟨o, cap, rfl, -⟩ := id hrow
  obtain ⟨xs, hxs⟩ : ∃ xs, Es.map (·.1) = xs := ⟨_, rfl⟩
  have hxl : xs.length = N := by rw [← hxs, List.length_map, hN]
  have hgx : ∀ x ∈ xs, Ko.Good x := fun x hx => by rw [← hxs] at hx; obtain ⟨e, he, rfl⟩ := List.mem_map.1 hx; exact hgd e he
  have hmap : ∀ K, (Es.take K).map (fun e => e.1.body.data.toList) = (xs.take K).map (fun x => x.body.data.toList) := fun K => by
    rw [← hxs, ← List.map_take, List.map_map]; rfl
  rw [hN] at hrow hlen ⊢
  have HM : Hid (Calls _ _ _ _ _) := made_any y2 (HL.out.next hB2).hal (.slice o N cap) Es xs hxs hrow hgd (by omega)
  rw [hxl] at HM
  have HE : Hid (Es.length = N ∧ xs.length = N ∧ N ≤ 40 ∧ (∀ x ∈ xs, Ko.Good x) ∧ (∀ e ∈ Es, Ko.Good e.1) ∧ ∀ K, (Es.take K).map (fun e => e.1.body.data.toList) = (xs.take K).map (fun x => x.body.data.toList)) := ⟨hN, hxl, hlen, hgx, hgd, hmap⟩
  have HB2 : Hid (Below w.heap.size w y2) := hB2
  have HR2 : Hid (RowE y2 (.slice o N cap) Es) := hrow
  clear hEs hmem hlen ho2 hb2 hB2 hro hgd hrow hN hxs hxl hgx hmap HSO
  go_wp2_with fail
  refine HM.out.mono ?_
  rintro e y3 ⟨ev, pj, vj, rfl, hj3, he3, hb3⟩
  have HJ3 : Hid (Jo y3 y2.heap.size y2.heap.size pj vj (jbF 0 xs) (N : Int)) := hj3
  have HE3 : Hid (y3.ownsRow y2.heap.size tI 1 ev (N + 1) (posV xs (N + 1))) := he3
  have HB3 : Hid (Below y2.heap.size y2 y3) := hb3
  have hjl : (jbF 0 xs).length ≤ 400000480 := by
    have h1 := pos_le HE.out.2.2.2.1 N (by rw [HE.out.2.1]; omega)
    have h2 := pos_all xs
    rw [HE.out.2.1] at h2
    have h3 := HE.out.2.2.1
    omega
  have HJL : Hid ((jbF 0 xs).length ≤ 400000480) := hjl
  have HBY : Hid (Calls _ _ _ _ _) := bytes_any hj3 (by omega)
  clear hj3 he3 hb3 hjl HM
  go_wp2_with fail
  refine HBY.out.mono ?_
  rintro e y4 ⟨rfl, hj4, hf4⟩
  have hb4 : Below y2.heap.size y2 y4 := HB3.out.trans (hf4.below HJ3.out.base (fun q hq => (HJ3.out.own.lt q hq).1) HB3.out.size)
  have he4 := ends_fj HE3.out HJ3.out hf4
  obtain ⟨g, cap2, hev⟩ : ∃ g cap2, ev = .slice (some ⟨g, 0, none⟩) (N + 1) cap2 := by
    rcases he4.2 with ⟨_, h⟩ | ⟨g, cap, cur, he, _⟩
    · omega
    · exact ⟨g, cap, he⟩
  subst hev
  have hlow : w.heap.size ≤ y2.heap.size := HB2.out.size
  have HD : Hid (Hd w y4 o N cap g cap2 Es xs) := ⟨keepB HB2.out hb4, (HL.out.next HB2.out).next hb4, rowe_below HR2.out hb4, ⟨he4.1, he4.2.imp id (fun ⟨g, cap, cur, e, hb, r⟩ => ⟨g, cap, cur, e, Nat.le_trans hlow hb, r⟩)⟩⟩
  obtain ⟨S, hS⟩ : ∃ S : ByteArray, (⟨(jbF 0 xs).toArray⟩ : ByteArray) = S := ⟨_, rfl⟩
  rw [hS]
  have hSl : S.data.toList = jbF 0 xs := by rw [← hS]
  obtain ⟨Z, hZ⟩ : ∃ Z, S.size = Z := ⟨_, rfl⟩
  have HS : Hid (S.data.toList = jbF 0 xs ∧ S.size = Z ∧ (jbF 0 xs).length = Z ∧ Z ≤ 400000480 ∧ (⟨(jbF 0 xs).toArray⟩ : ByteArray) = S) := ⟨hSl, hZ, by rw [← hSl, ← hZ, size_list], by rw [← hZ, size_list, hSl]; exact HJL.out, hS⟩
  have z0 : (S.size : Int) = (Z : Int) := by rw [hZ]
  have HOP : Hid (Calls _ _ _ _ _) := open_any S (by have := HS.out.2.1; have := HS.out.2.2.2.1; omega) y4 HD.out.lv.hal HD.out.lv.hdl HD.out.lv.err.choose_spec
  clear hj4 hf4 hb4 he4 hlow hS hSl hZ HBY HJ3 HE3 HB3 HR2 HB2 HB1
  go_wp2_with fail
  refine HOP.out.mono ?_
  rintro e y5 ⟨J5, p5, v5, er5, rfl, hj5, hn5, hb5, hB5⟩
  have hca := ends_cut xs HE.out.2.2.2.1 (by rw [HE.out.2.1]; have := HE.out.2.2.1; omega) N (jbF 0 xs).length (by rw [HE.out.2.1]; exact Nat.le_refl _) (by have := pos_all xs; rw [HE.out.2.1] at this; omega) (.inl HE.out.2.1.symm) (Nat.le_refl _)
  rw [List.take_length] at hca
  have hen : ends S.data.toList = (Z, N) := by
    rw [HS.out.1, hca.1]
    have h1 := pos_all xs
    rw [HE.out.2.1] at h1
    rw [h1, HS.out.2.2.1]
  have hbd := hca.2
  rw [hen] at hj5 hn5 ⊢
  obtain rfl := hn5 HS.out.2.1.symm
  dsimp only at hj5 ⊢
  have htk : S.data.toList.take Z = jbF 0 xs := by rw [HS.out.1]; exact List.take_of_length_le (by rw [HS.out.2.2.1]; exact Nat.le_refl _)
  rw [htk] at hj5
  have HJ5 : Hid (Jo y5 y4.heap.size J5 p5 v5 (jbF 0 xs) (N : Int)) := hj5
  have HB5 : Hid (Below y4.heap.size y4 y5) := hB5
  have HBDS : Hid (bodies (jbF 0 xs) = (Es.take N).map fun e => e.1.body.data.toList) := by
    show _ = _
    rw [hbd, HE.out.2.2.2.2.2 N]
  have hlowJ : ∀ q, v5.ownBlock = some q → y4.heap.size ≤ q := fun q hq => (hj5.own.lt q hq).1
  have HLJ : Hid (∀ q, v5.ownBlock = some q → y4.heap.size ≤ q) := hlowJ
  have HAL : Hid (Calls _ _ _ _ _) := alike_any (M := N) hj5 HD.out.lv hB5 (Nat.le_refl _) (by have := HS.out; omega) (vl := .slice o N cap) (Es := Es) (fun y hf => rowe_below HD.out.row (hB5.trans (hf.below hj5.base hlowJ hB5.size))) (by rw [HE.out.1]; exact Nat.le_refl _) (by rw [HE.out.1]; have := HE.out.2.2.1; omega) HBDS.out HE.out.2.2.2.2.1
  clear hj5 hn5 hb5 hB5 hca hen hbd htk hlowJ HOP
  go_wp2_with fail
  refine HAL.out.mono ?_
  rintro e y6 ⟨rfl, hj6, hf6⟩
  have HB6 : Hid (Below y4.heap.size y4 y6) := HB5.out.trans (hf6.below HJ5.out.base HLJ.out HB5.out.size)
  have HBY6 : Hid (Calls _ _ _ _ _) := bytes_any hj6 (by have := HS.out; omega)
  have HJ6 : Hid (Jo y6 y4.heap.size J5 p5 v5 (jbF 0 xs) (N : Int)) := hj6
  clear hj6 hf6 HAL
  go_wp2_with fail
  refine HBY6.out.mono ?_
  rintro e y7 ⟨rfl, hj7, hf7⟩
  rw [HS.out.2.2.2.2]
  have HB7 : Hid (Below y4.heap.size y4 y7) := HB6.out.trans (hf7.below HJ6.out.base HLJ.out HB6.out.size)
  have HD7 : Hid (Hd w y7 o N cap g cap2 Es xs) := HD.out.next HB7.out
  have HPK : Hid (Calls Tryd.prog 31 #[.int .i64 a1, .int .i64 ((Z : Int) + 1)] y7 fun e w' => w' = y7 ∧ ∃ r : Nat, e = .returned (.int .i64 (r : Int)) ∧ r < Z + 1) := by
    have h1 := pick_any y7 a1 HI.out.1 (Z + 1) (by omega) (by have := HS.out; omega)
    rw [show ((Z + 1 : Nat) : Int) = (Z : Int) + 1 by omega] at h1
    exact h1
  have z1 : (Z : Int) + 1 ≤ 9223372036854775807 := by have := HS.out; omega
  clear hj7 hf7 HBY6 HJ6 HJ5 HB5 HB6 HLJ HB7
  go_wp2_with fail
  refine HPK.out.mono ?_
  rintro e y8 ⟨rfl, c, rfl, hcZ⟩
  have z2 : (c : Int) ≤ (Z : Int) := by omega
  have z3 : (0 : Int) ≤ (c : Int) := by omega
  obtain ⟨P, hP⟩ : ∃ P, S.extract 0 c = P := ⟨_, rfl⟩
  have HP : Hid (S.extract 0 c = P) := hP
  have hPl : P.data.toList = (jbF 0 xs).take c := by rw [← hP, Lf.ext_take, HS.out.1]
  have hPs : P.size = c := by rw [size_list, hPl, List.length_take, HS.out.2.2.1]; omega
  have HPL : Hid (P.data.toList = (jbF 0 xs).take c ∧ P.size = c ∧ c ≤ Z) := ⟨hPl, hPs, by omega⟩
  have HOP8 : Hid (Calls _ _ _ _ _) := open_any P (by have := HS.out; omega) y8 HD7.out.lv.hal HD7.out.lv.hdl HD7.out.lv.err.choose_spec
  clear hP hPl hPs hcZ HPK
  go_wp2_with (first | (rw [HP.out]) | fail)
  refine HOP8.out.mono ?_
  rintro e y9 ⟨J9, p9, v9, er9, rfl, hj9, hn9, hb9, hB9⟩
  obtain ⟨⟨A, M⟩, hAM⟩ : ∃ q, ends P.data.toList = q := ⟨_, rfl⟩
  rw [hAM] at hj9 hn9 hb9 ⊢
  dsimp only at hj9 hn9 hb9 ⊢
  have HD9 : Hid (Hd w y9 o N cap g cap2 Es xs) := HD7.out.next hB9
  have HJ9 : Hid (Jo y9 y8.heap.size J9 p9 v9 (P.data.toList.take A) (M : Int)) := hj9
  have HER : Hid ((A = P.size → er9 = .nilIface) ∧ (A ≠ P.size → ∃ q, er9 = .iface 86 (.pointer (some ⟨q, 0, none⟩)) ∧ y8.heap.size ≤ q ∧ Jg.Ft y9 q (A : Int) 230)) := ⟨hn9, hb9⟩
  have HB9 : Hid (Below y8.heap.size y8 y9) := hB9
  have HAM : Hid (ends P.data.toList = (A, M)) := hAM
  have HWH : Hid (Calls _ _ _ _ _) := whole_any (xs := xs) (by rw [HE.out.2.1]; exact HD9.out.ends) HE.out.2.2.2.1 (by rw [HE.out.2.1]; exact HE.out.2.2.1) c (by have := HPL.out.2.2; have := HS.out; omega)
  clear hj9 hn9 hb9 hB9 hAM HOP8
  go_wp2_with fail
  refine HWH.out.mono ?_
  rintro e y10 ⟨rfl, K, rfl, hK1, hK2, hK3⟩
  have hcut := ends_cut xs HE.out.2.2.2.1 (by rw [HE.out.2.1]; have := HE.out.2.2.1; omega) K c hK1 hK2 hK3 (by rw [HS.out.2.2.1]; exact HPL.out.2.2)
  have hAK : A = pos xs K ∧ M = K := by
    have h1 := HAM.out
    rw [HPL.out.1, hcut.1] at h1
    exact ⟨(congrArg Prod.fst h1).symm, (congrArg Prod.snd h1).symm⟩
  obtain ⟨hA, rfl⟩ := hAK
  rw [HE.out.2.1] at hK1
  have htk9 : P.data.toList.take A = (jbF 0 xs).take A := by
    rw [HPL.out.1, List.take_take, Nat.min_eq_left (by omega)]
  have hbds : bodies (P.data.toList.take A) = (Es.take M).map fun e => e.1.body.data.toList := by
    have hcut2 := ends_cut xs HE.out.2.2.2.1 (by rw [HE.out.2.1]; have := HE.out.2.2.1; omega) M A (by rw [HE.out.2.1]; exact hK1) (by omega) (hK3.imp id (fun h => by omega)) (by rw [HS.out.2.2.1]; have := HPL.out.2.2; omega)
    rw [htk9, hcut2.2, HE.out.2.2.2.2.2 M]
  have HBD9 : Hid (bodies (P.data.toList.take A) = (Es.take M).map fun e => e.1.body.data.toList) := hbds
  have HK : Hid (M ≤ N ∧ A = pos xs M ∧ A ≤ c) := ⟨hK1, hA, by omega⟩
  have HCE : Hid (∀ y, Below y8.heap.size y8 y → y.cell? ⟨g, M, none⟩ = some (.int .i64 (A : Int))) := fun y hy => by
    rw [HK.out.2.1]
    exact row_cell (HD7.out.next hy).ends (posV_at xs (N + 1) M (by have := HK.out.1; omega))
  clear hcut hA hK1 hK2 hK3 htk9 hbds HWH HAM
  by_cases hAc : A = c
  · obtain rfl := HER.out.1 (by rw [HPL.out.2.1]; exact hAc)
    subst hAc
    have HFN : Hid (Calls _ _ _ _ _) := fault_nil y10
    clear HER
    go_wp2_with fail
    refine HFN.out.mono ?_
    rintro e y11 ⟨rfl, rfl⟩
    have hlowJ : ∀ q, v9.ownBlock = some q → y8.heap.size ≤ q := fun q hq => (HJ9.out.own.lt q hq).1
    have HAL9 : Hid (Calls _ _ _ _ _) := alike_any (M := M) HJ9.out HD7.out.lv HB9.out (Nat.le_refl _) (by rw [List.length_take, ← size_list]; have := HPL.out; have := HS.out; omega) (vl := .slice o N cap) (Es := Es) (fun y hf => rowe_below HD7.out.row (HB9.out.trans (hf.below HJ9.out.base hlowJ HB9.out.size))) (by rw [HE.out.1]; exact HK.out.1) (by rw [HE.out.1]; have := HE.out.2.2.1; omega) HBD9.out HE.out.2.2.2.2.1
    have HLJ9 : Hid (∀ q, v9.ownBlock = some q → y8.heap.size ≤ q) := hlowJ
    clear hlowJ HFN
    go_wp2_with fail
    refine HAL9.out.mono ?_
    rintro e y12 ⟨rfl, hj12, hf12⟩
    have hb12 : Below y8.heap.size y8 y12 := HB9.out.trans (hf12.below HJ9.out.base HLJ9.out HB9.out.size)
    have HD12 : Hid (Hd w y12 o N cap g cap2 Es xs) := HD7.out.next hb12
    have c1 : y12.cell? ⟨g, M, none⟩ = some (.int .i64 (A : Int)) := HCE.out y12 hb12
    have m1 : (0 : Int) ≤ (M : Int) := by omega
    have m2 : (M : Int) < ((N + 1 : Nat) : Int) := by have := HK.out.1; omega
    clear hj12 hf12 hb12 HAL9
    by_cases hZ0 : Z = 0
    · have hS0 : S = ⟨#[]⟩ := empty_iff S (by rw [HS.out.2.1, hZ0])
      subst hS0
      go_wp2_with fail
      go_ret
      exact ⟨rfl, HD12.out.bel⟩
    · have hS0 : S.toList.isEmpty = false := by
        rw [ByteArray.toList_eq]
        cases h : S.data.toList with
        | nil => exfalso; have h1 := size_list S; rw [h] at h1; have h2 := HS.out.2.1; have h3 : S.size = 0 := h1; omega
        | cons b t => rfl
      have p2 : (0 : Int) < (Z : Int) := by omega
      have HPK2 : Hid (Calls _ _ _ _ _) := pick_any y12 a2 HI.out.2.1 Z (by omega) (by have := HS.out; omega)
      go_wp2_with fail
      refine HPK2.out.mono ?_
      rintro e y13 ⟨rfl, a, rfl, haZ⟩
      obtain ⟨CC, y14, rr, fr, hcv, hCC, hb14, hs14, hg14, hr14, hf14⟩ := fresh y13 S
      rw [HS.out.2.1] at hcv hCC
      have haS : a < S.data.toList.length := by rw [← size_list, HS.out.2.1]; exact haZ
      have hx14 := hr14 a haS
      obtain ⟨x, hx⟩ : ∃ x : UInt8, S.data.toList[a] = x := ⟨_, rfl⟩
      rw [hx] at hx14
      obtain ⟨r, hr, hpk⟩ := pick_all a3 HI.out.2.2 255 (by omega) (by omega)
      obtain ⟨d, hd1, hd2⟩ := turned x.toNat r x.toNat_lt hr
      have HD14 : Hid (Hd w y14 o N cap g cap2 Es xs) := HD12.out.next hb14
      obtain ⟨G, hG⟩ : ∃ G, y13.heap.size = G := ⟨_, rfl⟩
      have HBW : Hid (Below y13.heap.size y13 y14) := hb14
      have HGE : Hid (y13.heap.size = G) := hG
      rw [hG] at hcv hg14 hf14
      have c2 : y14.cell? ⟨G, a, none⟩ = some (.int .u8 (x.toNat : Int)) := by
        unfold World.cell?
        show (match y14.heap[G]? with | some (.cells c _ _) => c[a]? | _ => none) = _
        rw [hg14]; exact hx14
      have hGl : G < y14.heap.size := by rw [hs14, hG]; omega
      have HST : Hid (∀ y, Below y14.heap.size y14 y → y.cell? ⟨G, a, none⟩ = some (.int .u8 (x.toNat : Int)) ∧ y.frozen? ⟨G, a, none⟩ = false ∧ (convert 75 9 (.slice (some ⟨G, 0, none⟩) Z CC)).run Tryd.prog (y.setCell ⟨G, a, none⟩ (.int .u8 (d.toNat : Int))) = .ok (.string ⟨((jbF 0 xs).set a d).toArray⟩) (y.setCell ⟨G, a, none⟩ (.int .u8 (d.toNat : Int))) ∧ Below y13.heap.size y13 (y.setCell ⟨G, a, none⟩ (.int .u8 (d.toNat : Int)))) := fun y hy => by
        have k1 := kept hy hg14
        refine ⟨(hy.cell hGl).trans c2, ?_, ?_, ?_⟩
        · have h1 := hf14 a (by rw [HS.out.2.1]; exact haZ)
          unfold World.frozen? at h1 ⊢
          rw [hg14] at h1
          rw [k1]
          exact h1
        · have h1 := back y G a CC S.data.toList d rr _ k1 hr14 haS
          rw [← size_list, HS.out.2.1, HS.out.1] at h1
          exact h1
        · exact (keepB hb14 hy).setCell (Nat.le_of_eq hG) _
      have HTN : Hid (((x.toNat : Int) + 1 + (r : Int)) % 256 = (d.toNat : Int) ∧ d ≠ x ∧ (jbF 0 xs).getD a 0 = x ∧ a < Z) := by
        refine ⟨hd1, fun e => hd2 (by rw [e]), ?_, haZ⟩
        rw [← HS.out.1, List.getD_eq_getElem?_getD, List.getElem?_eq_getElem haS, hx]; rfl
      have n1 : (0 : Int) ≤ (a : Int) := by omega
      have n2 : (a : Int) < (Z : Int) := by omega
      have n3 : ((x.toNat : Int) + 1) ≤ 9223372036854775807 := by have := x.toNat_lt; omega
      have n4 : (0 : Int) ≤ (x.toNat : Int) := by omega
      have n5 : (x.toNat : Int) + 1 + (r : Int) ≤ 9223372036854775807 := by have := x.toNat_lt; omega
      have HPK3 : Hid (∀ w, Calls Tryd.prog 31 #[.int .i64 a3, .int .i64 255] w fun e w' => e = .returned (.int .i64 (r : Int)) ∧ w' = w) := hpk
      clear hb14 hs14 hg14 hr14 hf14 hCC haS hx14 hx hr hpk hd1 hd2 hG haZ HPK2
      go_wp2_with fail
      refine Ql.region_lastL (C := Ql.Cl y14) (by kernel_rfl) rfl (by kernel_rfl) (by kernel_rfl) (by kernel_rfl) rfl ((Below.refl _ _).drew) ?_
      dsimp only [List.dropLast]
      repeat (first | go_big_quiet_skip | (go_big_quiet_want; go_big_quiet_op; first | go_big_quiet_on | (refine ⟨_, fun _ _ => rfl, ?_⟩; go_big_quiet_on) | (refine ⟨_, fun _ _ => ⟨rfl, rfl⟩, ?_⟩; go_big_quiet_on)) | (refine wpQuiet_step (fun K hK => ?_); first
        | (refine Ql.q_cell (by rfl) 5 _ rfl G a rfl _ c2 hGl (fun y => isAgg_u8 y) (hK _ ?_); clear hK K; simp only [Act.put, List.setIfInBounds_toArray, List.set_cons_succ, List.set_cons_zero])
        | (go_simp; apply Exists.intro; refine ⟨fun y hy => ?_, hK _ ?_⟩; (first | (go_at_call 31; exact Ql.cl_same hy (HPK3.out y))); clear hK K)
        | fail))
      refine wpQuiet_nil ?_
      intro y15 hy15
      obtain ⟨k1, k2, k3, k4⟩ := HST.out y15 hy15
      clear c2
      go_simp
      rw [HTN.out.1]
      obtain ⟨y16, hy16⟩ : ∃ y16, y15.setCell ⟨G, a, none⟩ (.int .u8 (d.toNat : Int)) = y16 := ⟨_, rfl⟩
      rw [hy16] at k3 k4 ⊢
      obtain ⟨T, hT⟩ : ∃ T : ByteArray, (⟨((jbF 0 xs).set a d).toArray⟩ : ByteArray) = T := ⟨_, rfl⟩
      rw [hT] at k3
      have hTl : T.data.toList = (jbF 0 xs).set a d := by rw [← hT]
      have hTs : T.size = Z := by rw [size_list, hTl, List.length_set, HS.out.2.2.1]
      have HT : Hid (T.data.toList = (jbF 0 xs).set a d ∧ T.size = Z) := ⟨hTl, hTs⟩
      have HD16 : Hid (Hd w y16 o N cap g cap2 Es xs) := HD12.out.next k4
      have HOP16 : Hid (Calls _ _ _ _ _) := open_any T (by rw [hTs]; have := HS.out; omega) y16 HD16.out.lv.hal HD16.out.lv.hdl HD16.out.lv.err.choose_spec
      clear hy15 k1 k2 k4 hy16 hT hTl hTs hGl
      go_wp2_with fail
      refine HOP16.out.mono ?_
      rintro e y17 ⟨J17, p17, v17, er17, rfl, hj17, hn17, hb17, hB17⟩
      obtain ⟨⟨A2, M2⟩, hAM2⟩ : ∃ q, ends T.data.toList = q := ⟨_, rfl⟩
      rw [hAM2] at hj17 hn17 hb17 ⊢
      dsimp only at hj17 hn17 hb17 ⊢
      have HD17 : Hid (Hd w y17 o N cap g cap2 Es xs) := HD16.out.next hB17
      have HJ17 : Hid (Jo y17 y16.heap.size J17 p17 v17 (T.data.toList.take A2) (M2 : Int)) := hj17
      have HER17 : Hid (A2 ≠ T.size → ∃ q, er17 = .iface 86 (.pointer (some ⟨q, 0, none⟩)) ∧ y16.heap.size ≤ q ∧ Jg.Ft y17 q (A2 : Int) 230) := hb17
      have HB17 : Hid (Below y16.heap.size y16 y17) := hB17
      have HAM2 : Hid (ends T.data.toList = (A2, M2)) := hAM2
      have HWH2 : Hid (Calls _ _ _ _ _) := whole_any (xs := xs) (by rw [HE.out.2.1]; exact HD17.out.ends) HE.out.2.2.2.1 (by rw [HE.out.2.1]; exact HE.out.2.2.1) a (by have := HTN.out.2.2.2; have := HS.out; omega)
      clear hj17 hn17 hb17 hB17 hAM2 HOP16 k3 hcv
      go_wp2_with fail
      refine HWH2.out.mono ?_
      rintro e y18 ⟨rfl, K2, rfl, hK1, hK2, hK3⟩
      have hKN : K2 < xs.length := by
        rcases hK3 with h | h
        · exfalso
          have h1 := pos_all xs
          rw [h] at hK2
          have h2 := HTN.out.2.2.2
          have h3 := HS.out.2.2.1
          omega
        · rcases Nat.lt_or_ge K2 xs.length with h1 | h1
          · exact h1
          · exfalso
            have h4 : K2 = xs.length := by omega
            have h1 := pos_all xs
            rw [h4] at hK2
            have h2 := HTN.out.2.2.2
            have h3 := HS.out.2.2.1
            omega
      have hlt2 : a < pos xs (K2 + 1) := hK3.elim (fun h => by omega) id
      have hcut := ends_turn xs HE.out.2.2.2.1 (by rw [HE.out.2.1]; have := HE.out.2.2.1; omega) K2 a d hKN hK2 hlt2 (by rw [HTN.out.2.2.1]; exact HTN.out.2.1)
      have hAK : A2 = pos xs K2 ∧ M2 = K2 := by
        have h1 := HAM2.out
        rw [HT.out.1, hcut.1] at h1
        exact ⟨(congrArg Prod.fst h1).symm, (congrArg Prod.snd h1).symm⟩
      obtain ⟨hA2, rfl⟩ := hAK
      have hA2a : A2 ≤ a := by omega
      have htk17 : T.data.toList.take A2 = (jbF 0 xs).take A2 := by
        rw [HT.out.1, List.take_set_of_le hA2a]
      have hbds : bodies (T.data.toList.take A2) = (Es.take M2).map fun e => e.1.body.data.toList := by
        have hcut2 := ends_cut xs HE.out.2.2.2.1 (by rw [HE.out.2.1]; have := HE.out.2.2.1; omega) M2 A2 hK1 (by omega) (.inr (by omega)) (by rw [HS.out.2.2.1]; have := HTN.out.2.2.2; omega)
        rw [htk17, hcut2.2, HE.out.2.2.2.2.2 M2]
      have HBD17 : Hid (bodies (T.data.toList.take A2) = (Es.take M2).map fun e => e.1.body.data.toList) := hbds
      rw [HE.out.2.1] at hK1
      have HK17 : Hid (M2 ≤ N ∧ A2 = pos xs M2) := ⟨hK1, hA2⟩
      obtain ⟨q17, rfl, hq17, hft17⟩ := HER17.out (by rw [HT.out.2]; have := HTN.out.2.2.2; omega)
      have HFH : Hid (Calls _ _ _ _ _) := fault_hit q17 (A2 : Int) 230 (by decide) y18 HD17.out.lv.hdl hft17
      clear hcut hA2 hA2a hK1 hK2 hK3 hKN hlt2 htk17 hbds HWH2 HAM2 HER17 hq17 hft17
      go_wp2_with fail
      refine HFH.out.mono ?_
      rintro e y19 ⟨rfl, hb19⟩
      have HJ19 : Hid (Jo y19 y16.heap.size J17 p17 v17 (T.data.toList.take A2) (M2 : Int)) := HJ17.out.below hb19
      have HB19 : Hid (Below y16.heap.size y16 y19) := HB17.out.trans (hb19.mono HB17.out.size)
      have hlowJ : ∀ q, v17.ownBlock = some q → y16.heap.size ≤ q := fun q hq => (HJ17.out.own.lt q hq).1
      have HLJ17 : Hid (∀ q, v17.ownBlock = some q → y16.heap.size ≤ q) := hlowJ
      have HAL17 : Hid (Calls _ _ _ _ _) := alike_any (M := M2) HJ19.out HD16.out.lv HB19.out (Nat.le_refl _) (by rw [List.length_take, ← size_list]; have := HT.out.2; have := HS.out; omega) (vl := .slice o N cap) (Es := Es) (fun y hf => rowe_below HD16.out.row (HB19.out.trans (hf.below HJ19.out.base hlowJ HB19.out.size))) (by rw [HE.out.1]; exact HK17.out.1) (by rw [HE.out.1]; have := HE.out.2.2.1; omega) HBD17.out HE.out.2.2.2.2.1
      clear hlowJ HFH hb19 HJ17
      go_wp2_with fail
      refine HAL17.out.mono ?_
      rintro e y20 ⟨rfl, hj20, hf20⟩
      have hb20 : Below y16.heap.size y16 y20 := HB19.out.trans (hf20.below HJ19.out.base HLJ17.out HB19.out.size)
      have HD20 : Hid (Hd w y20 o N cap g cap2 Es xs) := HD16.out.next hb20
      have c3 : y20.cell? ⟨g, M2, none⟩ = some (.int .i64 (A2 : Int)) := by
        rw [HK17.out.2]
        exact row_cell HD20.out.ends (posV_at xs (N + 1) M2 (by have := HK17.out.1; omega))
      have m3 : (0 : Int) ≤ (M2 : Int) := by omega
      have m4 : (M2 : Int) < ((N + 1 : Nat) : Int) := by have := HK17.out.1; omega
      clear hj20 hf20 hb20 HAL17
      go_wp2_with fail
      go_ret
      exact ⟨rfl, HD20.out.bel⟩
  · have hZ0 : ¬ Z = 0 := by have := HK.out.2.2; have := HPL.out.2.2; omega
    obtain ⟨qf, rfl, hqf, hft⟩ := HER.out.2 (by rw [HPL.out.2.1]; exact hAc)
    have hne : ((A : Int) == (c : Int)) = false := by simp; omega
    have HFN : Hid (Calls _ _ _ _ _) := fault_hit qf (A : Int) 230 (by decide) y10 HD9.out.lv.hdl hft
    clear HER hqf hft
    go_wp2_with fail
    refine HFN.out.mono ?_
    rintro e y11 ⟨rfl, hb11⟩
    have HJ11 : Hid (Jo y11 y8.heap.size J9 p9 v9 (P.data.toList.take A) (M : Int)) := HJ9.out.below hb11
    have HB11 : Hid (Below y8.heap.size y8 y11) := HB9.out.trans (hb11.mono HB9.out.size)
    have hlowJ : ∀ q, v9.ownBlock = some q → y8.heap.size ≤ q := fun q hq => (HJ9.out.own.lt q hq).1
    have HAL9 : Hid (Calls _ _ _ _ _) := alike_any (M := M) HJ11.out HD7.out.lv HB11.out (Nat.le_refl _) (by rw [List.length_take, ← size_list]; have := HPL.out; have := HS.out; omega) (vl := .slice o N cap) (Es := Es) (fun y hf => rowe_below HD7.out.row (HB11.out.trans (hf.below HJ11.out.base hlowJ HB11.out.size))) (by rw [HE.out.1]; exact HK.out.1) (by rw [HE.out.1]; have := HE.out.2.2.1; omega) HBD9.out HE.out.2.2.2.2.1
    have HLJ9 : Hid (∀ q, v9.ownBlock = some q → y8.heap.size ≤ q) := hlowJ
    clear hlowJ HFN hb11
    go_wp2_with fail
    refine HAL9.out.mono ?_
    rintro e y12 ⟨rfl, hj12, hf12⟩
    have hb12 : Below y8.heap.size y8 y12 := HB11.out.trans (hf12.below HJ11.out.base HLJ9.out HB11.out.size)
    have HD12 : Hid (Hd w y12 o N cap g cap2 Es xs) := HD7.out.next hb12
    have c1 : y12.cell? ⟨g, M, none⟩ = some (.int .i64 (A : Int)) := HCE.out y12 hb12
    have m1 : (0 : Int) ≤ (M : Int) := by omega
    have m2 : (M : Int) < ((N + 1 : Nat) : Int) := by have := HK.out.1; omega
    clear hj12 hf12 hb12 HAL9
    have hS0 : S.toList.isEmpty = false := by
      rw [ByteArray.toList_eq]
      cases h : S.data.toList with
      | nil => exfalso; have h1 := size_list S; rw [h] at h1; have h2 := HS.out.2.1; have h3 : S.size = 0 := h1; omega
      | cons b t => rfl
    have p2 : (0 : Int) < (Z : Int) := by omega
    have HPK2 : Hid (Calls _ _ _ _ _) := pick_any y12 a2 HI.out.2.1 Z (by omega) (by have := HS.out; omega)
    go_wp2_with fail
    refine HPK2.out.mono ?_
    rintro e y13 ⟨rfl, a, rfl, haZ⟩
    obtain ⟨CC, y14, rr, fr, hcv, hCC, hb14, hs14, hg14, hr14, hf14⟩ := fresh y13 S
    rw [HS.out.2.1] at hcv hCC
    have haS : a < S.data.toList.length := by rw [← size_list, HS.out.2.1]; exact haZ
    have hx14 := hr14 a haS
    obtain ⟨x, hx⟩ : ∃ x : UInt8, S.data.toList[a] = x := ⟨_, rfl⟩
    rw [hx] at hx14
    obtain ⟨r, hr, hpk⟩ := pick_all a3 HI.out.2.2 255 (by omega) (by omega)
    obtain ⟨d, hd1, hd2⟩ := turned x.toNat r x.toNat_lt hr
    have HD14 : Hid (Hd w y14 o N cap g cap2 Es xs) := HD12.out.next hb14
    obtain ⟨G, hG⟩ : ∃ G, y13.heap.size = G := ⟨_, rfl⟩
    have HBW : Hid (Below y13.heap.size y13 y14) := hb14
    have HGE : Hid (y13.heap.size = G) := hG
    rw [hG] at hcv hg14 hf14
    have c2 : y14.cell? ⟨G, a, none⟩ = some (.int .u8 (x.toNat : Int)) := by
      unfold World.cell?
      show (match y14.heap[G]? with | some (.cells c _ _) => c[a]? | _ => none) = _
      rw [hg14]; exact hx14
    have hGl : G < y14.heap.size := by rw [hs14, hG]; omega
    have HST : Hid (∀ y, Below y14.heap.size y14 y → y.cell? ⟨G, a, none⟩ = some (.int .u8 (x.toNat : Int)) ∧ y.frozen? ⟨G, a, none⟩ = false ∧ (convert 75 9 (.slice (some ⟨G, 0, none⟩) Z CC)).run Tryd.prog (y.setCell ⟨G, a, none⟩ (.int .u8 (d.toNat : Int))) = .ok (.string ⟨((jbF 0 xs).set a d).toArray⟩) (y.setCell ⟨G, a, none⟩ (.int .u8 (d.toNat : Int))) ∧ Below y13.heap.size y13 (y.setCell ⟨G, a, none⟩ (.int .u8 (d.toNat : Int)))) := fun y hy => by
      have k1 := kept hy hg14
      refine ⟨(hy.cell hGl).trans c2, ?_, ?_, ?_⟩
      · have h1 := hf14 a (by rw [HS.out.2.1]; exact haZ)
        unfold World.frozen? at h1 ⊢
        rw [hg14] at h1
        rw [k1]
        exact h1
      · have h1 := back y G a CC S.data.toList d rr _ k1 hr14 haS
        rw [← size_list, HS.out.2.1, HS.out.1] at h1
        exact h1
      · exact (keepB hb14 hy).setCell (Nat.le_of_eq hG) _
    have HTN : Hid (((x.toNat : Int) + 1 + (r : Int)) % 256 = (d.toNat : Int) ∧ d ≠ x ∧ (jbF 0 xs).getD a 0 = x ∧ a < Z) := by
      refine ⟨hd1, fun e => hd2 (by rw [e]), ?_, haZ⟩
      rw [← HS.out.1, List.getD_eq_getElem?_getD, List.getElem?_eq_getElem haS, hx]; rfl
    have n1 : (0 : Int) ≤ (a : Int) := by omega
    have n2 : (a : Int) < (Z : Int) := by omega
    have n3 : ((x.toNat : Int) + 1) ≤ 9223372036854775807 := by have := x.toNat_lt; omega
    have n4 : (0 : Int) ≤ (x.toNat : Int) := by omega
    have n5 : (x.toNat : Int) + 1 + (r : Int) ≤ 9223372036854775807 := by have := x.toNat_lt; omega
    have HPK3 : Hid (∀ w, Calls Tryd.prog 31 #[.int .i64 a3, .int .i64 255] w fun e w' => e = .returned (.int .i64 (r : Int)) ∧ w' = w) := hpk
    clear hb14 hs14 hg14 hr14 hf14 hCC haS hx14 hx hr hpk hd1 hd2 hG haZ HPK2
    go_wp2_with fail
    refine Ql.region_lastL (C := Ql.Cl y14) (by kernel_rfl) rfl (by kernel_rfl) (by kernel_rfl) (by kernel_rfl) rfl ((Below.refl _ _).drew) ?_
    dsimp only [List.dropLast]
    repeat (first | go_big_quiet_skip | (go_big_quiet_want; go_big_quiet_op; first | go_big_quiet_on | (refine ⟨_, fun _ _ => rfl, ?_⟩; go_big_quiet_on) | (refine ⟨_, fun _ _ => ⟨rfl, rfl⟩, ?_⟩; go_big_quiet_on)) | (refine wpQuiet_step (fun K hK => ?_); first
      | (refine Ql.q_cell (by rfl) 5 _ rfl G a rfl _ c2 hGl (fun y => isAgg_u8 y) (hK _ ?_); clear hK K; simp only [Act.put, List.setIfInBounds_toArray, List.set_cons_succ, List.set_cons_zero])
      | (go_simp; apply Exists.intro; refine ⟨fun y hy => ?_, hK _ ?_⟩; (first | (go_at_call 31; exact Ql.cl_same hy (HPK3.out y))); clear hK K)
      | fail))
    refine wpQuiet_nil ?_
    intro y15 hy15
    obtain ⟨k1, k2, k3, k4⟩ := HST.out y15 hy15
    clear c2
    go_simp
    rw [HTN.out.1]
    obtain ⟨y16, hy16⟩ : ∃ y16, y15.setCell ⟨G, a, none⟩ (.int .u8 (d.toNat : Int)) = y16 := ⟨_, rfl⟩
    rw [hy16] at k3 k4 ⊢
    obtain ⟨T, hT⟩ : ∃ T : ByteArray, (⟨((jbF 0 xs).set a d).toArray⟩ : ByteArray) = T := ⟨_, rfl⟩
    rw [hT] at k3
    have hTl : T.data.toList = (jbF 0 xs).set a d := by rw [← hT]
    have hTs : T.size = Z := by rw [size_list, hTl, List.length_set, HS.out.2.2.1]
    have HT : Hid (T.data.toList = (jbF 0 xs).set a d ∧ T.size = Z) := ⟨hTl, hTs⟩
    have HD16 : Hid (Hd w y16 o N cap g cap2 Es xs) := HD12.out.next k4
    have HOP16 : Hid (Calls _ _ _ _ _) := open_any T (by rw [hTs]; have := HS.out; omega) y16 HD16.out.lv.hal HD16.out.lv.hdl HD16.out.lv.err.choose_spec
    clear hy15 k1 k2 k4 hy16 hT hTl hTs hGl
    go_wp2_with fail
    refine HOP16.out.mono ?_
    rintro e y17 ⟨J17, p17, v17, er17, rfl, hj17, hn17, hb17, hB17⟩
    obtain ⟨⟨A2, M2⟩, hAM2⟩ : ∃ q, ends T.data.toList = q := ⟨_, rfl⟩
    rw [hAM2] at hj17 hn17 hb17 ⊢
    dsimp only at hj17 hn17 hb17 ⊢
    have HD17 : Hid (Hd w y17 o N cap g cap2 Es xs) := HD16.out.next hB17
    have HJ17 : Hid (Jo y17 y16.heap.size J17 p17 v17 (T.data.toList.take A2) (M2 : Int)) := hj17
    have HER17 : Hid (A2 ≠ T.size → ∃ q, er17 = .iface 86 (.pointer (some ⟨q, 0, none⟩)) ∧ y16.heap.size ≤ q ∧ Jg.Ft y17 q (A2 : Int) 230) := hb17
    have HB17 : Hid (Below y16.heap.size y16 y17) := hB17
    have HAM2 : Hid (ends T.data.toList = (A2, M2)) := hAM2
    have HWH2 : Hid (Calls _ _ _ _ _) := whole_any (xs := xs) (by rw [HE.out.2.1]; exact HD17.out.ends) HE.out.2.2.2.1 (by rw [HE.out.2.1]; exact HE.out.2.2.1) a (by have := HTN.out.2.2.2; have := HS.out; omega)
    clear hj17 hn17 hb17 hB17 hAM2 HOP16 k3 hcv
    go_wp2_with fail
    refine HWH2.out.mono ?_
    rintro e y18 ⟨rfl, K2, rfl, hK1, hK2, hK3⟩
    have hKN : K2 < xs.length := by
      rcases hK3 with h | h
      · exfalso
        have h1 := pos_all xs
        rw [h] at hK2
        have h2 := HTN.out.2.2.2
        have h3 := HS.out.2.2.1
        omega
      · rcases Nat.lt_or_ge K2 xs.length with h1 | h1
        · exact h1
        · exfalso
          have h4 : K2 = xs.length := by omega
          have h1 := pos_all xs
          rw [h4] at hK2
          have h2 := HTN.out.2.2.2
          have h3 := HS.out.2.2.1
          omega
    have hlt2 : a < pos xs (K2 + 1) := hK3.elim (fun h => by omega) id
    have hcut := ends_turn xs HE.out.2.2.2.1 (by rw [HE.out.2.1]; have := HE.out.2.2.1; omega) K2 a d hKN hK2 hlt2 (by rw [HTN.out.2.2.1]; exact HTN.out.2.1)
    have hAK : A2 = pos xs K2 ∧ M2 = K2 := by
      have h1 := HAM2.out
      rw [HT.out.1, hcut.1] at h1
      exact ⟨(congrArg Prod.fst h1).symm, (congrArg Prod.snd h1).symm⟩
    obtain ⟨hA2, rfl⟩ := hAK
    have hA2a : A2 ≤ a := by omega
    have htk17 : T.data.toList.take A2 = (jbF 0 xs).take A2 := by
      rw [HT.out.1, List.take_set_of_le hA2a]
    have hbds : bodies (T.data.toList.take A2) = (Es.take M2).map fun e => e.1.body.data.toList := by
      have hcut2 := ends_cut xs HE.out.2.2.2.1 (by rw [HE.out.2.1]; have := HE.out.2.2.1; omega) M2 A2 hK1 (by omega) (.inr (by omega)) (by rw [HS.out.2.2.1]; have := HTN.out.2.2.2; omega)
      rw [htk17, hcut2.2, HE.out.2.2.2.2.2 M2]
    have HBD17 : Hid (bodies (T.data.toList.take A2) = (Es.take M2).map fun e => e.1.body.data.toList) := hbds
    rw [HE.out.2.1] at hK1
    have HK17 : Hid (M2 ≤ N ∧ A2 = pos xs M2) := ⟨hK1, hA2⟩
    obtain ⟨q17, rfl, hq17, hft17⟩ := HER17.out (by rw [HT.out.2]; have := HTN.out.2.2.2; omega)
    have HFH : Hid (Calls _ _ _ _ _) := fault_hit q17 (A2 : Int) 230 (by decide) y18 HD17.out.lv.hdl hft17
    clear hcut hA2 hA2a hK1 hK2 hK3 hKN hlt2 htk17 hbds HWH2 HAM2 HER17 hq17 hft17
    go_wp2_with fail
    refine HFH.out.mono ?_
    rintro e y19 ⟨rfl, hb19⟩
    have HJ19 : Hid (Jo y19 y16.heap.size J17 p17 v17 (T.data.toList.take A2) (M2 : Int)) := HJ17.out.below hb19
    have HB19 : Hid (Below y16.heap.size y16 y19) := HB17.out.trans (hb19.mono HB17.out.size)
    have hlowJ : ∀ q, v17.ownBlock = some q → y16.heap.size ≤ q := fun q hq => (HJ17.out.own.lt q hq).1
    have HLJ17 : Hid (∀ q, v17.ownBlock = some q → y16.heap.size ≤ q) := hlowJ
    have HAL17 : Hid (Calls _ _ _ _ _) := alike_any (M := M2) HJ19.out HD16.out.lv HB19.out (Nat.le_refl _) (by rw [List.length_take, ← size_list]; have := HT.out.2; have := HS.out; omega) (vl := .slice o N cap) (Es := Es) (fun y hf => rowe_below HD16.out.row (HB19.out.trans (hf.below HJ19.out.base hlowJ HB19.out.size))) (by rw [HE.out.1]; exact HK17.out.1) (by rw [HE.out.1]; have := HE.out.2.2.1; omega) HBD17.out HE.out.2.2.2.2.1
    clear hlowJ HFH hb19 HJ17
    go_wp2_with fail
    refine HAL17.out.mono ?_
    rintro e y20 ⟨rfl, hj20, hf20⟩
    have hb20 : Below y16.heap.size y16 y20 := HB19.out.trans (hf20.below HJ19.out.base HLJ17.out HB19.out.size)
    have HD20 : Hid (Hd w y20 o N cap g cap2 Es xs) := HD16.out.next hb20
    have c3 : y20.cell? ⟨g, M2, none⟩ = some (.int .i64 (A2 : Int)) := by
      rw [HK17.out.2]
      exact row_cell HD20.out.ends (posV_at xs (N + 1) M2 (by have := HK17.out.1; omega))
    have m3 : (0 : Int) ≤ (M2 : Int) := by omega
    have m4 : (M2 : Int) < ((N + 1 : Nat) : Int) := by have := HK17.out.1; omega
    clear hj20 hf20 hb20 HAL17
    go_wp2_with fail
    go_ret
    exact ⟨rfl, HD20.out.bel⟩
end Go.Proofs.YtabmpngliphdpaaDoor.Lg
