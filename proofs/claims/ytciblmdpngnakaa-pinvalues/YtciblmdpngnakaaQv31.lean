import Derived.Test.YtciblmdpngnakaaQv21
import Derived.Test.YtciblmdpngnakaaQv27
import Derived.Test.YtciblmdpngnakaaQv30
/- PINs: the document's Value. -/
namespace Go.Proofs.Ytciblmdpngnakaa.Vr
set_option linter.unusedVariables false
set_option linter.unusedSimpArgs false
open Go.RowKit Lib0 Six Pp Cb Ra Rh Wa Va Vb
open Rp (Post)
open Pq (mk_list)
open Ph (gb_eq)
open Pg (ba_ext ext_list)
open Sm (range_keep)
open Rq (conv_one hx_low)
open Rb (nv nv_len nv_get nv_snoc nv_take range_cell own_range New infoI)
theorem turnE (k s : ByteArray) (hk : k.size = 16) (hs : s.size = 8) (u : World) :
    Calls Try.prog 46 #[.string k, .string s, .bool false] u fun e w' => e = .returned (.tuple #[.string (eK k s), .int .i64 0]) ∧ Below u.heap.size u w' := by
  have h := Ru.turn_ref k s false (Or.inr (Or.inl hk)) 1 (by show s.size = 8 * 1; rw [hs]) (by decide) u
  rw [← Tu.map_turn k s 1 (by rw [hs]) false] at h
  exact h
theorem dv_take (l : List UInt8) (k : Nat) (h : k < l.length) : (dvL l).take (k + 1) = (dvL l).take k ++ [l[k].toNat - 48] := by
  rw [List.take_succ_eq_append_getElem (by rw [dv_len]; exact h)]
  simp [dvL]
theorem hx_high' : ∀ a : Fin 16, 10 ≤ a.val → hx (a.val - 10) = UInt8.ofNat (38 + a.val) := by decide +kernel
def oS (H : List Nat) (m j : Nat) : ByteArray := ⟨(if m = 0 then da (H.take j) else da H ++ db (H.take j)).toArray⟩
theorem oS_size (H : List Nat) (m j : Nat) (hH : H.length = 16) : (oS H m j).size ≤ 16 := by
  rw [← sz]
  unfold oS
  split
  · show (da (H.take j)).length ≤ 16
    have := both_len (H.take j)
    rw [List.length_take] at this
    omega
  · show (da H ++ db (H.take j)).length ≤ 16
    have h1 := both_len H
    have h2 : (db (H.take j)).length ≤ (db H).length := by
      unfold db
      rw [List.length_map, List.length_map]
      exact ((List.take_sublist j H).filter _).length_le
    rw [List.length_append]
    omega
theorem oS_low (H : List Nat) (j : Nat) (hj : j < H.length) (h : H[j] < 10) : oS H 0 (j + 1) = oS H 0 j ++ ⟨#[UInt8.ofNat (48 + H[j])]⟩ := by
  apply ba_ext
  unfold oS
  rw [if_pos rfl, if_pos rfl, List.take_succ_eq_append_getElem hj, da_yes _ _ h, ByteArray.data_append, Array.toList_append, hx_low ⟨H[j], h⟩]
theorem oS_low' (H : List Nat) (j : Nat) (hj : j < H.length) (h : 10 ≤ H[j]) : oS H 0 (j + 1) = oS H 0 j := by
  unfold oS
  rw [if_pos rfl, if_pos rfl, List.take_succ_eq_append_getElem hj, da_no _ _ h]
theorem oS_high (H : List Nat) (j : Nat) (hj : j < H.length) (h : 10 ≤ H[j]) (h6 : H[j] < 16) : oS H 1 (j + 1) = oS H 1 j ++ ⟨#[UInt8.ofNat (38 + H[j])]⟩ := by
  apply ba_ext
  unfold oS
  rw [if_neg (by decide), if_neg (by decide), List.take_succ_eq_append_getElem hj, db_yes _ _ h, ByteArray.data_append, Array.toList_append, hx_high' ⟨H[j], h6⟩ h]
  simp
theorem oS_high' (H : List Nat) (j : Nat) (hj : j < H.length) (h : H[j] < 10) : oS H 1 (j + 1) = oS H 1 j := by
  unfold oS
  rw [if_neg (by decide), if_neg (by decide), List.take_succ_eq_append_getElem hj, db_no _ _ h]
theorem oS_next (H : List Nat) (hH : H.length = 16) : oS H 0 16 = oS H 1 0 := by
  unfold oS
  rw [if_pos rfl, if_neg (by decide), List.take_of_length_le (by omega)]
  simp [db]
theorem oS_zero (H : List Nat) : oS H 0 0 = ⟨#[]⟩ := by
  unfold oS
  simp [da]
theorem oS_end (H : List Nat) (hH : H.length = 16) : oS H 1 16 = ⟨(da H ++ db H).toArray⟩ := by
  unfold oS
  rw [if_neg (by decide), List.take_of_length_le (by omega)]
set_option maxRecDepth 100000 in
set_option maxHeartbeats 3200000 in
theorem value_ref_good (k q i p : ByteArray) (h16 : Hid (k.size = 16)) (sq : q.size ≤ maxLen) (si : i.size ≤ maxLen) (sp : p.size ≤ maxLen) (hq : panB q = true) (hp : pinB p = true) (hi : idxB i = true) (w : World) :
    Calls Try.prog 13 #[.string k, .string q, .string i, .string p] w fun e w' => e = .returned (.tuple #[.string ⟨((da (vh k q i p) ++ db (vh k q i p)).take 4).toArray⟩, .int .i64 0]) ∧ Below w.heap.size w w' := by
  obtain ⟨t0, ht, hz0, hz1, hz2⟩ := info_parts infoI
  have IQ := fun u => isPANr_any q u sq
  have IP := fun u => isPINr_any p u sp
  have hq' := (panB_iff q).1 hq
  have hp' := (pinB_iff p).1 hp
  have hi' := (idxB_iff i).1 hi
  have vlen := vl_len q i p hq hi hp
  have vd := vl_dg q i p hq hi hp
  have v8 := vb_size q i p hq hi hp
  have vhl := vh_len k q i p hq hi hp
  have vht := vh_lt k q i p
  have e8 := eK_size k _ v8
  have TU := fun u => turnE k _ h16.out v8 u
  unfold vh at *
  obtain ⟨S, HS⟩ : ∃ S : ByteArray, Hid (q.extract (q.size - 12) (q.size - 1) ++ i ++ p.extract 0 4 = S) := ⟨_, rfl⟩
  have lS : S.data.toList = vl q i p := by
    rw [← HS.out, ByteArray.data_append, ByteArray.data_append, Array.toList_append, Array.toList_append, ext_list _ _ _ (by omega), ext_list _ _ _ (by omega), List.drop_zero, show q.size - 1 - (q.size - 12) = 11 by omega]
    rfl
  rw [← lS] at vlen vd v8 vhl vht e8 TU ⊢
  have s16 : Hid (S.size = 16) := vlen
  have AQ : Hid (∀ j, (h : j < S.size) → 48 ≤ (S[j]'h).toNat ∧ (S[j]'h).toNat ≤ 57 ∧ (dvL S.data.toList).take (j + 1) = (dvL S.data.toList).take j ++ [(S[j]'h).toNat - 48]) := (fun j h => by
    have hd := (dg_iff (S[j]'h)).1 (List.all_eq_true.1 vd _ (List.getElem_mem (show j < S.data.toList.length from h)))
    exact ⟨hd.1, hd.2, dv_take S.data.toList j h⟩ : ∀ j, (h : j < S.size) → 48 ≤ (S[j]'h).toNat ∧ (S[j]'h).toNat ≤ 57 ∧ (dvL S.data.toList).take (j + 1) = (dvL S.data.toList).take j ++ [(S[j]'h).toNat - 48])
  have dl : Hid ((dvL S.data.toList).length = 16) := (by rw [dv_len]; exact vlen : (dvL S.data.toList).length = 16)
  have dt : Hid (∀ m ∈ dvL S.data.toList, m < 16) := (fun m hm => by have := dv_lt _ vd m hm; omega : ∀ m ∈ dvL S.data.toList, m < 16)
  generalize dvL S.data.toList = V at *
  obtain ⟨X, HX⟩ : ∃ X : ByteArray, Hid ((⟨(pk V).toArray⟩ : ByteArray) = X) := ⟨_, rfl⟩
  rw [HX.out] at v8 vhl vht e8 TU ⊢
  have BY := fun g cap u hg hr => bytes_ref V g 16 8 cap dl rfl (by decide) dt u hg hr
  rw [HX.out] at BY
  generalize eK k X = Y at *
  have HA := fun u => halves_ref Y 16 (by show 2 * Y.size = 16; rw [e8]) (by rw [e8]; decide) (by rw [e8]; decide) u
  generalize nb Y.data.toList = H at *
  have hH : Hid (H.length = 16) := vhl
  have hHt : Hid (∀ n ∈ H, n < 16) := vht
  have al : 4 ≤ (da H ++ db H).length := by rw [List.length_append, both_len, vhl]; decide
  have EX : Hid ((oS H 1 16).extract 0 4 = ⟨((da H ++ db H).take 4).toArray⟩) := (by rw [oS_end H vhl]; exact ext4 _ al : (oS H 1 16).extract 0 4 = ⟨((da H ++ db H).take 4).toArray⟩)
  have es : (4 : Int) ≤ ((oS H 1 16).size : Int) := by rw [oS_end H vhl, ← sz, mk_list]; omega
  generalize (⟨((da H ++ db H).take 4).toArray⟩ : ByteArray) = R at *
  rw [hq] at IQ
  rw [hp] at IP
  have x16 : ((k.size : Int) != 16) = false := by rw [h16.out]; rfl
  have i1 : ((i.size : Int) != 1) = false := by rw [hi'.1]; rfl
  have i00 : 0 < i.size := by omega
  have i0 : (0 : Int) < (i.size : Int) := by omega
  have g0 := gb_eq i 0 i00
  have i2 : ¬ ((i[0]'i00).toNat : Int) < 49 := by rw [g0]; omega
  have i3 : ¬ (54 : Int) < ((i[0]'i00).toNat : Int) := by rw [g0]; omega
  have i4 : (49 : Int) ≤ ((i[0]'i00).toNat : Int) := by omega
  have i5 : ((i[0]'i00).toNat : Int) ≤ 54 := by omega
  obtain ⟨a, Ha⟩ : ∃ a : Nat, Hid (q.size - 12 = a) := ⟨_, rfl⟩
  obtain ⟨b, Hb⟩ : ∃ b : Nat, Hid (q.size - 1 = b) := ⟨_, rfl⟩
  have ea := Ha.out
  have eb := Hb.out
  have y1 : IntKind.i64.wrap (a : Int) = (a : Int) := by rw [IntKind.wrap_i64]; omega
  have y2 : IntKind.i64.wrap (b : Int) = (b : Int) := by rw [IntKind.wrap_i64]; omega
  have y1' : (q.size : Int) - 12 = (a : Int) := by omega
  have y2' : (q.size : Int) - 1 = (b : Int) := by omega
  have y3 : (a : Int) ≤ (b : Int) := by omega
  have y4 : (b : Int) ≤ (q.size : Int) := by omega
  have y5 : (0 : Int) ≤ (a : Int) := by omega
  have y6 : (4 : Int) ≤ (p.size : Int) := by omega
  rw [ea, eb] at HS
  have z1 : (q.extract a b).size = 11 := by rw [ByteArray.size_extract]; omega
  have z2 : (p.extract 0 4).size = 4 := by rw [ByteArray.size_extract]; omega
  have n1 : ¬ 9223372036854775807 < (q.extract a b).size + i.size := by rw [z1, hi'.1]; decide
  have n2 : ¬ 9223372036854775807 < (q.extract a b ++ i).size + (p.extract 0 4).size := by rw [ByteArray.size_append, z1, z2, hi'.1]; decide
  have hS := HS.out
  clear lS vlen vd v8 vhl vht e8 al hq hp hi hq' hp' hi' g0 ea eb z1 z2 HX
  go_enter Try.func13, Try.ntmps13
  go_wp2_with fail
  refine (IQ _).mono ?_
  rintro e u ⟨rfl, hu⟩
  rw [hu]
  clear hu u IQ
  go_wp2_with fail
  refine (IP _).mono ?_
  rintro e u ⟨rfl, hu⟩
  rw [hu]
  clear hu u IP
  go_wp2_with fail
  go_region
  go_wp2
  go_loopw [13, 14] (fun v c wr => ∃ j : Nat, j ≤ 16 ∧ c = .int .i64 (j : Int) ∧ wr.ownsRow w.heap.size 3 1 v j (nv (V.take j)) ∧ Below w.heap.size w wr) (fun _ c _ => 17 - (intOf c).toNat)
  case atStart => exact ⟨0, by omega, rfl, World.ownsRow_nil _ _ _ _, (Below.refl _ _).drew⟩
  case round =>
    obtain ⟨j, hj, rfl, hown, hbw⟩ := hrel
    have hbs := hbw.size
    by_cases hlt : j < 16
    · have hjS : j < S.size := by rw [s16.out]; exact hlt
      have q0 : (0 : Int) ≤ (j : Int) := by omega
      have q1 : (j : Int) < (S.size : Int) := by omega
      obtain ⟨a1, a2, a3⟩ := AQ.out j hjS
      obtain ⟨d, Hd⟩ : ∃ d : Nat, Hid (S[j].toNat - 48 = d) := ⟨S[j].toNat - 48, rfl⟩
      have HN : Hid (nv (V.take (j + 1)) = nv (V.take j) ++ [.int .i64 (d : Int)]) := (by rw [a3, nv_snoc, Hd.out] : nv (V.take (j + 1)) = nv (V.take j) ++ [.int .i64 (d : Int)])
      have r1 : IntKind.i64.wrap (S[j].toNat : Int) = (S[j].toNat : Int) := by rw [IntKind.wrap_i64]; omega
      have r2 : IntKind.i64.wrap ((S[j].toNat : Int) - 48) = (d : Int) := by have := Hd.out; rw [IntKind.wrap_i64]; omega
      have r3 : (S[j].toNat : Int) - 48 = (d : Int) := by have := Hd.out; omega
      have r4 : ((S[j].toNat : Nat) : Int) < 256 := Lib0.toNat_lt _
      have r5 : IntKind.i64.wrap (d : Int) = (d : Int) := by have := Hd.out; rw [IntKind.wrap_i64]; omega
      clear a1 a2 a3 AQ hS
      go_wp2_with (at_builtin; refine wpList_append_lies _ rfl _ _ _ rfl w.heap.size 3 t0 _ 1 8 Try.underlying58 ht hz0 hz1 hz2 rfl (by omega) _ j _ rfl (hown.alloc _) ⟨wr.heap.size, 0, none⟩ 1 1 _ rfl (by rfl) (World.news_of_block (heap_alloc_new wr _)) (by simp [Value.oneCell']) (by omega) (by unfold maxLen; omega) (by omega) (by first | omega | (simp <;> omega)) (wr.heap.size + 1) (by simp) ?_; intro gg cap w1 hown1 hgrow hat hlt1)
      exact ⟨⟨j + 1, by omega, by simp, owns_len hown1 rfl rfl HN.out.symm, below_app0 hbw hbs hown hgrow⟩, by simp only [intOf]; omega⟩
    · obtain rfl : j = 16 := by omega
      have q1 : ¬ (16 : Int) < (S.size : Int) := by have := s16.out; omega
      rw [List.take_of_length_le (by rw [dl.out]; exact Nat.le_refl _)] at hown
      obtain ⟨g, cap, rfl, hB, hg, hcap, hr⟩ := own_range hown (by decide)
      have BY1 := BY g cap wr hg hr
      clear AQ hS BY hr hown
      go_wp2_with fail
      refine BY1.mono ?_
      rintro e y1 ⟨rfl, hy1⟩
      go_wp2_with fail
      refine (TU _).mono ?_
      rintro e y2 ⟨rfl, hy2⟩
      go_wp2_with fail
      refine (HA _).mono ?_
      rintro e y3 ⟨gh, ch, rfl, hBh, hgh, hch, hrh, hy3⟩
      have B3 : Below w.heap.size w y3 := keepB (keepB (keepB hbw hy1) hy2) hy3
      clear hy1 hy2 hy3 hbw hBh hch TU HA BY1 hB hg hcap
      go_wp2
      generalize wr = wq at *
      go_loopw [18, 19, 20] (fun v c _ wr => ∃ m : Nat, m ≤ 2 ∧ c = .int .i64 (m : Int) ∧ v = .string (if m = 0 then oS H 0 0 else if m = 1 then oS H 1 0 else oS H 1 16) ∧ Below y3.heap.size y3 wr) (fun _ c _ _ => 3 - (intOf c).toNat)
      case atStart => exact ⟨0, by omega, rfl, by rw [if_pos rfl, oS_zero], Below.refl _ _⟩
      case round =>
        obtain ⟨m, hm, rfl, rfl, hbw⟩ := hrel
        rename World => w8
        have hm3 : m = 0 ∨ m = 1 ∨ m = 2 := by omega
        rcases hm3 with rfl | rfl | rfl
        · rw [if_pos rfl]
          go_wp2
          go_loopw [18, 20] (fun v c wr => ∃ j : Nat, j ≤ 16 ∧ c = .int .i64 (j : Int) ∧ v = .string (oS H 0 j) ∧ Below y3.heap.size y3 wr) (fun _ c _ => 17 - (intOf c).toNat)
          case atStart => exact ⟨0, by omega, rfl, rfl, hbw⟩
          case round =>
            obtain ⟨j, hj, rfl, rfl, hb2⟩ := hrel
            by_cases hlt2 : j < 16
            · have hjH : j < H.length := by rw [hH.out]; exact hlt2
              have q0 : (0 : Int) ≤ (j : Int) := by omega
              have q1 : (j : Int) < 16 := by omega
              have a16 := hHt.out _ (List.getElem_mem hjH)
              have d1 := range_cell (range_keep hb2 hgh hrh) j hjH
              rw [Nat.zero_add] at d1
              by_cases hA : H[j] < 10
              · obtain ⟨Vv, HV⟩ : ∃ Vv : Nat, Hid (48 + H[j] = Vv) := ⟨48 + H[j], rfl⟩
                have HP0 := oS_low H j hjH hA
                have eV := HV.out
                rw [eV] at HP0
                generalize H[j] = a at *
                have c10 : (a : Int) < 10 := by omega
                have c11 : ¬ (10 : Int) ≤ (a : Int) := by omega
                have r1 : IntKind.i64.wrap (48 + (a : Int)) = (Vv : Int) := by rw [IntKind.wrap_i64]; omega
                have r2 : IntKind.u8.wrap (Vv : Int) = (Vv : Int) := by rw [wrap_u8 _ (by omega) (by omega)]
                have r3 : 48 + (a : Int) = (Vv : Int) := by omega
                have r4 : IntKind.i64.wrap (Vv : Int) = (Vv : Int) := by rw [IntKind.wrap_i64]; omega
                have cv := conv_one Vv (by omega) wr
                have zs := oS_size H 0 j hH.out
                obtain ⟨Lr, HLr⟩ : ∃ Lr : Array UInt8, Hid (#[UInt8.ofNat Vv] = Lr) := ⟨_, rfl⟩
                rw [HLr.out] at cv HP0
                have hcat : ¬ 9223372036854775807 < (oS H 0 j).size + Lr.size := by rw [← HLr.out]; show ¬ _ < _ + 1; omega
                have HP : Hid (oS H 0 (j + 1) = oS H 0 j ++ ⟨Lr⟩) := HP0
                generalize oS H 0 j = Ro at *
                clear eV HP0 zs hA a16
                go_wp2
                go_roundw
                case rel => exact ⟨j + 1, by omega, by go_num, by rw [HP.out], hb2.alloc hb2.size _⟩
                case measure => simp [intOf]; omega
              · have HP : Hid (oS H 0 (j + 1) = oS H 0 j) := oS_low' H j hjH (by omega)
                generalize H[j] = a at *
                have c10 : (10 : Int) ≤ (a : Int) := by omega
                have c11 : ¬ (a : Int) < 10 := by omega
                generalize oS H 0 j = Ro at *
                clear hA a16
                go_wp2
                go_roundw
                case rel => exact ⟨j + 1, by omega, by go_num, by rw [HP.out], hb2⟩
                case measure => simp [intOf]; omega
            · obtain rfl : j = 16 := by omega
              have HNx : Hid (Value.string (oS H 0 16) = .string (if 1 = 0 then oS H 0 0 else if 1 = 1 then oS H 1 0 else oS H 1 16)) := (by rw [if_neg (by decide), if_pos rfl, ← oS_next H hH.out] : Value.string (oS H 0 16) = .string (if 1 = 0 then oS H 0 0 else if 1 = 1 then oS H 1 0 else oS H 1 16))
              generalize oS H 0 16 = Ro at *
              go_wp2
              exact ⟨⟨1, by omega, by simp, HNx.out, hb2⟩, by simp [intOf]⟩
        · rw [if_neg (by decide), if_pos rfl]
          go_wp2
          go_loopw [18, 20] (fun v c wr => ∃ j : Nat, j ≤ 16 ∧ c = .int .i64 (j : Int) ∧ v = .string (oS H 1 j) ∧ Below y3.heap.size y3 wr) (fun _ c _ => 17 - (intOf c).toNat)
          case atStart => exact ⟨0, by omega, rfl, rfl, hbw⟩
          case round =>
            obtain ⟨j, hj, rfl, rfl, hb2⟩ := hrel
            by_cases hlt2 : j < 16
            · have hjH : j < H.length := by rw [hH.out]; exact hlt2
              have q0 : (0 : Int) ≤ (j : Int) := by omega
              have q1 : (j : Int) < 16 := by omega
              have a16 := hHt.out _ (List.getElem_mem hjH)
              have d1 := range_cell (range_keep hb2 hgh hrh) j hjH
              rw [Nat.zero_add] at d1
              by_cases hA : H[j] < 10
              · have HP : Hid (oS H 1 (j + 1) = oS H 1 j) := oS_high' H j hjH hA
                generalize H[j] = a at *
                have c10 : (a : Int) < 10 := by omega
                have c11 : ¬ (10 : Int) ≤ (a : Int) := by omega
                generalize oS H 1 j = Ro at *
                clear hA a16
                go_wp2
                go_roundw
                case rel => exact ⟨j + 1, by omega, by go_num, by rw [HP.out], hb2⟩
                case measure => simp [intOf]; omega
              · obtain ⟨Vv, HV⟩ : ∃ Vv : Nat, Hid (38 + H[j] = Vv) := ⟨38 + H[j], rfl⟩
                have HP0 := oS_high H j hjH (by omega) a16
                have eV := HV.out
                rw [eV] at HP0
                generalize H[j] = a at *
                have c10 : (10 : Int) ≤ (a : Int) := by omega
                have c11 : ¬ (a : Int) < 10 := by omega
                have r1 : IntKind.i64.wrap (38 + (a : Int)) = (Vv : Int) := by rw [IntKind.wrap_i64]; omega
                have r2 : IntKind.u8.wrap (Vv : Int) = (Vv : Int) := by rw [wrap_u8 _ (by omega) (by omega)]
                have r3 : 38 + (a : Int) = (Vv : Int) := by omega
                have r4 : IntKind.i64.wrap (Vv : Int) = (Vv : Int) := by rw [IntKind.wrap_i64]; omega
                have cv := conv_one Vv (by omega) wr
                have zs := oS_size H 1 j hH.out
                obtain ⟨Lr, HLr⟩ : ∃ Lr : Array UInt8, Hid (#[UInt8.ofNat Vv] = Lr) := ⟨_, rfl⟩
                rw [HLr.out] at cv HP0
                have hcat : ¬ 9223372036854775807 < (oS H 1 j).size + Lr.size := by rw [← HLr.out]; show ¬ _ < _ + 1; omega
                have HP : Hid (oS H 1 (j + 1) = oS H 1 j ++ ⟨Lr⟩) := HP0
                generalize oS H 1 j = Ro at *
                clear eV HP0 zs hA a16
                go_wp2
                go_roundw
                case rel => exact ⟨j + 1, by omega, by go_num, by rw [HP.out], hb2.alloc hb2.size _⟩
                case measure => simp [intOf]; omega
            · obtain rfl : j = 16 := by omega
              have HNx : Hid (Value.string (oS H 1 16) = .string (if 2 = 0 then oS H 0 0 else if 2 = 1 then oS H 1 0 else oS H 1 16)) := (by rw [if_neg (by decide), if_neg (by decide)] : Value.string (oS H 1 16) = .string (if 2 = 0 then oS H 0 0 else if 2 = 1 then oS H 1 0 else oS H 1 16))
              go_wp2
              exact ⟨⟨2, by omega, by simp, HNx.out, hb2⟩, by simp [intOf]⟩
        · rw [if_neg (by decide), if_neg (by decide)]
          have hE := EX.out
          generalize oS H 1 16 = Ro at *
          go_wp2
          exact bodyPost_ret (v := .tuple #[.string R, .int .i64 0]) (by simp [results, Try.results13, go_sem]) rfl ⟨rfl, keepB B3 hbw⟩
set_option maxRecDepth 100000 in
set_option maxHeartbeats 800000 in
theorem bad_key (k q i p : ByteArray) (sk : k.size ≤ maxLen) (sq : q.size ≤ maxLen) (si : i.size ≤ maxLen) (sp : p.size ≤ maxLen) (x16 : ((k.size : Int) != 16) = true) (w : World) :
    Calls Try.prog 13 #[.string k, .string q, .string i, .string p] w fun e w' => e = .returned (.tuple #[.string none8, .int .i64 30]) ∧ Below w.heap.size w w' := by
  have IQ := fun u => isPANr_any q u sq
  have IP := fun u => isPINr_any p u sp
  unfold maxLen at sk si
  go_enter Try.func13, Try.ntmps13
  go_wp2_with fail
  refine (IQ _).mono ?_
  rintro e u ⟨rfl, hu⟩
  rw [hu]
  clear hu u
  go_wp2_with fail
  refine (IP _).mono ?_
  rintro e u ⟨rfl, hu⟩
  rw [hu]
  clear hu u
  go_wp2
  exact bodyPost_ret (v := .tuple #[.string none8, .int .i64 30]) (by simp [results, Try.results13, go_sem, none8]) rfl ⟨by simp, Below.refl _ _⟩
set_option maxRecDepth 100000 in
set_option maxHeartbeats 800000 in
theorem bad_pan (k q i p : ByteArray) (sk : k.size ≤ maxLen) (sq : q.size ≤ maxLen) (si : i.size ≤ maxLen) (sp : p.size ≤ maxLen) (x16 : ((k.size : Int) != 16) = false) (hq : panB q = false) (w : World) :
    Calls Try.prog 13 #[.string k, .string q, .string i, .string p] w fun e w' => e = .returned (.tuple #[.string none8, .int .i64 50]) ∧ Below w.heap.size w w' := by
  have IQ := fun u => isPANr_any q u sq
  have IP := fun u => isPINr_any p u sp
  unfold maxLen at sk si
  rw [hq] at IQ
  go_enter Try.func13, Try.ntmps13
  go_wp2_with fail
  refine (IQ _).mono ?_
  rintro e u ⟨rfl, hu⟩
  rw [hu]
  clear hu u
  go_wp2_with fail
  refine (IP _).mono ?_
  rintro e u ⟨rfl, hu⟩
  rw [hu]
  clear hu u
  go_wp2
  exact bodyPost_ret (v := .tuple #[.string none8, .int .i64 50]) (by simp [results, Try.results13, go_sem, none8]) rfl ⟨by simp, Below.refl _ _⟩
set_option maxRecDepth 100000 in
set_option maxHeartbeats 800000 in
theorem bad_pin (k q i p : ByteArray) (sk : k.size ≤ maxLen) (sq : q.size ≤ maxLen) (si : i.size ≤ maxLen) (sp : p.size ≤ maxLen) (x16 : ((k.size : Int) != 16) = false) (hq : panB q = true) (hp : pinB p = false) (w : World) :
    Calls Try.prog 13 #[.string k, .string q, .string i, .string p] w fun e w' => e = .returned (.tuple #[.string none8, .int .i64 60]) ∧ Below w.heap.size w w' := by
  have IQ := fun u => isPANr_any q u sq
  have IP := fun u => isPINr_any p u sp
  unfold maxLen at sk si
  rw [hq] at IQ
  rw [hp] at IP
  go_enter Try.func13, Try.ntmps13
  go_wp2_with fail
  refine (IQ _).mono ?_
  rintro e u ⟨rfl, hu⟩
  rw [hu]
  clear hu u
  go_wp2_with fail
  refine (IP _).mono ?_
  rintro e u ⟨rfl, hu⟩
  rw [hu]
  clear hu u
  go_wp2
  exact bodyPost_ret (v := .tuple #[.string none8, .int .i64 60]) (by simp [results, Try.results13, go_sem, none8]) rfl ⟨by simp, Below.refl _ _⟩
set_option maxRecDepth 100000 in
set_option maxHeartbeats 800000 in
theorem bad_i1 (k q i p : ByteArray) (sk : k.size ≤ maxLen) (sq : q.size ≤ maxLen) (si : i.size ≤ maxLen) (sp : p.size ≤ maxLen) (x16 : ((k.size : Int) != 16) = false) (hq : panB q = true) (hp : pinB p = true) (i1 : ((i.size : Int) != 1) = true) (w : World) :
    Calls Try.prog 13 #[.string k, .string q, .string i, .string p] w fun e w' => e = .returned (.tuple #[.string none8, .int .i64 1]) ∧ Below w.heap.size w w' := by
  have IQ := fun u => isPANr_any q u sq
  have IP := fun u => isPINr_any p u sp
  unfold maxLen at sk si
  rw [hq] at IQ
  rw [hp] at IP
  go_enter Try.func13, Try.ntmps13
  go_wp2_with fail
  refine (IQ _).mono ?_
  rintro e u ⟨rfl, hu⟩
  rw [hu]
  clear hu u
  go_wp2_with fail
  refine (IP _).mono ?_
  rintro e u ⟨rfl, hu⟩
  rw [hu]
  clear hu u
  go_wp2
  exact bodyPost_ret (v := .tuple #[.string none8, .int .i64 1]) (by simp [results, Try.results13, go_sem, none8]) rfl ⟨by simp, Below.refl _ _⟩
set_option maxRecDepth 100000 in
set_option maxHeartbeats 800000 in
theorem bad_i2 (k q i p : ByteArray) (sk : k.size ≤ maxLen) (sq : q.size ≤ maxLen) (si : i.size ≤ maxLen) (sp : p.size ≤ maxLen) (x16 : ((k.size : Int) != 16) = false) (hq : panB q = true) (hp : pinB p = true) (i1 : ((i.size : Int) != 1) = false) (i00 : 0 < i.size) (i2 : ((i[0]'i00).toNat : Int) < 49) (w : World) :
    Calls Try.prog 13 #[.string k, .string q, .string i, .string p] w fun e w' => e = .returned (.tuple #[.string none8, .int .i64 1]) ∧ Below w.heap.size w w' := by
  have IQ := fun u => isPANr_any q u sq
  have IP := fun u => isPINr_any p u sp
  unfold maxLen at sk si
  rw [hq] at IQ
  rw [hp] at IP
  have i0 : (0 : Int) < (i.size : Int) := by omega
  go_enter Try.func13, Try.ntmps13
  go_wp2_with fail
  refine (IQ _).mono ?_
  rintro e u ⟨rfl, hu⟩
  rw [hu]
  clear hu u
  go_wp2_with fail
  refine (IP _).mono ?_
  rintro e u ⟨rfl, hu⟩
  rw [hu]
  clear hu u
  go_wp2
  exact bodyPost_ret (v := .tuple #[.string none8, .int .i64 1]) (by simp [results, Try.results13, go_sem, none8]) rfl ⟨by simp, Below.refl _ _⟩
set_option maxRecDepth 100000 in
set_option maxHeartbeats 800000 in
theorem bad_i3 (k q i p : ByteArray) (sk : k.size ≤ maxLen) (sq : q.size ≤ maxLen) (si : i.size ≤ maxLen) (sp : p.size ≤ maxLen) (x16 : ((k.size : Int) != 16) = false) (hq : panB q = true) (hp : pinB p = true) (i1 : ((i.size : Int) != 1) = false) (i00 : 0 < i.size) (i2 : ¬ ((i[0]'i00).toNat : Int) < 49) (i3 : (54 : Int) < ((i[0]'i00).toNat : Int)) (w : World) :
    Calls Try.prog 13 #[.string k, .string q, .string i, .string p] w fun e w' => e = .returned (.tuple #[.string none8, .int .i64 1]) ∧ Below w.heap.size w w' := by
  have IQ := fun u => isPANr_any q u sq
  have IP := fun u => isPINr_any p u sp
  unfold maxLen at sk si
  rw [hq] at IQ
  rw [hp] at IP
  have i0 : (0 : Int) < (i.size : Int) := by omega
  have i2' : (49 : Int) ≤ ((i[0]'i00).toNat : Int) := by omega
  go_enter Try.func13, Try.ntmps13
  go_wp2_with fail
  refine (IQ _).mono ?_
  rintro e u ⟨rfl, hu⟩
  rw [hu]
  clear hu u
  go_wp2_with fail
  refine (IP _).mono ?_
  rintro e u ⟨rfl, hu⟩
  rw [hu]
  clear hu u
  go_wp2
  exact bodyPost_ret (v := .tuple #[.string none8, .int .i64 1]) (by simp [results, Try.results13, go_sem, none8]) rfl ⟨by simp, Below.refl _ _⟩
theorem value_ref (k q i p : ByteArray) (sk : k.size ≤ maxLen) (sq : q.size ≤ maxLen) (si : i.size ≤ maxLen) (sp : p.size ≤ maxLen) (w : World) :
    Calls Try.prog 13 #[.string k, .string q, .string i, .string p] w (Post (valR k q i p) w) := by
  by_cases h16 : k.size = 16
  · have x16 : ((k.size : Int) != 16) = false := by rw [h16]; rfl
    cases hq : panB q
    · have e : valR k q i p = (none8, 50) := by unfold valR; rw [if_neg (by simpa using h16), if_pos hq]
      rw [e]
      exact bad_pan k q i p sk sq si sp x16 hq w
    · cases hp : pinB p
      · have e : valR k q i p = (none8, 60) := by unfold valR; rw [if_neg (by simpa using h16), if_neg (by simp [hq]), if_pos hp]
        rw [e]
        exact bad_pin k q i p sk sq si sp x16 hq hp w
      · cases hi : idxB i
        · have e : valR k q i p = (none8, 1) := by unfold valR; rw [if_neg (by simpa using h16), if_neg (by simp [hq]), if_neg (by simp [hp]), if_pos hi]
          rw [e]
          by_cases h1 : i.size = 1
          · have x1 : ((i.size : Int) != 1) = false := by rw [h1]; rfl
            have i00 : 0 < i.size := by omega
            have g0 := gb_eq i 0 i00
            by_cases h2 : ((i[0]'i00).toNat : Int) < 49
            · exact bad_i2 k q i p sk sq si sp x16 hq hp x1 i00 h2 w
            · by_cases h3 : (54 : Int) < ((i[0]'i00).toNat : Int)
              · exact bad_i3 k q i p sk sq si sp x16 hq hp x1 i00 h2 h3 w
              · exfalso
                have : idxB i = true := by rw [idxB_iff, ← g0]; omega
                rw [this] at hi
                cases hi
          · exact bad_i1 k q i p sk sq si sp x16 hq hp (by rw [bne_iff_ne]; omega) w
        · have e : valR k q i p = (⟨((da (vh k q i p) ++ db (vh k q i p)).take 4).toArray⟩, 0) := by unfold valR; rw [if_neg (by simpa using h16), if_neg (by simp [hq]), if_neg (by simp [hp]), if_neg (by simp [hi])]
          rw [e]
          exact value_ref_good k q i p h16 sq si sp hq hp hi w
  · have e1 : valR k q i p = (none8, 30) := by unfold valR; rw [if_pos (by simpa using h16)]
    rw [e1]
    exact bad_key k q i p sk sq si sp (by rw [bne_iff_ne]; omega) w
end Go.Proofs.Ytciblmdpngnakaa.Vr
