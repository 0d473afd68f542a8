/- Frames: fed. -/
import Derived.Test.YtfoddooehanemaaFk
namespace Go.Proofs.Ytfoddooehanemaa.Fu
set_option linter.unusedVariables false
set_option linter.unusedSimpArgs false
open Go.RowKit Lib0 Kb Fa Fb Fc Fm Fe Ff Fg Fj Fk
theorem extract_list (s : ByteArray) (n : Nat) (hn : n ≤ s.size) : s.data.toList = (s.extract 0 n).data.toList ++ (s.extract n s.size).data.toList := by
  simp only [ByteArray.data_extract, Array.toList_extract, List.extract_eq_take_drop]
  simp only [List.drop_zero, Nat.sub_zero]
  rw [show s.size - n = (s.data.toList.drop n).length by simp, List.take_length, List.take_append_drop]
/-- a slice's number there -/
theorem lies_at {w : World} {v : Value} {z : List Int} (h : Sl.Lies w v z) (k : Nat) (hk : k < z.length) : ∃ a cap, v = .slice (some a) z.length cap ∧ w.cell? (a.add k) = some (.int .i64 z[k]) ∧ (Lit.int .i64 z[k]).wf = true := by
  rcases h with ⟨rfl, rfl⟩ | ⟨a, cap, rfl, h1, h2, h3, h4⟩
  · simp at hk
  · exact ⟨a, cap, rfl, h3 k hk, h4 _ (List.getElem_mem hk)⟩
theorem lies_len {w : World} {v : Value} {z : List Int} (h : Sl.Lies w v z) : ∃ a cap, v = .slice a z.length cap := by
  rcases h with ⟨rfl, rfl⟩ | ⟨a, cap, rfl, h1, h2, h3, h4⟩
  · exact ⟨_, _, rfl⟩
  · exact ⟨_, _, rfl⟩
/-- Feed of bytes that were made just now -/
theorem lies_max {w : World} {v : Value} {z : List Int} (h : Sl.Lies w v z) : z.length ≤ maxLen := by
  rcases h with ⟨rfl, rfl⟩ | ⟨a, cap, rfl, h1, h2, h3, h4⟩
  · exact Nat.zero_le _
  · omega
theorem feed_at {w wr : World} {g h m : Nat} {st : St} {i : Nat} {bb : Option Nat} (L : Lie wr g h m st i bb) (hb : Below wr.heap.size wr w) (h1 : 1 ≤ h) (h4 : h ≤ 4) (hm : m ≤ 9999) (C : Nat) (bl : List UInt8) (n : Nat) (hn : bl.length = n) (hC : n ≤ C) (hin : Inb w wr.heap.size 0 bl) (hsz : w.heap.size = wr.heap.size + 1) (hi0 : i + n ≤ 4611686018427387904) (hl0 : n ≤ 8796093022000) :
    Calls Try.prog 12 #[.pointer (some ⟨g, 0, none⟩), .slice (some ⟨wr.heap.size, 0, none⟩) n C] w (PostF w g h m bb (run h m ⟨st, i, []⟩ bl)) := by
  subst hn
  have hlt := L.lt
  refine feed_any (L.below hb) h1 h4 hm wr.heap.size 0 C bl hC hin (by omega) (fun q hq => ?_) (by omega) hi0 hl0
  have := (L.blt q hq).1
  omega
theorem own_pos {w : World} {B n : Nat} {v : Value} {xs : List Value} (o : w.ownsRow B 9 1 v n xs) (hn : 0 < n) : ∃ gv c, v = .slice (some ⟨gv, 0, none⟩) n c ∧ ∀ j u, xs[j]? = some u → w.cell? ((⟨gv, 0, none⟩ : Addr).add j) = some u := by
  rcases o.2 with ⟨_, h2⟩ | ⟨g, cap, cur, rfl, h3, h4, h5⟩
  · omega
  · exact ⟨g, cap, rfl, o.cells rfl⟩
theorem strs_one (ls : List (List UInt8)) : ∀ u ∈ strs ls, u.oneCell' = true := by
  intro u hu
  simp only [strs, List.mem_map] at hu
  obtain ⟨l, _, rfl⟩ := hu
  rfl
theorem strs_app (a b : List (List UInt8)) : strs (a ++ b) = strs a ++ strs b := by simp [strs]
set_option maxRecDepth 100000 in
set_option maxHeartbeats 3200000 in
theorem fed_any {w : World} {g h m : Nat} {st0 : St} {i0 : Nat} {bb0 : Option Nat} (L : Lie w g h m st0 i0 bb0) (h1 : 1 ≤ h) (h4 : h ≤ 4) (hm : m ≤ 9999) (s : ByteArray) (hi0 : i0 + s.size ≤ 4611686018427387904) (hl0 : s.size ≤ 8796093022000) (cv : Value) (z : List Int) (hz : ∀ x, Fr (g :: bb0.toList) w x → Sl.Lies x cv z) :
    Calls Try.prog 30 #[.pointer (some ⟨g, 0, none⟩), .string s, cv] w (PostF w g h m bb0 (run h m ⟨st0, i0, []⟩ s.data.toList)) := by
  have hg0 := L.lt
  have HZ : Hid (∀ x, Fr (g :: bb0.toList) w x → Sl.Lies x cv z) := hz
  have HI : Hid (i0 + s.size ≤ 4611686018427387904 ∧ s.size ≤ 8796093022000 ∧ 1 ≤ h ∧ h ≤ 4 ∧ m ≤ 9999) := ⟨hi0, hl0, h1, h4, hm⟩
  have HM : Hid (z.length ≤ maxLen) := lies_max (hz w (Fr.refl _ _))
  obtain ⟨ca, cc, hcv⟩ := lies_len (hz w (Fr.refl _ _))
  subst hcv
  obtain ⟨is, hi, hs0, hs1, hs2⟩ := info_parts infoStr
  clear hz hi0 hl0 h1 h4 hm
  go_enter Try.func30, Try.ntmps30
  go_wp2_with fail
  go_loopw [1, 8, 9, 10] (fun sv lv ev iv wr => ∃ (r : ByteArray) (k : Nat) (st : St) (i : Nat) (out : List (List UInt8)) (bb : Option Nat) (le : Nat), sv = .string r ∧ iv = .int .i64 (k : Int) ∧ k ≤ z.length ∧ ev = .int .i64 (le : Int) ∧ (errN st = 0 → le = 0) ∧ JF w wr g h m s.data.toList st0 i0 bb0 st i out r.data.toList bb lv) (fun _ _ _ iv _ => z.length - (intOf iv).toNat)
  case atStart =>
    exact ⟨s, 0, st0, i0, [], bb0, 0, rfl, rfl, Nat.zero_le _, rfl, fun _ => rfl, L, own_nil _ _, Fr.refl _ _, fun q hq => .inl hq, rfl, Nat.le_refl _, by simp, fun _ => rfl⟩
  case round =>
    obtain ⟨r, k, st, i, out, bb, le, rfl, rfl, hk, rfl, hle, J⟩ := hrel
    have HE : Hid (errN st = 0 → le = 0) := hle
    clear hle
    by_cases hc1 : k < z.length
    · cases hr0 : r.toList.isEmpty with
      | true =>
        have q0 : (k : Int) < (z.length : Int) := by omega
        obtain ⟨C, w1, cvb, hC, hbw, hsz, hin⟩ := conv_bytes wr r
        have hrs : r.size ≤ s.size := by have := J.co; have h1 : r.data.toList.length = r.size := rfl; have h2 : s.data.toList.length = s.size := rfl; omega
        have hix : i + r.size ≤ 4611686018427387904 := by
          have h3 := J.ci
          have h1 : r.data.toList.length = r.size := rfl
          have h2 : s.data.toList.length = s.size := rfl
          have := HI.out
          omega
        have FD := feed_at J.lie hbw HI.out.2.2.1 HI.out.2.2.2.1 HI.out.2.2.2.2 C r.data.toList r.size rfl hC hin hsz hix (by have := HI.out; omega)
        have J1 : JF w wr g h m s.data.toList st0 i0 bb0 st i out (r.data.toList ++ []) bb u8 := by rw [List.append_nil]; exact J
        have HJ : Hid (JF w wr g h m s.data.toList st0 i0 bb0 st i out (r.data.toList ++ []) bb u8) := J1
        have HBW : Hid (Below wr.heap.size wr w1) := hbw
        clear J J1 hbw hin hsz hix hC hrs hk
        go_wp2_with fail
        refine FD.mono ?_
        rintro e y P
        obtain ⟨v, st', i', o', bb', rfl, ownv, hvn, L2, own2, f2, nb2, eq2, ci2, co2, her⟩ := JF.fed HJ.out HBW.out hg0 P
        have NL := HJ.out.nl
        clear P FD cvb
        by_cases he : errN st' = 0
        · obtain rfl := HE.out (her he)
          have q9 : ((errN st' : Int) != 0) = false := by simp [he]
          have HEE : Hid (errN st' = 0) := he
          clear her he
          cases o' with
          | nil =>
            obtain rfl := hvn rfl
            have J2 := JF.app (o' := []) (y2 := y) (lv' := u8) L2 own2 f2 nb2 eq2 ci2 co2 (by rw [List.append_nil]; exact own2) (by rw [List.append_nil]; exact NL) (grown_refl _ _)
            have HJ2 : Hid (JF w y g h m s.data.toList st0 i0 bb0 st' i' (out ++ []) [] bb' u8) := J2
            have HO2 : Hid (y.ownsRow w.heap.size 9 1 u8 out.length (strs out)) := own2
            clear J2 ownv L2 own2 f2 nb2 eq2 ci2 co2 hvn NL
            go_wp2_with (at_builtin; refine wpList_append_own_none rfl _ _ _ rfl w.heap.size 9 is 1 Try.underlying39 hi u8 out.length (strs out) rfl HO2.out rfl ?_)
            have HF : Hid (run h m ⟨st0, i0, []⟩ s.data.toList = ⟨st', i', (out ++ [])⟩) := HJ2.out.eq
            go_ret2
            rw [HF.out]
            exact ⟨u8, bb', by show _ = Ending.returned (.tuple #[_, .int .i64 (errN st' : Int)]); rw [HEE.out]; rfl, HJ2.out.own, HJ2.out.lie, HJ2.out.nb, HJ2.out.fr, HJ2.out.nl⟩
          | cons o1 os =>
            obtain ⟨gv, vc, rfl, hnews⟩ := own_pos ownv (by simp)
            have HP : Hid (∀ (y2 : World) (u8' : Value), y2.ownsRow w.heap.size 9 1 u8' (out.length + (o1 :: os).length) (strs out ++ strs (o1 :: os)) → y.grownBy y2 u8.ownBlock → JF w y2 g h m s.data.toList st0 i0 bb0 st' i' (out ++ o1 :: os) [] bb' u8') := fun y2 u8' o9 g9 => JF.app L2 own2 f2 nb2 eq2 ci2 co2 (by rw [strs_app, List.length_append]; exact o9) (fun hx => (by simp at hx)) g9
            have HO2 : Hid (y.ownsRow w.heap.size 9 1 u8 out.length (strs out)) := own2
            have HNW : Hid (∀ j u, (strs (o1 :: os))[j]? = some u → y.cell? ((⟨gv, 0, none⟩ : Addr).add j) = some u) := hnews
            have HB : Hid (out.length + (o1 :: os).length ≤ 8796093022000) := by
              have h9 := HI.out
              have hs : s.data.toList.length = s.size := rfl
              rw [List.length_append] at co2
              show _ ≤ _
              omega
            have HSZ : Hid (w.heap.size ≤ y.heap.size) := f2.size
            have hos : 0 < (o1 :: os).length := by simp
            have hol : (strs (o1 :: os)).length = (o1 :: os).length * 1 := by rw [strs_length, Nat.mul_one]
            have HOS : Hid (0 < (o1 :: os).length ∧ (strs (o1 :: os)).length = (o1 :: os).length * 1 ∧ ∀ u ∈ strs (o1 :: os), u.oneCell' = true) := ⟨hos, hol, strs_one _⟩
            clear ownv L2 own2 f2 nb2 eq2 ci2 co2 hvn NL hnews hos hol
            generalize hoo : o1 :: os = oo at *
            clear hoo
            go_wp2_with (at_builtin; refine wpList_append_lies _ rfl _ _ _ rfl w.heap.size 9 is _ 1 16 Try.underlying39 hi hs0 hs1 hs2 rfl (by omega) u8 out.length (strs out) rfl HO2.out ⟨gv, 0, none⟩ oo.length vc (strs oo) rfl HOS.out.2.1 HNW.out HOS.out.2.2 HOS.out.1 (by have := HB.out; unfold maxLen; omega) (by have := HB.out; omega) HSZ.out _ rfl ?_; intro g3 cap3 y3 own3 gr3 at3 lt3)
            have HJ2 : Hid (JF w y3 g h m s.data.toList st0 i0 bb0 st' i' (out ++ oo) [] bb' (.slice (some ⟨g3, 0, none⟩) (out.length + oo.length) cap3)) := HP.out y3 _ own3 gr3
            have HF : Hid (run h m ⟨st0, i0, []⟩ s.data.toList = ⟨st', i', (out ++ oo)⟩) := HJ2.out.eq
            go_ret2
            rw [HF.out]
            exact ⟨(.slice (some ⟨g3, 0, none⟩) (out.length + oo.length) cap3), bb', by show _ = Ending.returned (.tuple #[_, .int .i64 (errN st' : Int)]); rw [HEE.out]; rfl, HJ2.out.own, HJ2.out.lie, HJ2.out.nb, HJ2.out.fr, HJ2.out.nl⟩
        · have q9 : ((errN st' : Int) != 0) = true := by simp; omega
          clear her he
          cases o' with
          | nil =>
            obtain rfl := hvn rfl
            have J2 := JF.app (o' := []) (y2 := y) (lv' := u8) L2 own2 f2 nb2 eq2 ci2 co2 (by rw [List.append_nil]; exact own2) (by rw [List.append_nil]; exact NL) (grown_refl _ _)
            have HJ2 : Hid (JF w y g h m s.data.toList st0 i0 bb0 st' i' (out ++ []) [] bb' u8) := J2
            have HO2 : Hid (y.ownsRow w.heap.size 9 1 u8 out.length (strs out)) := own2
            clear J2 ownv L2 own2 f2 nb2 eq2 ci2 co2 hvn NL
            go_wp2_with (at_builtin; refine wpList_append_own_none rfl _ _ _ rfl w.heap.size 9 is 1 Try.underlying39 hi u8 out.length (strs out) rfl HO2.out rfl ?_)
            have HF : Hid (run h m ⟨st0, i0, []⟩ s.data.toList = ⟨st', i', (out ++ [])⟩) := HJ2.out.eq
            go_ret2
            rw [HF.out]
            exact ⟨u8, bb', rfl, HJ2.out.own, HJ2.out.lie, HJ2.out.nb, HJ2.out.fr, HJ2.out.nl⟩
          | cons o1 os =>
            obtain ⟨gv, vc, rfl, hnews⟩ := own_pos ownv (by simp)
            have HP : Hid (∀ (y2 : World) (u8' : Value), y2.ownsRow w.heap.size 9 1 u8' (out.length + (o1 :: os).length) (strs out ++ strs (o1 :: os)) → y.grownBy y2 u8.ownBlock → JF w y2 g h m s.data.toList st0 i0 bb0 st' i' (out ++ o1 :: os) [] bb' u8') := fun y2 u8' o9 g9 => JF.app L2 own2 f2 nb2 eq2 ci2 co2 (by rw [strs_app, List.length_append]; exact o9) (fun hx => (by simp at hx)) g9
            have HO2 : Hid (y.ownsRow w.heap.size 9 1 u8 out.length (strs out)) := own2
            have HNW : Hid (∀ j u, (strs (o1 :: os))[j]? = some u → y.cell? ((⟨gv, 0, none⟩ : Addr).add j) = some u) := hnews
            have HB : Hid (out.length + (o1 :: os).length ≤ 8796093022000) := by
              have h9 := HI.out
              have hs : s.data.toList.length = s.size := rfl
              rw [List.length_append] at co2
              show _ ≤ _
              omega
            have HSZ : Hid (w.heap.size ≤ y.heap.size) := f2.size
            have hos : 0 < (o1 :: os).length := by simp
            have hol : (strs (o1 :: os)).length = (o1 :: os).length * 1 := by rw [strs_length, Nat.mul_one]
            have HOS : Hid (0 < (o1 :: os).length ∧ (strs (o1 :: os)).length = (o1 :: os).length * 1 ∧ ∀ u ∈ strs (o1 :: os), u.oneCell' = true) := ⟨hos, hol, strs_one _⟩
            clear ownv L2 own2 f2 nb2 eq2 ci2 co2 hvn NL hnews hos hol
            generalize hoo : o1 :: os = oo at *
            clear hoo
            go_wp2_with (at_builtin; refine wpList_append_lies _ rfl _ _ _ rfl w.heap.size 9 is _ 1 16 Try.underlying39 hi hs0 hs1 hs2 rfl (by omega) u8 out.length (strs out) rfl HO2.out ⟨gv, 0, none⟩ oo.length vc (strs oo) rfl HOS.out.2.1 HNW.out HOS.out.2.2 HOS.out.1 (by have := HB.out; unfold maxLen; omega) (by have := HB.out; omega) HSZ.out _ rfl ?_; intro g3 cap3 y3 own3 gr3 at3 lt3)
            have HJ2 : Hid (JF w y3 g h m s.data.toList st0 i0 bb0 st' i' (out ++ oo) [] bb' (.slice (some ⟨g3, 0, none⟩) (out.length + oo.length) cap3)) := HP.out y3 _ own3 gr3
            have HF : Hid (run h m ⟨st0, i0, []⟩ s.data.toList = ⟨st', i', (out ++ oo)⟩) := HJ2.out.eq
            go_ret2
            rw [HF.out]
            exact ⟨(.slice (some ⟨g3, 0, none⟩) (out.length + oo.length) cap3), bb', rfl, HJ2.out.own, HJ2.out.lie, HJ2.out.nb, HJ2.out.fr, HJ2.out.nl⟩
      | false =>
        obtain ⟨a, cap, hcv, hcell, hwf⟩ := lies_at (HZ.out wr J.fr) k hc1
        injection hcv with hca _ hcc
        subst hca
        subst hcc
        have hb1 := bounds_i64 hwf
        have hrs : r.size ≤ s.size := by have := J.co; have h1 : r.data.toList.length = r.size := rfl; have h2 : s.data.toList.length = s.size := rfl; omega
        obtain ⟨n, hn, hnr⟩ : ∃ n : Nat, Pick.pickOf z[k] ((r.size : Int) + 1) = (n : Int) ∧ n ≤ r.size := by
          have p1 := Pick.pick_lo z[k] ((r.size : Int) + 1) (by omega)
          have p2 := Pick.pick_hi z[k] ((r.size : Int) + 1) (by omega)
          exact ⟨(Pick.pickOf z[k] ((r.size : Int) + 1)).toNat, by omega, by omega⟩
        have pk := fun x => Pick.pick_any z[k] ((r.size : Int) + 1) x hb1.1 hb1.2 (by omega) (by have := HI.out; omega)
        rw [hn] at pk
        generalize z[k] = zk at *
        have q0 : (k : Int) < (z.length : Int) := by omega
        have q1 : (0 : Int) ≤ (n : Int) := by omega
        have q2 : (n : Int) ≤ (r.size : Int) := by omega
        have q3 : (r.size : Int) ≤ 8796093022000 := by have := HI.out; omega
        have q4 : (0 : Int) ≤ (k : Int) := by omega
        have q5 : (k : Int) + 1 ≤ 9223372036854775807 := by have := HM.out; unfold maxLen at this; omega
        obtain ⟨C, w1, cvb, hC, hbw, hsz, hin⟩ := conv_bytes wr (r.extract 0 n)
        have hxs : (r.extract 0 n).size = n := by rw [ByteArray.size_extract]; omega
        rw [hxs] at cvb hC
        have hxl : (r.extract 0 n).data.toList.length = n := hxs
        have hsp := extract_list r n hnr
        rw [hsp] at J
        have hlr : (r.extract n r.size).data.toList.length = r.size - n := by show (r.extract n r.size).size = _; rw [ByteArray.size_extract]; omega
        have hix : i + n ≤ 4611686018427387904 := by
          have h3 := J.ci
          have h2 : s.data.toList.length = s.size := rfl
          have := HI.out
          rw [List.length_append] at h3
          omega
        have FD := feed_at J.lie hbw HI.out.2.2.1 HI.out.2.2.2.1 HI.out.2.2.2.2 C _ n hxl hC hin hsz hix (by have := HI.out; omega)
        have HJ : Hid (JF w wr g h m s.data.toList st0 i0 bb0 st i out ((r.extract 0 n).data.toList ++ (r.extract n r.size).data.toList) bb u8) := J
        have HBW : Hid (Below wr.heap.size wr w1) := hbw
        have HK : Hid (k < z.length) := hc1
        clear J hbw hin hsz hix hxl hxs hC hsp hlr hk hb1 hn hnr
        go_wp2_with (go_at_call 29; refine (pk _).mono ?_; rintro e9 y9 ⟨rfl, hy9⟩; rw [hy9]; clear hy9 y9)
        refine FD.mono ?_
        rintro e y P
        obtain ⟨v, st', i', o', bb', rfl, ownv, hvn, L2, own2, f2, nb2, eq2, ci2, co2, her⟩ := JF.fed HJ.out HBW.out hg0 P
        have NL := HJ.out.nl
        clear P FD her cvb
        cases o' with
        | nil =>
          obtain rfl := hvn rfl
          have J2 := JF.app (o' := []) (y2 := y) (lv' := u8) L2 own2 f2 nb2 eq2 ci2 co2 (by rw [List.append_nil]; exact own2) (by rw [List.append_nil]; exact NL) (grown_refl _ _)
          have HJ2 : Hid (JF w y g h m s.data.toList st0 i0 bb0 st' i' (out ++ []) (r.extract n r.size).data.toList bb' u8) := J2
          have HO2 : Hid (y.ownsRow w.heap.size 9 1 u8 out.length (strs out)) := own2
          clear J2 ownv L2 own2 f2 nb2 eq2 ci2 co2 hvn NL
          go_wp2_with (at_builtin; refine wpList_append_own_none rfl _ _ _ rfl w.heap.size 9 is 1 Try.underlying39 hi u8 out.length (strs out) rfl HO2.out rfl ?_)
          refine ⟨⟨r.extract n r.size, k + 1, st', i', (out ++ []), bb', errN st', rfl, by simp, by have := HK.out; omega, rfl, fun h => h, HJ2.out⟩, ?_⟩
          simp only [intOf]
          have := HK.out
          omega
        | cons o1 os =>
          obtain ⟨gv, vc, rfl, hnews⟩ := own_pos ownv (by simp)
          have HP : Hid (∀ (y2 : World) (u8' : Value), y2.ownsRow w.heap.size 9 1 u8' (out.length + (o1 :: os).length) (strs out ++ strs (o1 :: os)) → y.grownBy y2 u8.ownBlock → JF w y2 g h m s.data.toList st0 i0 bb0 st' i' (out ++ o1 :: os) (r.extract n r.size).data.toList bb' u8') := fun y2 u8' o9 g9 => JF.app L2 own2 f2 nb2 eq2 ci2 co2 (by rw [strs_app, List.length_append]; exact o9) (fun hx => (by simp at hx)) g9
          have HO2 : Hid (y.ownsRow w.heap.size 9 1 u8 out.length (strs out)) := own2
          have HNW : Hid (∀ j u, (strs (o1 :: os))[j]? = some u → y.cell? ((⟨gv, 0, none⟩ : Addr).add j) = some u) := hnews
          have HB : Hid (out.length + (o1 :: os).length ≤ 8796093022000) := by
            have h9 := HI.out
            have hs : s.data.toList.length = s.size := rfl
            rw [List.length_append] at co2
            show _ ≤ _
            omega
          have HSZ : Hid (w.heap.size ≤ y.heap.size) := f2.size
          have hos : 0 < (o1 :: os).length := by simp
          have hol : (strs (o1 :: os)).length = (o1 :: os).length * 1 := by rw [strs_length, Nat.mul_one]
          have HOS : Hid (0 < (o1 :: os).length ∧ (strs (o1 :: os)).length = (o1 :: os).length * 1 ∧ ∀ u ∈ strs (o1 :: os), u.oneCell' = true) := ⟨hos, hol, strs_one _⟩
          clear ownv L2 own2 f2 nb2 eq2 ci2 co2 hvn NL hnews hos hol
          generalize hoo : o1 :: os = oo at *
          clear hoo
          go_wp2_with (at_builtin; refine wpList_append_lies _ rfl _ _ _ rfl w.heap.size 9 is _ 1 16 Try.underlying39 hi hs0 hs1 hs2 rfl (by omega) u8 out.length (strs out) rfl HO2.out ⟨gv, 0, none⟩ oo.length vc (strs oo) rfl HOS.out.2.1 HNW.out HOS.out.2.2 HOS.out.1 (by have := HB.out; unfold maxLen; omega) (by have := HB.out; omega) HSZ.out _ rfl ?_; intro g3 cap3 y3 own3 gr3 at3 lt3)
          have HJ2 : Hid (JF w y3 g h m s.data.toList st0 i0 bb0 st' i' (out ++ oo) (r.extract n r.size).data.toList bb' (.slice (some ⟨g3, 0, none⟩) (out.length + oo.length) cap3)) := HP.out y3 _ own3 gr3
          refine ⟨⟨r.extract n r.size, k + 1, st', i', (out ++ oo), bb', errN st', rfl, by simp, by have := HK.out; omega, rfl, fun h => h, HJ2.out⟩, ?_⟩
          simp only [intOf]
          have := HK.out
          omega
    · have q0 : ¬ (k : Int) < (z.length : Int) := by omega
      obtain ⟨C, w1, cvb, hC, hbw, hsz, hin⟩ := conv_bytes wr r
      have hrs : r.size ≤ s.size := by have := J.co; have h1 : r.data.toList.length = r.size := rfl; have h2 : s.data.toList.length = s.size := rfl; omega
      have hix : i + r.size ≤ 4611686018427387904 := by
        have h3 := J.ci
        have h1 : r.data.toList.length = r.size := rfl
        have h2 : s.data.toList.length = s.size := rfl
        have := HI.out
        omega
      have FD := feed_at J.lie hbw HI.out.2.2.1 HI.out.2.2.2.1 HI.out.2.2.2.2 C r.data.toList r.size rfl hC hin hsz hix (by have := HI.out; omega)
      have J1 : JF w wr g h m s.data.toList st0 i0 bb0 st i out (r.data.toList ++ []) bb u8 := by rw [List.append_nil]; exact J
      have HJ : Hid (JF w wr g h m s.data.toList st0 i0 bb0 st i out (r.data.toList ++ []) bb u8) := J1
      have HBW : Hid (Below wr.heap.size wr w1) := hbw
      clear J J1 hbw hin hsz hix hC hrs hk
      go_wp2_with fail
      refine FD.mono ?_
      rintro e y P
      obtain ⟨v, st', i', o', bb', rfl, ownv, hvn, L2, own2, f2, nb2, eq2, ci2, co2, her⟩ := JF.fed HJ.out HBW.out hg0 P
      have NL := HJ.out.nl
      clear P FD cvb
      by_cases he : errN st' = 0
      · obtain rfl := HE.out (her he)
        have q9 : ((errN st' : Int) != 0) = false := by simp [he]
        have HEE : Hid (errN st' = 0) := he
        clear her he
        cases o' with
        | nil =>
          obtain rfl := hvn rfl
          have J2 := JF.app (o' := []) (y2 := y) (lv' := u8) L2 own2 f2 nb2 eq2 ci2 co2 (by rw [List.append_nil]; exact own2) (by rw [List.append_nil]; exact NL) (grown_refl _ _)
          have HJ2 : Hid (JF w y g h m s.data.toList st0 i0 bb0 st' i' (out ++ []) [] bb' u8) := J2
          have HO2 : Hid (y.ownsRow w.heap.size 9 1 u8 out.length (strs out)) := own2
          clear J2 ownv L2 own2 f2 nb2 eq2 ci2 co2 hvn NL
          go_wp2_with (at_builtin; refine wpList_append_own_none rfl _ _ _ rfl w.heap.size 9 is 1 Try.underlying39 hi u8 out.length (strs out) rfl HO2.out rfl ?_)
          have HF : Hid (run h m ⟨st0, i0, []⟩ s.data.toList = ⟨st', i', (out ++ [])⟩) := HJ2.out.eq
          go_ret2
          rw [HF.out]
          exact ⟨u8, bb', by show _ = Ending.returned (.tuple #[_, .int .i64 (errN st' : Int)]); rw [HEE.out]; rfl, HJ2.out.own, HJ2.out.lie, HJ2.out.nb, HJ2.out.fr, HJ2.out.nl⟩
        | cons o1 os =>
          obtain ⟨gv, vc, rfl, hnews⟩ := own_pos ownv (by simp)
          have HP : Hid (∀ (y2 : World) (u8' : Value), y2.ownsRow w.heap.size 9 1 u8' (out.length + (o1 :: os).length) (strs out ++ strs (o1 :: os)) → y.grownBy y2 u8.ownBlock → JF w y2 g h m s.data.toList st0 i0 bb0 st' i' (out ++ o1 :: os) [] bb' u8') := fun y2 u8' o9 g9 => JF.app L2 own2 f2 nb2 eq2 ci2 co2 (by rw [strs_app, List.length_append]; exact o9) (fun hx => (by simp at hx)) g9
          have HO2 : Hid (y.ownsRow w.heap.size 9 1 u8 out.length (strs out)) := own2
          have HNW : Hid (∀ j u, (strs (o1 :: os))[j]? = some u → y.cell? ((⟨gv, 0, none⟩ : Addr).add j) = some u) := hnews
          have HB : Hid (out.length + (o1 :: os).length ≤ 8796093022000) := by
            have h9 := HI.out
            have hs : s.data.toList.length = s.size := rfl
            rw [List.length_append] at co2
            show _ ≤ _
            omega
          have HSZ : Hid (w.heap.size ≤ y.heap.size) := f2.size
          have hos : 0 < (o1 :: os).length := by simp
          have hol : (strs (o1 :: os)).length = (o1 :: os).length * 1 := by rw [strs_length, Nat.mul_one]
          have HOS : Hid (0 < (o1 :: os).length ∧ (strs (o1 :: os)).length = (o1 :: os).length * 1 ∧ ∀ u ∈ strs (o1 :: os), u.oneCell' = true) := ⟨hos, hol, strs_one _⟩
          clear ownv L2 own2 f2 nb2 eq2 ci2 co2 hvn NL hnews hos hol
          generalize hoo : o1 :: os = oo at *
          clear hoo
          go_wp2_with (at_builtin; refine wpList_append_lies _ rfl _ _ _ rfl w.heap.size 9 is _ 1 16 Try.underlying39 hi hs0 hs1 hs2 rfl (by omega) u8 out.length (strs out) rfl HO2.out ⟨gv, 0, none⟩ oo.length vc (strs oo) rfl HOS.out.2.1 HNW.out HOS.out.2.2 HOS.out.1 (by have := HB.out; unfold maxLen; omega) (by have := HB.out; omega) HSZ.out _ rfl ?_; intro g3 cap3 y3 own3 gr3 at3 lt3)
          have HJ2 : Hid (JF w y3 g h m s.data.toList st0 i0 bb0 st' i' (out ++ oo) [] bb' (.slice (some ⟨g3, 0, none⟩) (out.length + oo.length) cap3)) := HP.out y3 _ own3 gr3
          have HF : Hid (run h m ⟨st0, i0, []⟩ s.data.toList = ⟨st', i', (out ++ oo)⟩) := HJ2.out.eq
          go_ret2
          rw [HF.out]
          exact ⟨(.slice (some ⟨g3, 0, none⟩) (out.length + oo.length) cap3), bb', by show _ = Ending.returned (.tuple #[_, .int .i64 (errN st' : Int)]); rw [HEE.out]; rfl, HJ2.out.own, HJ2.out.lie, HJ2.out.nb, HJ2.out.fr, HJ2.out.nl⟩
      · have q9 : ((errN st' : Int) != 0) = true := by simp; omega
        clear her he
        cases o' with
        | nil =>
          obtain rfl := hvn rfl
          have J2 := JF.app (o' := []) (y2 := y) (lv' := u8) L2 own2 f2 nb2 eq2 ci2 co2 (by rw [List.append_nil]; exact own2) (by rw [List.append_nil]; exact NL) (grown_refl _ _)
          have HJ2 : Hid (JF w y g h m s.data.toList st0 i0 bb0 st' i' (out ++ []) [] bb' u8) := J2
          have HO2 : Hid (y.ownsRow w.heap.size 9 1 u8 out.length (strs out)) := own2
          clear J2 ownv L2 own2 f2 nb2 eq2 ci2 co2 hvn NL
          go_wp2_with (at_builtin; refine wpList_append_own_none rfl _ _ _ rfl w.heap.size 9 is 1 Try.underlying39 hi u8 out.length (strs out) rfl HO2.out rfl ?_)
          have HF : Hid (run h m ⟨st0, i0, []⟩ s.data.toList = ⟨st', i', (out ++ [])⟩) := HJ2.out.eq
          go_ret2
          rw [HF.out]
          exact ⟨u8, bb', rfl, HJ2.out.own, HJ2.out.lie, HJ2.out.nb, HJ2.out.fr, HJ2.out.nl⟩
        | cons o1 os =>
          obtain ⟨gv, vc, rfl, hnews⟩ := own_pos ownv (by simp)
          have HP : Hid (∀ (y2 : World) (u8' : Value), y2.ownsRow w.heap.size 9 1 u8' (out.length + (o1 :: os).length) (strs out ++ strs (o1 :: os)) → y.grownBy y2 u8.ownBlock → JF w y2 g h m s.data.toList st0 i0 bb0 st' i' (out ++ o1 :: os) [] bb' u8') := fun y2 u8' o9 g9 => JF.app L2 own2 f2 nb2 eq2 ci2 co2 (by rw [strs_app, List.length_append]; exact o9) (fun hx => (by simp at hx)) g9
          have HO2 : Hid (y.ownsRow w.heap.size 9 1 u8 out.length (strs out)) := own2
          have HNW : Hid (∀ j u, (strs (o1 :: os))[j]? = some u → y.cell? ((⟨gv, 0, none⟩ : Addr).add j) = some u) := hnews
          have HB : Hid (out.length + (o1 :: os).length ≤ 8796093022000) := by
            have h9 := HI.out
            have hs : s.data.toList.length = s.size := rfl
            rw [List.length_append] at co2
            show _ ≤ _
            omega
          have HSZ : Hid (w.heap.size ≤ y.heap.size) := f2.size
          have hos : 0 < (o1 :: os).length := by simp
          have hol : (strs (o1 :: os)).length = (o1 :: os).length * 1 := by rw [strs_length, Nat.mul_one]
          have HOS : Hid (0 < (o1 :: os).length ∧ (strs (o1 :: os)).length = (o1 :: os).length * 1 ∧ ∀ u ∈ strs (o1 :: os), u.oneCell' = true) := ⟨hos, hol, strs_one _⟩
          clear ownv L2 own2 f2 nb2 eq2 ci2 co2 hvn NL hnews hos hol
          generalize hoo : o1 :: os = oo at *
          clear hoo
          go_wp2_with (at_builtin; refine wpList_append_lies _ rfl _ _ _ rfl w.heap.size 9 is _ 1 16 Try.underlying39 hi hs0 hs1 hs2 rfl (by omega) u8 out.length (strs out) rfl HO2.out ⟨gv, 0, none⟩ oo.length vc (strs oo) rfl HOS.out.2.1 HNW.out HOS.out.2.2 HOS.out.1 (by have := HB.out; unfold maxLen; omega) (by have := HB.out; omega) HSZ.out _ rfl ?_; intro g3 cap3 y3 own3 gr3 at3 lt3)
          have HJ2 : Hid (JF w y3 g h m s.data.toList st0 i0 bb0 st' i' (out ++ oo) [] bb' (.slice (some ⟨g3, 0, none⟩) (out.length + oo.length) cap3)) := HP.out y3 _ own3 gr3
          have HF : Hid (run h m ⟨st0, i0, []⟩ s.data.toList = ⟨st', i', (out ++ oo)⟩) := HJ2.out.eq
          go_ret2
          rw [HF.out]
          exact ⟨(.slice (some ⟨g3, 0, none⟩) (out.length + oo.length) cap3), bb', rfl, HJ2.out.own, HJ2.out.lie, HJ2.out.nb, HJ2.out.fr, HJ2.out.nl⟩
end Go.Proofs.Ytfoddooehanemaa.Fu
