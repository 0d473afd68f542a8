/- Save: the good way, and of a number that is taken. -/
import Derived.Test.YtmnoplaepjaokaaGreatDoorZh
import Derived.Deep.RegionWith
namespace Go.Proofs.YtmnoplaepjaokaaGreatDoor.Zi
set_option linter.unusedVariables false
set_option linter.unusedSimpArgs false
open Go.RowKit Go.Maps Lib0 Kb Xp Ic Ix If Ig Za Zb Zc Zd Ze Zf Zg Zh
theorem Fo.kp {L : List Fl} (h : Fo L) (z : List Int) (b : Bool) : Fo (Zc.kp z b L) := ⟨Nat.le_trans (kp_len _ _ _) h.len, fun x hx => h.num x (List.mem_filter.1 hx).1, fun x hx => h.str x (List.mem_filter.1 hx).1⟩
set_option maxRecDepth 100000 in
set_option maxHeartbeats 1600000 in
theorem save_ok {w : World} {b mb : Nat} {z : List Int} {kf : KF} {sz c : Nat} (h : Ec w b mb z kf sz c) (hc : c < 1000) (n : Int) (hn : Yc.isNum n = true) (hk : kf n = none) (mti : ByteArray) (v : Value) (L : List Fl) (hM : Ms w mti v L) (hw : (Hr.rt mti && snF 0 L) = true) :
    Calls Tryz.prog 31 #[.pointer (some ⟨b, 0, none⟩), .int .i64 n, .agg #[.string mti, v]] w fun e w' => e = .returned (.int .i64 0) ∧ Ec w' b mb z (kput kf n (some (kp z true L))) (sz + 1) (c + 1) ∧ FrP (fun g => g = mb) w w' := by
  have hnb : -9223372036854775808 ≤ n ∧ n ≤ 9223372036854775807 := by simp [Yc.isNum] at hn; omega
  have HI : Hid (∀ y, Calls Tryz.prog 38 #[.int .i64 n] y fun e w' => e = .returned (.bool true) ∧ w' = y) := fun y => hn ▸ Yc.isNumber_any n y
  have HH : Hid (∀ y, Below w.heap.size w y → Calls Tryz.prog 65 #[.pointer (some ⟨b, 0, none⟩), .int .i64 n] y fun e w' => e = .returned (.bool false) ∧ w' = y) := fun y hy => by
    obtain ⟨fv, D, h⟩ := h
    have := has_e ⟨fv, D, h.below hy⟩ n hnb
    rwa [hk] at this
  have HW : Hid (∀ y, Below w.heap.size w y → Calls Tryz.prog 66 #[.agg #[.string mti, v]] y fun e w' => e = .returned (.bool true) ∧ Below y.heap.size y w') := fun y hy => hw ▸ whole_flat mti v L y (hM.below hy)
  obtain ⟨fv, D, h⟩ := h
  have HK : Hid (∀ y, Below w.heap.size w y → Calls Tryz.prog 67 #[.agg #[.string mti, v], fv] y (PostM y mti (kp z true L))) := fun y hy => keep_flat mti v fv L z y (hM.below hy) (rowi_below h.row hy) h.io
  have HE : Hid (Em w b mb z kf sz c fv D) := h
  have HFO : Hid (Fo (kp z true L)) := Fo.kp hM.fo z true
  have HKN : Hid (kf n = none) := hk
  have HCC : Hid (c < 1000) := hc
  have HKEY : Hid _ := key_of n hnb
  obtain ⟨o, m, cap, rfl⟩ := hM.slice
  obtain ⟨of, cf, efv, -⟩ := h.row
  subst efv
  have HB0 : Hid (Below w.heap.size w (w.alloc (.cells #[.string mti, .slice o m cap] tG))) := below_one w _
  have HX0 : Hid _ := h1_0 w (.cells #[.string mti, .slice o m cap] tG)
  clear hn hk hM hw hc h hnb
  go_enter Tryz.func31, Tryz.ntmps31
  go_wp2_with fail
  refine (HI.out _).mono ?_
  rintro e y ⟨rfl, hy⟩
  rw [hy]
  clear hy y
  go_wp2_with fail
  refine (HH.out _ HB0.out).mono ?_
  rintro e y ⟨rfl, hy⟩
  rw [hy]
  clear hy y
  obtain ⟨c0, c1⟩ := box2 (Below.refl (w.alloc (.cells #[.string mti, .slice o m cap] tG)).heap.size (w.alloc (.cells #[.string mti, .slice o m cap] tG)))
  go_wp2_with fail
  refine (HW.out _ HB0.out).mono ?_
  rintro e y ⟨rfl, hy⟩
  have HBY : Hid (Below w.heap.size w y) := keepB HB0.out hy
  have HXY : Hid (y.heap[w.heap.size]? = some (.cells #[.string mti, .slice o m cap] tG)) := kept hy HX0.out
  clear hy c0 c1 HI HH HW HB0 HX0
  have HF : Hid (∀ x, Below y.heap.size y x → (x.cell? ⟨w.heap.size, 0, none⟩ = some (.string mti) ∧ x.cell? ⟨w.heap.size, 1, none⟩ = some (.slice o m cap) ∧ x.cell? ⟨b, 0, none⟩ = some (.slice of z.length cf) ∧ x.cell? ⟨b, 1, none⟩ = some (.map (some mb)))) := fun x hx => by
    have e1 := kept hx HXY.out
    have e2 := (HE.out.below (keepB HBY.out hx)).cells
    exact ⟨by simp [World.cell?, e1], by simp [World.cell?, e1], e2.1, e2.2⟩
  obtain ⟨c0, c1, c2, c3⟩ := HF.out y.drew ((Below.refl _ _).drew)
  have HS : Hid (∀ x v', Below y.heap.size y x → x.ownsRow y.heap.size tF 3 v' (kp z true L).length (fc (kp z true L)) → ∃ w', (Instr.mapUpdate tK (.map (some mb)) (.int .i64 n) v').run Tryz.prog x = .ok () w' ∧ Hid (Ec w' b mb z (kput kf n (some (kp z true L))) (sz + 1) (c + 1) ∧ FrP (fun g => g = mb) w w')) := fun x v' hx ho => by
    have hE := HE.out.below (keepB HBY.out hx)
    obtain ⟨w', hr, h1, h2⟩ := hE.own.store law Tryz.underlying93 (by have := HCC.out; simp [maxLen]; omega) (val := v') (d := .held v') (ps := []) HKEY.out rfl
    refine ⟨w', hr, ⟨_, _, hE.put HKN.out HFO.out (rowf_own ho) HCC.out h1 h2⟩, ?_⟩
    exact (FrP.of (keepB HBY.out hx)).trans (turned_fr h2) (fun g hg => .inl hg)
  have HDR : Hid (Below y.heap.size y y.drew) := (Below.refl _ y).drew
  go_wp2_with fail
  go_region_with ((go_at_call 67; refine (HK.out _ (keepB HBY.out HDR.out)).mono ?_; rintro e x ⟨v', rfl, hr, -, hb⟩; obtain ⟨w3, hrun, HEND⟩ := HS.out x v' (keepB HDR.out hb) hr; obtain ⟨d0, d1, d2, d3⟩ := HF.out x (keepB HDR.out hb); obtain ⟨o9, c9, hv, -⟩ := own_form hr; subst hv; have hfo := field_one mti o9 (kp z true L).length c9 x; clear hr hb))
  all_goals
    go_wp2_with fail
    go_ret
    exact ⟨rfl, HEND.out.1, HEND.out.2⟩
set_option maxRecDepth 100000 in
theorem save_twice {w : World} {b mb : Nat} {z : List Int} {kf : KF} {sz c : Nat} (h : Ec w b mb z kf sz c) (n : Int) (hn : Yc.isNum n = true) (hk : (kf n).isSome = true) (mti : ByteArray) (v : Value) (L : List Fl) (hM : Ms w mti v L) :
    Calls Tryz.prog 31 #[.pointer (some ⟨b, 0, none⟩), .int .i64 n, .agg #[.string mti, v]] w fun e w' => e = .returned (.int .i64 191) ∧ Below w.heap.size w w' := by
  have hnb : -9223372036854775808 ≤ n ∧ n ≤ 9223372036854775807 := by simp [Yc.isNum] at hn; omega
  have HI : Hid (∀ y, Calls Tryz.prog 38 #[.int .i64 n] y fun e w' => e = .returned (.bool true) ∧ w' = y) := fun y => hn ▸ Yc.isNumber_any n y
  have HH : Hid (∀ y, Below w.heap.size w y → Calls Tryz.prog 65 #[.pointer (some ⟨b, 0, none⟩), .int .i64 n] y fun e w' => e = .returned (.bool true) ∧ w' = y) := fun y hy => by
    obtain ⟨fv, D, h⟩ := h
    have := has_e ⟨fv, D, h.below hy⟩ n hnb
    rwa [hk] at this
  obtain ⟨o, m, cap, rfl⟩ := hM.slice
  have HB0 : Hid (Below w.heap.size w (w.alloc (.cells #[.string mti, .slice o m cap] tG))) := below_one w _
  clear hn hk hM h hnb
  go_enter Tryz.func31, Tryz.ntmps31
  go_wp2_with fail
  refine (HI.out _).mono ?_
  rintro e y ⟨rfl, hy⟩
  rw [hy]
  clear hy y
  go_wp2_with fail
  refine (HH.out _ HB0.out).mono ?_
  rintro e y ⟨rfl, hy⟩
  rw [hy]
  clear hy y
  go_wp2_with fail
  go_ret
  exact ⟨rfl, HB0.out⟩
end Go.Proofs.YtmnoplaepjaokaaGreatDoor.Zi
