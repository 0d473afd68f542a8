/- JournalTakes: its walk. -/
import Derived.Test.YtabmpngliphdpaaDoorKg
namespace Go.Proofs.YtabmpngliphdpaaDoor.Ki
set_option linter.unusedVariables false
set_option linter.unusedSimpArgs false
open Go.RowKit Lib0 Kb Ja Jb Bj Ka Jx Kc Kg
attribute [local go_sem] Oper.semAt_some
set_option maxRecDepth 100000 in
set_option maxHeartbeats 1600000 in
theorem walk (b : ByteArray) (w : World) (hb : b.size ≤ 140737488351232) (h : Lv w) : Calls Tryd.prog 7 #[.string b] w fun e w' => e = .returned (.bool true) ∧ Below w.heap.size w w' := by
  have HL : Hid (Lv w) := h
  have HB : Hid (b.size ≤ 140737488355328) := Nat.le_trans hb (by decide)
  clear h hb
  obtain ⟨A, N, hAN⟩ : ∃ A N, ends b.data.toList = (A, N) := ⟨_, _, rfl⟩
  have hAle := ends_le b.data.toList
  rw [hAN] at hAle
  rw [← Jn.size_list] at hAle
  have htk := ends_take b.data.toList
  rw [hAN] at htk
  obtain ⟨S, hS⟩ : ∃ S, b.extract 0 A = S := ⟨_, rfl⟩
  have hSl : S.data.toList = b.data.toList.take A := by rw [← hS, Jr.ext_mid]; simp
  have hSb : (⟨(b.data.toList.take A).toArray⟩ : ByteArray) = S := by rw [← hS, Jn.ext_take b A hAle]
  have hSz : S.size = A := by rw [Jn.size_list, hSl, List.length_take, ← Jn.size_list]; omega
  have HAN : Hid (ends b.data.toList = (A, N) ∧ A ≤ b.size ∧ ends S.data.toList = (A, N) ∧ S.size = A) := ⟨hAN, hAle, by rw [hSl]; exact htk, hSz⟩
  have HS : Hid (b.extract 0 A = S) := hS
  have HSB : Hid ((⟨(b.data.toList.take A).toArray⟩ : ByteArray) = S ∧ S.data.toList = b.data.toList.take A) := ⟨hSb, hSl⟩
  clear hAN hAle htk hS hSl hSb hSz
  go_enter Tryd.func7, Tryd.ntmps7
  go_wp2_with fail
  refine (examples_any w HL.out).mono ?_
  rintro e y ⟨rfl, hy⟩
  have HY : Hid (Below w.heap.size w y) := hy
  obtain ⟨a, ha⟩ := (HL.out.next hy).err
  have HO : Hid (Calls _ _ _ _ _) := open_any b HB.out y (HL.out.next hy).hal (HL.out.next hy).hdl ha
  clear hy ha
  go_wp2_with fail
  refine HO.out.mono ?_
  rintro e y1 ⟨J, p, v, er, rfl, hj, hfull, hpart, hb1⟩
  rw [HAN.out.1] at hj hfull hpart ⊢
  have HJ : Hid (Jo y1 y.heap.size J p v (b.data.toList.take A) (N : Int)) := hj
  have HY1 : Hid (Below w.heap.size w y1) := HY.out.trans (hb1.mono HY.out.size)
  have q1 : (A : Int) ≤ (b.size : Int) := by have := HAN.out.2.1; omega
  have q0 : (0 : Int) ≤ (A : Int) := by omega
  have HLOW : Hid (w.heap.size ≤ y.heap.size ∧ y.heap.size ≤ y1.heap.size) := ⟨HY.out.size, hb1.size⟩
  clear hj hb1
  by_cases hA : A = b.size
  · obtain rfl := hfull hA
    have q2 : (A : Int) = (b.size : Int) := by omega
    have q3 : ((A : Int) == (b.size : Int)) = true := by rw [q2]; simp
    clear hfull hpart hA q2
    have HBY : Hid (Calls _ _ _ _ _) := bytes_any HJ.out (by rw [List.length_take]; have := HAN.out.2.1; have := HB.out; omega)
    go_wp2_with fail
    refine HBY.out.mono ?_
    rintro e y2 ⟨rfl, hj2, hf2⟩
    rw [HSB.out.1]
    have HJ2 : Hid (Jo y2 y.heap.size J p v (b.data.toList.take A) (N : Int)) := hj2
    have HY2 : Hid (Below w.heap.size w y2) := HY1.out.trans (hf2.below (Nat.le_trans HLOW.out.1 HJ.out.base) (fun q hq => Nat.le_trans HLOW.out.1 (HJ.out.own.lt q hq).1) (Nat.le_trans HLOW.out.1 HLOW.out.2))
    obtain ⟨a2, ha2⟩ := (HL.out.next HY2.out).err
    have HO2 : Hid (Calls _ _ _ _ _) := open_any S (by have h1 := HAN.out; have h2 := HB.out; omega) y2 (HL.out.next HY2.out).hal (HL.out.next HY2.out).hdl ha2
    clear hj2 hf2 ha2
    go_wp2_with fail
    refine HO2.out.mono ?_
    rintro e y3 ⟨J3, p3, v3, er3, rfl, hj3, hfull3, hpart3, hb3⟩
    rw [HAN.out.2.2.1] at hj3 hfull3 hpart3 ⊢
    obtain rfl := hfull3 HAN.out.2.2.2.symm
    have HJ3 : Hid (Jo y3 y2.heap.size J3 p3 v3 (S.data.toList.take A) (N : Int)) := hj3
    have HJJ : Hid (Jo y3 y.heap.size J p v (b.data.toList.take A) (N : Int)) := HJ2.out.below hb3
    have HY3 : Hid (Below w.heap.size w y3) := HY2.out.trans (hb3.mono HY2.out.size)
    have HL1 : Hid (Calls _ _ _ _ _) := len_any HJ3.out
    have HL2 : Hid (Calls _ _ _ _ _) := len_any HJJ.out
    clear hj3 hfull3 hpart3 hb3
    go_wp2_with (first | (rw [HS.out]) | fail)
    refine HL1.out.mono ?_
    rintro e y4 ⟨rfl, rfl⟩
    go_wp2_with fail
    refine HL2.out.mono ?_
    rintro e y5 ⟨rfl, rfl⟩
    go_wp2_with fail
    go_ret
    exact ⟨rfl, HY3.out⟩
  · obtain ⟨qf, rfl, hq, hft⟩ := hpart hA
    have q3 : ((A : Int) == (b.size : Int)) = false := by simp; omega
    clear hfull hpart hA hq hft
    have HBY : Hid (Calls _ _ _ _ _) := bytes_any HJ.out (by rw [List.length_take]; have := HAN.out.2.1; have := HB.out; omega)
    go_wp2_with fail
    refine HBY.out.mono ?_
    rintro e y2 ⟨rfl, hj2, hf2⟩
    rw [HSB.out.1]
    have HJ2 : Hid (Jo y2 y.heap.size J p v (b.data.toList.take A) (N : Int)) := hj2
    have HY2 : Hid (Below w.heap.size w y2) := HY1.out.trans (hf2.below (Nat.le_trans HLOW.out.1 HJ.out.base) (fun q hq => Nat.le_trans HLOW.out.1 (HJ.out.own.lt q hq).1) (Nat.le_trans HLOW.out.1 HLOW.out.2))
    obtain ⟨a2, ha2⟩ := (HL.out.next HY2.out).err
    have HO2 : Hid (Calls _ _ _ _ _) := open_any S (by have h1 := HAN.out; have h2 := HB.out; omega) y2 (HL.out.next HY2.out).hal (HL.out.next HY2.out).hdl ha2
    clear hj2 hf2 ha2
    go_wp2_with fail
    refine HO2.out.mono ?_
    rintro e y3 ⟨J3, p3, v3, er3, rfl, hj3, hfull3, hpart3, hb3⟩
    rw [HAN.out.2.2.1] at hj3 hfull3 hpart3 ⊢
    obtain rfl := hfull3 HAN.out.2.2.2.symm
    have HJ3 : Hid (Jo y3 y2.heap.size J3 p3 v3 (S.data.toList.take A) (N : Int)) := hj3
    have HJJ : Hid (Jo y3 y.heap.size J p v (b.data.toList.take A) (N : Int)) := HJ2.out.below hb3
    have HY3 : Hid (Below w.heap.size w y3) := HY2.out.trans (hb3.mono HY2.out.size)
    have HL1 : Hid (Calls _ _ _ _ _) := len_any HJ3.out
    have HL2 : Hid (Calls _ _ _ _ _) := len_any HJJ.out
    clear hj3 hfull3 hpart3 hb3
    go_wp2_with (first | (rw [HS.out]) | fail)
    refine HL1.out.mono ?_
    rintro e y4 ⟨rfl, rfl⟩
    go_wp2_with fail
    refine HL2.out.mono ?_
    rintro e y5 ⟨rfl, rfl⟩
    go_wp2_with fail
    go_ret
    exact ⟨rfl, HY3.out⟩
end Go.Proofs.YtabmpngliphdpaaDoor.Ki
