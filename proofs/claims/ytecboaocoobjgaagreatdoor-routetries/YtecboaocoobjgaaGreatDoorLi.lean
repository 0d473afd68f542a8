/- The longest prefix, over nodes of int. -/
import Derived.Test.YtecboaocoobjgaaGreatDoorRs
import Derived.BigQuiet
namespace Go.Proofs.YtecboaocoobjgaaGreatDoor.Li
set_option linter.unusedVariables false
set_option linter.unusedSimpArgs false
open Go.RowKit Lib0 Kb Rp Rw Rs
abbrev tN : TypeId := 73
abbrev tT : TypeId := 3
abbrev tR : TypeId := 65
abbrev InT (w : World) (X : List Nat) (T : Tn) : Prop := In tN tT w X T
/-- what was found -/
def Fnd (w : World) (X : List Nat) (r : Option (Value × Nat)) (fo : Option (Nat × Value)) (lo : Nat) : Prop := Lay tT w X fo ∧ (fo = none → lo = 0) ∧ r = fo.map fun x => (x.2, lo)
theorem cell_nd {w : World} {X : List Nat} {b : Nat} {lv : Option (Nat × Value)} {kids : Fin 10 → Tn} (h : InT w X (.nd b lv kids)) : w.cell? ⟨b, 0, none⟩ = some (lptr lv) ∧ ∀ d : Fin 10, w.cell? ⟨b, 1 + d.1, none⟩ = some (ptr (kids d)) := by
  constructor
  · simp [World.cell?, h.2.1, rowV]
  · intro d
    simp only [World.cell?, h.2.1]
    exact rowV_kid lv kids d
theorem take_at (s : ByteArray) (i : Nat) (h : i < s.size) : s.data.toList.take (i + 1) = s.data.toList.take i ++ [s[i]'h] := take_snoc s i h
theorem take_split (s : ByteArray) (i j : Nat) (h : i < s.size) (hj : i < j) : s.data.toList.take j = s.data.toList.take i ++ (s[i]'h) :: (s.data.toList.drop (i + 1)).take (j - i - 1) := by
  have e : s.data.toList = s.data.toList.take i ++ (s[i]'h) :: s.data.toList.drop (i + 1) := by
    have := List.take_append_drop (i + 1) s.data.toList
    rw [take_at s i h, List.append_assoc] at this
    exact this.symm
  have hl : (s.data.toList.take i).length = i := by
    have hs : s.data.toList.length = s.size := by rw [Array.length_toList]; rfl
    rw [List.length_take]; omega
  conv => lhs; rw [e]
  rw [List.take_append, hl, List.take_of_length_le (by omega), show j - i = (j - i - 1) + 1 by omega, List.take_succ_cons]
  simp
set_option maxRecDepth 100000 in
set_option maxHeartbeats 1600000 in
theorem longest_any (T : Tn) (s : ByteArray) (w : World) (X : List Nat) (hT : InT w X T) (hs : s.size ≤ maxLen) :
    Calls Tryz.prog 25 #[ptr T, .string s] w fun e w' => (∃ fo lo, e = .returned (.tuple #[lptr fo, .int .i64 (lo : Nat)]) ∧ lo ≤ s.size ∧ Fnd w X (lon T.mp s.data.toList s.size) fo lo) ∧ Below w.heap.size w w' := by
  have pd := fun c w => isDigit_any c w
  have hN : (s.size : Int) ≤ 9223372036854775807 := by have := hs; simp only [maxLen] at this; omega
  have HT : Hid (InT w X T) := hT
  obtain ⟨P0, HP0⟩ : ∃ p, Hid (pa T = p) := ⟨_, rfl⟩
  simp only [ptr, lptr]
  rw [HP0.out]
  have hl : Hid (s.data.toList.length = s.size) := by show _ = _; rw [Array.length_toList]; rfl
  clear hs hT
  go_enter Tryz.func25, Tryz.ntmps25
  go_wp2_with fail
  go_loopw [0, 6, 7, 8] (fun nv fv lv av wr => ∃ (U : Tn) (k : Nat) (fo : Option (Nat × Value)) (lo : Nat), nv = ptr U ∧ fv = lptr fo ∧ lv = .int .i64 (lo : Int) ∧ av = .int .i64 (k : Int) ∧ k ≤ s.size ∧ lo ≤ k ∧ Hid (InT w X U) ∧ Hid (∀ q, U.mp q = T.mp (s.data.toList.take k ++ q)) ∧ Hid (Fnd w X (lonP T.mp s.data.toList k) fo lo) ∧ Hid (Below w.heap.size w wr)) (fun _ _ _ av _ => s.size + 1 - (intOf av).toNat)
  case atStart => exact ⟨T, 0, none, 0, by show _ = Value.pointer _; rw [HP0.out], rfl, rfl, rfl, Nat.zero_le _, Nat.le_refl _, HT, fun q => by simp, ⟨Lay.none _ _ _, fun _ => rfl, rfl⟩, Below.refl _ _⟩
  case round =>
    obtain ⟨U, k, fo, lo, rfl, rfl, rfl, rfl, hk, hlo, HU, HM, HF, HB0⟩ := hrel
    cases U with
    | nil =>
      have HX : Hid (lon T.mp s.data.toList s.size = lonP T.mp s.data.toList k) := lonP_up _ _ _ _ (by omega) fun j h1 h2 => by
        have := HM.out (s.data.toList.take j |>.drop k)
        rw [mp_nil] at this
        rw [this]
        congr 1
        have e : s.data.toList.take k = (s.data.toList.take j).take k := by rw [List.take_take]; congr 1; omega
        rw [e, List.take_append_drop]
      have HB : Hid (lo ≤ s.size) := by show _ ≤ _; omega
      simp only [ptr, pa]
      clear hlo
      go_wp2_with fail
      go_ret2
      exact ⟨⟨fo, lo, rfl, HB.out, by rw [HX.out]; exact HF.out⟩, HB0.out⟩
    | nd b lv kids =>
      have HU1 : Hid (InT wr X (.nd b lv kids)) := In.kept (KT.of HB0.out) _ HU.out
      have c0 := (cell_nd HU1.out).1
      cases lv with
      | none =>
        have HF2 : Hid (Fnd w X (lonP T.mp s.data.toList (k + 1)) fo lo) := by
          show Fnd _ _ _ _ _
          rw [lonP_none _ _ _ (by have := HM.out []; rw [List.append_nil] at this; rw [← this]; rfl)]; exact HF.out
        clear HF
        simp only [lptr, la] at c0
        simp only [ptr, pa]
        by_cases hc : k < s.size
        · have q0 : (k : Int) < (s.size : Int) := by omega
          have q1 : (0 : Int) ≤ (k : Int) := by omega
          have q2 : (k : Int) + 1 ≤ 9223372036854775807 := by omega
          have q3 : ((k : Int) == (s.size : Int)) = false := by simp; omega
          have HC : Hid (k < s.size) := hc
          have a1 := pd (s[k]'hc)
          cases hd : isD (s[k]'hc) with
          | true =>
            obtain ⟨d, ed⟩ := dgt_of _ hd
            rw [hd] at a1
            have hn : Hid ((s[k]'hc).toNat = 48 + d.1) := by show _ = _; rw [ed]; exact dgt_nat d
            have r1 : IntKind.u8.wrap (((s[k]'hc).toNat : Int) - 48) = (d.1 : Int) := by
              rw [hn.out]
              have := d.2
              rw [wrap_u8 _ (by omega) (by omega)]; omega
            have r2 : (d.1 : Int) < 10 := by have := d.2; omega
            have r3 : d.1 < 10 := d.2
            have ck := (cell_nd HU1.out).2 d
            have HM2 : Hid (∀ q, (kids d).mp q = T.mp (s.data.toList.take (k + 1) ++ q)) := by
              intro q
              rw [take_at s k hc, List.append_assoc, List.singleton_append, ed, ← HM.out, mp_cons]
            have HU2 : Hid (InT w X (kids d)) := HU.out.2.2.2 d
            clear hd ed hk
            go_wp2_with fail
            refine (a1 _).mono ?_
            rintro e y ⟨rfl, hy⟩
            rw [hy]
            clear hy y
            go_wp2_with fail
            go_quiet (fail)
            go_wp2_with fail
            refine ⟨⟨kids d, k + 1, fo, lo, rfl, rfl, rfl, by simp, HC.out, by omega, HU2, HM2, HF2, below_drewN HB0.out _⟩, ?_⟩
            simp only [intOf]
            have := HC.out
            omega
          | false =>
            have HX : Hid (lon T.mp s.data.toList s.size = lonP T.mp s.data.toList (k + 1)) := lonP_up _ _ _ _ (by omega) fun j h1 h2 => by
              rw [take_split s k j hc (by omega), ← HM.out]; exact mp_not _ _ _ _ _ hd
            rw [hd] at a1
            clear hd hk
            go_wp2_with fail
            refine (a1 _).mono ?_
            rintro e y ⟨rfl, hy⟩
            rw [hy]
            clear hy y
            go_wp2_with fail
            go_ret2
            exact ⟨⟨fo, lo, rfl, (by have := HC.out; omega), by rw [HX.out]; exact HF2.out⟩, HB0.out⟩
        · have ek : k = s.size := by omega
          have q3 : ((k : Int) == (s.size : Int)) = true := by simp; omega
          have HX : Hid (lon T.mp s.data.toList s.size = lonP T.mp s.data.toList (k + 1)) := lonP_up _ _ _ _ (by omega) fun j h1 h2 => by omega
          have HB : Hid (lo ≤ s.size) := by show _ ≤ _; omega
          clear ek hk hc hlo
          go_wp2_with fail
          go_ret2
          exact ⟨⟨fo, lo, rfl, HB.out, by rw [HX.out]; exact HF2.out⟩, HB0.out⟩
      | some cv =>
        obtain ⟨c, v⟩ := cv
        have HF2 : Hid (Fnd w X (lonP T.mp s.data.toList (k + 1)) (some (c, v)) k) := by
          show Fnd _ _ _ _ _
          rw [lonP_some _ _ _ v (by have := HM.out []; rw [List.append_nil] at this; rw [← this]; rfl)]
          exact ⟨HU.out.2.2.1, fun h => (by cases h), rfl⟩
        clear HF
        simp only [lptr, la] at c0
        simp only [ptr, pa]
        by_cases hc : k < s.size
        · have q0 : (k : Int) < (s.size : Int) := by omega
          have q1 : (0 : Int) ≤ (k : Int) := by omega
          have q2 : (k : Int) + 1 ≤ 9223372036854775807 := by omega
          have q3 : ((k : Int) == (s.size : Int)) = false := by simp; omega
          have HC : Hid (k < s.size) := hc
          have a1 := pd (s[k]'hc)
          cases hd : isD (s[k]'hc) with
          | true =>
            obtain ⟨d, ed⟩ := dgt_of _ hd
            rw [hd] at a1
            have hn : Hid ((s[k]'hc).toNat = 48 + d.1) := by show _ = _; rw [ed]; exact dgt_nat d
            have r1 : IntKind.u8.wrap (((s[k]'hc).toNat : Int) - 48) = (d.1 : Int) := by
              rw [hn.out]
              have := d.2
              rw [wrap_u8 _ (by omega) (by omega)]; omega
            have r2 : (d.1 : Int) < 10 := by have := d.2; omega
            have r3 : d.1 < 10 := d.2
            have ck := (cell_nd HU1.out).2 d
            have HM2 : Hid (∀ q, (kids d).mp q = T.mp (s.data.toList.take (k + 1) ++ q)) := by
              intro q
              rw [take_at s k hc, List.append_assoc, List.singleton_append, ed, ← HM.out, mp_cons]
            have HU2 : Hid (InT w X (kids d)) := HU.out.2.2.2 d
            clear hd ed hk
            go_wp2_with fail
            refine (a1 _).mono ?_
            rintro e y ⟨rfl, hy⟩
            rw [hy]
            clear hy y
            go_wp2_with fail
            go_quiet (fail)
            go_wp2_with fail
            refine ⟨⟨kids d, k + 1, some (c, v), k, rfl, rfl, rfl, by simp, HC.out, by omega, HU2, HM2, HF2, below_drewN HB0.out _⟩, ?_⟩
            simp only [intOf]
            have := HC.out
            omega
          | false =>
            have HX : Hid (lon T.mp s.data.toList s.size = lonP T.mp s.data.toList (k + 1)) := lonP_up _ _ _ _ (by omega) fun j h1 h2 => by
              rw [take_split s k j hc (by omega), ← HM.out]; exact mp_not _ _ _ _ _ hd
            rw [hd] at a1
            clear hd hk
            go_wp2_with fail
            refine (a1 _).mono ?_
            rintro e y ⟨rfl, hy⟩
            rw [hy]
            clear hy y
            go_wp2_with fail
            go_ret2
            exact ⟨⟨some (c, v), k, rfl, Nat.le_of_lt HC.out, by rw [HX.out]; exact HF2.out⟩, HB0.out⟩
        · have ek : k = s.size := by omega
          have q3 : ((k : Int) == (s.size : Int)) = true := by simp; omega
          have HX : Hid (lon T.mp s.data.toList s.size = lonP T.mp s.data.toList (k + 1)) := lonP_up _ _ _ _ (by omega) fun j h1 h2 => by omega
          have HB : Hid (k ≤ s.size) := by show _ ≤ _; omega
          clear ek hk hc hlo
          go_wp2_with fail
          go_ret2
          exact ⟨⟨some (c, v), k, rfl, HB.out, by rw [HX.out]; exact HF2.out⟩, HB0.out⟩
end Go.Proofs.YtecboaocoobjgaaGreatDoor.Li
