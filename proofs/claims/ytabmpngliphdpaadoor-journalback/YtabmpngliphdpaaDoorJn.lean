/- journal's reader: number, count, text. -/
import Derived.Test.YtabmpngliphdpaaDoorJm
import Derived.Test.YtabmpngliphdpaaDoorIc
namespace Go.Proofs.YtabmpngliphdpaaDoor.Jn
set_option linter.unusedVariables false
set_option linter.unusedSimpArgs false
open Go.RowKit Lib0 Kb Jl Jm
attribute [local go_sem] Oper.semAt_some
def unz (u : Nat) : Int := if u % 2 = 1 then -((u / 2 : Nat) : Int) - 1 else ((u / 2 : Nat) : Int)
def nmV (o : Option (List UInt8)) : Int := unz (wdV o)
def ctR (o : Option (List UInt8)) : Option (List UInt8) := if nmV o < 0 then none else wdR o
def ctV (o : Option (List UInt8)) : Nat := (nmV o).toNat
def txR (o : Option (List UInt8)) : Option (List UInt8) := (ctR o).bind fun l => if l.length < ctV o then none else some (l.drop (ctV o))
def txV (o : Option (List UInt8)) : List UInt8 := ((ctR o).bind fun l => if l.length < ctV o then none else some (l.take (ctV o))).getD []
/-- what is left is not too long -/
def Sm (o : Option (List UInt8)) : Prop := ∀ l, o = some l → l.length ≤ 140737488355328
theorem wd_len : ∀ f k u l v t, wd f k u l = some (v, t) → t.length + 1 ≤ l.length
  | 0, _, _, _, _, _, h => by simp [wd] at h
  | _ + 1, _, _, [], _, _, h => by simp [wd] at h
  | f + 1, k, u, c :: t, v, t', h => by
    rw [wd] at h
    split at h
    · cases h
    · split at h
      · cases h; simp
      · exact Nat.le_trans (wd_len f _ _ _ _ _ h) (by simp)
theorem wdV_lt (o : Option (List UInt8)) : wdV o < 18446744073709551616 := by
  unfold wdV
  cases o with
  | none => decide
  | some l =>
    show ((wd 10 0 0 l).map (·.1)).getD 0 < _
    cases h : wd 10 0 0 l with
    | none => decide
    | some p => exact wd_lt 10 0 0 l p.1 p.2 h rfl (by decide)
theorem wdR_sm {o : Option (List UInt8)} (h : Sm o) : Sm (wdR o) := by
  intro l hl
  cases o with
  | none => cases hl
  | some l0 =>
    have h9 : (wd 10 0 0 l0).map (·.2) = some l := hl
    cases hw : wd 10 0 0 l0 with
    | none => rw [hw] at h9; cases h9
    | some p =>
      rw [hw] at h9; cases h9
      exact Nat.le_trans (Nat.le_of_succ_le (wd_len 10 0 0 l0 p.1 p.2 hw)) (h l0 rfl)
theorem wd_none {o : Option (List UInt8)} (h : wdR o = none) : wdV o = 0 := by
  cases o with
  | none => rfl
  | some l0 =>
    have h9 : (wd 10 0 0 l0).map (·.2) = none := h
    show ((wd 10 0 0 l0).map (·.1)).getD 0 = 0
    cases hw : wd 10 0 0 l0 with
    | none => rfl
    | some p => rw [hw] at h9; cases h9
theorem ct_none {o : Option (List UInt8)} (h : ctR o = none) : ctV o = 0 := by
  unfold ctR at h; unfold ctV
  split at h
  · omega
  · unfold nmV; rw [wd_none h]; rfl
theorem ctR_sm {o : Option (List UInt8)} (h : Sm o) : Sm (ctR o) := by
  unfold ctR; split
  · intro l hl; cases hl
  · exact wdR_sm h
/-- what is read is shorter -/
theorem wdR_len {o : Option (List UInt8)} {l : List UInt8} (h : wdR o = some l) : ∃ l0, o = some l0 ∧ l.length + 1 ≤ l0.length := by
  cases o with
  | none => cases h
  | some l0 =>
    have h9 : (wd 10 0 0 l0).map (·.2) = some l := h
    cases hw : wd 10 0 0 l0 with
    | none => rw [hw] at h9; cases h9
    | some p => rw [hw] at h9; cases h9; exact ⟨l0, rfl, wd_len 10 0 0 l0 p.1 p.2 hw⟩
theorem ctR_len {o : Option (List UInt8)} {l : List UInt8} (h : ctR o = some l) : ∃ l0, o = some l0 ∧ l.length + 1 ≤ l0.length := by
  unfold ctR at h
  split at h
  · cases h
  · exact wdR_len h
theorem txR_len {o : Option (List UInt8)} {l : List UInt8} (h : txR o = some l) : ∃ l0, o = some l0 ∧ l.length + 1 ≤ l0.length := by
  unfold txR at h
  cases hc : ctR o with
  | none => rw [hc] at h; cases h
  | some l1 =>
    rw [hc] at h
    have h9 : (if l1.length < ctV o then none else some (l1.drop (ctV o))) = some l := h
    split at h9
    · cases h9
    · cases h9
      obtain ⟨l0, h0, h1⟩ := ctR_len hc
      exact ⟨l0, h0, by rw [List.length_drop]; omega⟩
theorem txR_sm {o : Option (List UInt8)} (h : Sm o) : Sm (txR o) := by
  intro l hl
  unfold txR at hl
  cases hc : ctR o with
  | none => rw [hc] at hl; cases hl
  | some l1 =>
    rw [hc] at hl
    have h9 : (if l1.length < ctV o then none else some (l1.drop (ctV o))) = some l := hl
    split at h9
    · cases h9
    · cases h9
      have := ctR_sm h l1 hc
      rw [List.length_drop]; omega
theorem nm_rng (o : Option (List UInt8)) : -9223372036854775808 ≤ nmV o ∧ nmV o ≤ 9223372036854775807 := by
  have := wdV_lt o
  unfold nmV unz
  split <;> omega
theorem u64w (z : Int) : IntKind.u64.wrap z = z % 18446744073709551616 := by
  first
    | rfl
    | (simp [IntKind.wrap, IntKind.signed, IntKind.bits])
theorem w64' (n : Nat) (h : n < 9223372036854775808) : wrap64 (n : Int) = (n : Int) := by
  unfold wrap64; omega
theorem w64 (n : Nat) (h : 9223372036854775808 ≤ n ∧ n < 18446744073709551616) : wrap64 (n : Int) = (n : Int) - 18446744073709551616 := by
  unfold wrap64; omega
set_option maxRecDepth 100000 in
set_option maxHeartbeats 1600000 in
theorem number_any {w : World} {g : Nat} {o : Option (List UInt8)} (h : Rd w g o) :
    Calls Tryd.prog 78 #[.pointer (some ⟨g, 0, none⟩)] w fun e w' => e = .returned (.int .i64 (nmV o)) ∧ Rd w' g (wdR o) ∧ w.grownBy w' (some g) := by
  have HW : Hid (Calls Tryd.prog 82 #[.pointer (some ⟨g, 0, none⟩)] w fun e w' => e = .returned (.int .u64 (wdV o : Int)) ∧ Rd w' g (wdR o) ∧ w.grownBy w' (some g)) := wide_any h
  have hlt := wdV_lt o
  have HN : Hid (nmV o = unz (wdV o)) := rfl
  obtain ⟨U, hU⟩ : ∃ U, wdV o = U := ⟨_, rfl⟩
  rw [hU] at HW hlt HN
  clear h hU
  go_enter Tryd.func78, Tryd.ntmps78
  go_wp2_with fail
  refine HW.out.mono ?_
  rintro e y ⟨rfl, hy⟩
  have HY : Hid _ := hy
  clear hy
  obtain ⟨M, hM⟩ : ∃ M, U / 2 = M := ⟨_, rfl⟩
  have g2 : (U : Int) / 2 = (M : Int) := by omega
  by_cases hm : U % 2 = 1
  · have g1 : (U : Int) % 2 = 1 := by omega
    have HL : Hid (U < 18446744073709551616) := hlt
    have HE : Hid (wrap64 (bits .xor .u64 IntKind.u64.max (IntKind.u64.wrap (M : Int))) = nmV o) := by
      show _ = _
      have hm2 : M < 9223372036854775808 := by omega
      rw [u64w, show (M : Int) % 18446744073709551616 = (M : Int) by omega]
      have h9 := u64_xor_nat 18446744073709551615 M (by decide) (by omega)
      rw [show IntKind.u64.max = ((18446744073709551615 : Nat) : Int) from rfl, h9, Nat.xor_comm, Ji.flip64 M (by omega), HN.out]
      unfold unz
      rw [if_pos hm, hM, w64 _ (by omega)]
      omega
    clear hm hM hlt
    go_wp2_with fail
    go_ret
    exact ⟨congrArg (fun z => Ending.returned (Value.int .i64 z)) HE.out, HY.out⟩
  · have g1 : (U : Int) % 2 = 0 := by omega
    have HE : Hid (wrap64 (IntKind.u64.wrap (M : Int)) = nmV o) := by
      show _ = _
      have hm2 : M < 9223372036854775808 := by omega
      rw [u64w, show (M : Int) % 18446744073709551616 = (M : Int) by omega, HN.out]
      unfold unz
      rw [if_neg hm, hM, w64' _ (by omega)]
    clear hm hM hlt
    go_wp2_with fail
    go_ret
    exact ⟨congrArg (fun z => Ending.returned (Value.int .i64 z)) HE.out, HY.out⟩
set_option maxRecDepth 100000 in
set_option maxHeartbeats 1600000 in
theorem count_any {w : World} {g : Nat} {o : Option (List UInt8)} (h : Rd w g o) :
    Calls Tryd.prog 80 #[.pointer (some ⟨g, 0, none⟩)] w fun e w' => e = .returned (.int .i64 (ctV o : Int)) ∧ Rd w' g (ctR o) ∧ w.grownBy w' (some g) := by
  have HW : Hid (Calls Tryd.prog 78 #[.pointer (some ⟨g, 0, none⟩)] w fun e w' => e = .returned (.int .i64 (nmV o)) ∧ Rd w' g (wdR o) ∧ w.grownBy w' (some g)) := number_any h
  have HN : Hid ((ctV o = (nmV o).toNat) ∧ ctR o = if nmV o < 0 then none else wdR o) := ⟨rfl, rfl⟩
  have hr := nm_rng o
  obtain ⟨n, hn⟩ : ∃ n, nmV o = n := ⟨_, rfl⟩
  rw [hn] at HW HN hr
  clear h hn
  have HR : Hid _ := hr
  clear hr
  go_enter Tryd.func80, Tryd.ntmps80
  go_wp2_with fail
  refine HW.out.mono ?_
  rintro e y ⟨rfl, hy, hg⟩
  by_cases hneg : n < 0
  · obtain ⟨s, b, hr, hm⟩ := hy
    have c1 : y.cell? ⟨g, 1, none⟩ = some (.bool b) := by simp [World.cell?, hr]
    have cg : g < y.heap.size := (Array.getElem?_eq_some_iff.1 hr).1
    have f1 : y.frozen? ⟨g, 1, none⟩ = false := by simp [World.frozen?, hr]
    have HE : Hid ((.returned (.int .i64 0) : Ending) = .returned (.int .i64 (ctV o : Int)) ∧ Rd (y.setCell ⟨g, 1, none⟩ (.bool true)) g (ctR o) ∧ w.grownBy (y.setCell ⟨g, 1, none⟩ (.bool true)) (some g)) := by
      refine ⟨?_, ?_, gb_trans hg (gb_set _ _ _ _)⟩
      · rw [HN.out.1, show n.toNat = 0 by omega]; rfl
      · rw [HN.out.2, if_pos hneg]
        exact ⟨s, true, (rd_set (s' := s) hr).2, rfl⟩
    clear hr hm hg
    go_wp2_with fail
    go_ret
    exact HE.out
  · have HE : Hid ((.returned (.int .i64 n) : Ending) = .returned (.int .i64 (ctV o : Int)) ∧ Rd y g (ctR o) ∧ w.grownBy y (some g)) := by
      refine ⟨?_, ?_, hg⟩
      · rw [HN.out.1, show ((n.toNat : Nat) : Int) = n by omega]
      · rw [HN.out.2, if_neg hneg]; exact hy
    have q1 : (0 : Int) ≤ n := by omega
    clear hy hg hneg
    go_wp2_with fail
    go_ret
    exact HE.out
theorem size_list (s : ByteArray) : s.size = s.data.toList.length := by simp
theorem ext_take (s : ByteArray) (n : Nat) (h : n ≤ s.size) : s.extract 0 n = ⟨(s.data.toList.take n).toArray⟩ := by
  have : (s.extract 0 n).data = (s.data.toList.take n).toArray := by
    apply Array.toList_inj.1
    simp [ByteArray.data_extract]
  cases hx : s.extract 0 n with
  | mk d => rw [hx] at this; rw [← this]
theorem ext_drop (s : ByteArray) (n : Nat) : (s.extract n s.size).data.toList = s.data.toList.drop n := by
  have h9 : (s.extract n s.size).data.toList = (s.data.toList.drop n).take (s.size - n) := by simp [ByteArray.data_extract]
  rw [h9]
  apply List.take_of_length_le
  rw [List.length_drop, ← size_list]; omega
theorem gb_below {a b c : World} {g : Nat} (h : a.grownBy b (some g)) (k : Below b.heap.size b c) : a.grownBy c (some g) :=
  ⟨k.os.trans h.os, k.tape.trans h.tape, k.output.trans h.output, Nat.le_trans h.size k.size, fun i hi hne => (k.block i (Nat.lt_of_lt_of_le hi h.size)).trans (h.block i hi hne)⟩
theorem Rd.below {w w' : World} {g : Nat} {o : Option (List UInt8)} (h : Rd w g o) (k : Below w.heap.size w w') : Rd w' g o := by
  obtain ⟨s, b, h1, h2⟩ := h
  exact ⟨s, b, kept k h1, h2⟩
set_option maxRecDepth 100000 in
set_option maxHeartbeats 1600000 in
theorem text_any {w : World} {g : Nat} {o : Option (List UInt8)} (h : Rd w g o) (hs : Sm o) :
    Calls Tryd.prog 79 #[.pointer (some ⟨g, 0, none⟩)] w fun e w' => e = .returned (.string ⟨(txV o).toArray⟩) ∧ Rd w' g (txR o) ∧ w.grownBy w' (some g) := by
  have HW : Hid (Calls Tryd.prog 80 #[.pointer (some ⟨g, 0, none⟩)] w fun e w' => e = .returned (.int .i64 (ctV o : Int)) ∧ Rd w' g (ctR o) ∧ w.grownBy w' (some g)) := count_any h
  have HZ : Hid (ctR o = none → ctV o = 0) := ct_none
  have HSM : Hid (Sm (ctR o)) := ctR_sm hs
  have HD : Hid (txR o = ((ctR o).bind fun l => if l.length < ctV o then none else some (l.drop (ctV o))) ∧ txV o = ((ctR o).bind fun l => if l.length < ctV o then none else some (l.take (ctV o))).getD []) := ⟨rfl, rfl⟩
  obtain ⟨n, hn⟩ : ∃ n, ctV o = n := ⟨_, rfl⟩
  obtain ⟨q, hq⟩ : ∃ q, ctR o = q := ⟨_, rfl⟩
  rw [hn] at HW HZ HD
  rw [hq] at HW HZ HD HSM
  clear h hs hn hq
  go_enter Tryd.func79, Tryd.ntmps79
  go_wp2_with fail
  refine HW.out.mono ?_
  rintro e y ⟨rfl, hy, hg⟩
  obtain ⟨s, b, hr, hm⟩ := hy
  have c0 : y.cell? ⟨g, 0, none⟩ = some (.string s) := by simp [World.cell?, hr]
  have cg : g < y.heap.size := (Array.getElem?_eq_some_iff.1 hr).1
  by_cases hlt : s.size < n
  · have f1 : y.frozen? ⟨g, 1, none⟩ = false := by simp [World.frozen?, hr]
    have c1 : y.cell? ⟨g, 1, none⟩ = some (.bool b) := by simp [World.cell?, hr]
    have HE : Hid ((.returned (.string ⟨#[]⟩) : Ending) = .returned (.string ⟨(txV o).toArray⟩) ∧ Rd (y.setCell ⟨g, 1, none⟩ (.bool true)) g (txR o) ∧ w.grownBy (y.setCell ⟨g, 1, none⟩ (.bool true)) (some g)) := by
      have hb : ((q.bind fun l => if l.length < n then none else some (l.drop n)) = none) ∧ ((q.bind fun l => if l.length < n then none else some (l.take n)) = none) := by
        cases q with
        | none => exact ⟨rfl, rfl⟩
        | some l =>
          obtain ⟨rfl, rfl⟩ := hm
          rw [size_list] at hlt
          exact ⟨if_pos hlt, if_pos hlt⟩
      refine ⟨?_, ?_, gb_trans hg (gb_set _ _ _ _)⟩
      · rw [HD.out.2, hb.2]; rfl
      · rw [HD.out.1, hb.1]
        exact ⟨s, true, (rd_set (s' := s) hr).2, rfl⟩
    have q1 : (s.size : Int) < (n : Int) := by omega
    clear hr hm hg hlt
    go_wp2_with fail
    go_ret
    exact HE.out
  · have q1 : decide ((s.size : Int) < (n : Int)) = false := decide_eq_false (by omega)
    have hns : n ≤ s.size := by omega
    have hsz : (s.extract 0 n).size ≤ 281474976710656 := by
      cases q with
      | none =>
        have h0 := HZ.out rfl
        rw [ByteArray.size_extract]; omega
      | some l =>
        obtain ⟨rfl, rfl⟩ := hm
        have := HSM.out _ rfl
        rw [← size_list] at this
        rw [ByteArray.size_extract]; omega
    have HC : Hid (Calls Tryd.prog 42 #[.string (s.extract 0 n)] y fun e w' => e = .returned (.string (s.extract 0 n)) ∧ Below y.heap.size y w') := Ic.clone_any _ y hsz
    have HF : Hid (∀ y2, Below y.heap.size y y2 → (y2.cell? ⟨g, 0, none⟩ = some (.string s) ∧ g < y2.heap.size ∧ y2.frozen? ⟨g, 0, none⟩ = false) ∧ ((.returned (.string (s.extract 0 n)) : Ending) = .returned (.string ⟨(txV o).toArray⟩) ∧ Rd (y2.setCell ⟨g, 0, none⟩ (.string (s.extract n s.size))) g (txR o) ∧ w.grownBy (y2.setCell ⟨g, 0, none⟩ (.string (s.extract n s.size))) (some g))) := by
      intro y2 hb
      have hr2 := kept hb hr
      refine ⟨⟨by simp [World.cell?, hr2], Nat.lt_of_lt_of_le cg hb.size, by simp [World.frozen?, hr2]⟩, ?_, ?_, gb_trans (gb_below hg hb) (gb_set _ _ _ _)⟩
      · rw [HD.out.2, ext_take s n hns]
        cases q with
        | none =>
          have h0 := HZ.out rfl
          subst h0; rfl
        | some l =>
          obtain ⟨rfl, rfl⟩ := hm
          show _ = Ending.returned (.string ⟨((if s.data.toList.length < n then none else some (s.data.toList.take n)).getD []).toArray⟩)
          rw [if_neg (by rw [← size_list]; omega)]; rfl
      · rw [HD.out.1]
        refine ⟨_, b, (rd_set (b' := false) hr2).1, ?_⟩
        cases q with
        | none => exact hm
        | some l =>
          obtain ⟨rfl, rfl⟩ := hm
          show match (if s.data.toList.length < n then none else some (s.data.toList.drop n)) with | none => _ | some l => _
          rw [if_neg (by rw [← size_list]; omega)]
          exact ⟨rfl, ext_drop s n⟩
    have q2 : (n : Int) ≤ (s.size : Int) := by omega
    clear hr hm hg hlt hns hsz
    go_wp2_with fail
    refine HC.out.mono ?_
    rintro e y2 ⟨rfl, hb⟩
    obtain ⟨⟨k0, kg, kf⟩, he⟩ := HF.out y2 hb
    have HE : Hid _ := he
    clear he hb c0 cg
    go_wp2_with fail
    go_ret
    exact HE.out
end Go.Proofs.YtabmpngliphdpaaDoor.Jn
