/- The document's list of prefixes: Put. -/
import Derived.Test.YtecboaocoobjgaaGreatDoorDd
namespace Go.Proofs.YtecboaocoobjgaaGreatDoor.De
set_option linter.unusedVariables false
set_option linter.unusedSimpArgs false
open Go.RowKit Go.Shelf Lib0 Kb Rp Rw Rs Li Mj Tj Ra Da Db Dc Dd
abbrev tL : TypeId := 89
abbrev tTr : TypeId := 37
theorem sB_of (s : ByteArray) : Value.string s = sv s.data.toList := by cases s; simp [sv, sB]
/-- nothing is appended: the slice stays -/
theorem run_none {P : Program} (w : World) (t ty e : TypeId) (i : TypeInfo) (ht : P.underlying t = some (.slice e)) (hi : P.info? e = some i) (base : Option Addr) (n c : Nat) (hle : n ≤ c) :
    (Builtin.append_ #[t, t] ty #[.slice base n c, .slice none 0 0]).run P w = .ok (.slice base n c) w := by
  cases base <;> simp [Builtin.append_, run_underlying ht, sizeOf, typeInfo, hi, storeCells, Builtin.lenOf, Builtin.firstCells, hle]
theorem wpList_append_none {P : Program} (w : World) {ops : Array Oper} {rest : List Oper} {o : Oper} {a : Act} {Q : Exit → Act → World → Prop} (hgd : o.guard = none) (s x : Operand) (t : TypeId)
    (ho : o.op = .call { callee := .builtin .append, args := #[s, x], argTypes := #[t, t] }) (e : TypeId) (i : TypeInfo) (ht : P.underlying t = some (.slice e)) (hi : P.info? e = some i) (base : Option Addr) (n c : Nat) (hle : n ≤ c) (hs : a.eval s = .slice base n c) (hx : a.eval x = .slice none 0 0)
    (h : wpList P ops Q rest (a.put o.dst (.slice base n c)) w) : wpList P ops Q (o :: rest) a w := by
  refine wpList_plain hgd fun K hK => ?_
  unfold Oper.wp execOp
  have hr := run_none (P := P) w t o.type e i ht hi base n c hle
  simp only [ho, resolve, invoke, builtin, Sem.run_bind, Sem.run_pure, Result.andThen_ok, List.map_toArray, List.map_cons, List.map_nil, hs, hx, hr]
  exact hK _ _ h
theorem own_below2 {w y : World} {B e s n : Nat} {v : Value} {xs : List Value} (h : w.ownsRow B e s v n xs) (hb : Below w.heap.size w y) : y.ownsRow B e s v n xs := by
  refine ⟨h.1, ?_⟩
  rcases h.2 with h2 | ⟨g, cap, cur, rfl, h3, h4, h5⟩
  · exact .inl h2
  · exact .inr ⟨g, cap, cur, rfl, h3, (hb.block g (Array.getElem?_eq_some_iff.1 h4).1).trans h4, h5⟩
set_option maxRecDepth 100000 in
set_option maxHeartbeats 3200000 in
theorem putr_any (w : World) (b : Nat) (v : Value) (L : LT) (s : ByteArray) (n : Int) (hb : w.heap[b]? = some (.cells #[v] tTr)) (hr : RowL w v L) (hcp : Cp v) (hS : Srt L) (hL : L.length ≤ 1000000) (hs : s.size ≤ maxLen) :
    Calls Tryz.prog 15 #[.pointer (some ⟨b, 0, none⟩), .string s, .int .i64 n] w fun e w' => e = .returned (.int .i64 (if putE L s.data.toList then 0 else 150)) ∧ Fr [b] w w' ∧ ∃ v', w'.heap[b]? = some (.cells #[v'] tTr) ∧ Cp v' ∧ RowL w' v' (putL L s.data.toList n) := by
  obtain ⟨i0, hi, hz0, hz1, hz2⟩ := info_parts infoL
  have hv : w.cell? ⟨b, 0, none⟩ = some v := by simp [World.cell?, hb]
  have pp := place_any w b v L s hv hr hS
  have pd := fun w => digitsr_any s 1 19 w hs
  rw [show (s.data.toList.all isD && inN (s.size : Int) 1 19) = okK s.data.toList from key_eq s] at pd
  cases hT : putE L s.data.toList with
  | false =>
    rw [show putL L s.data.toList n = L by simp [putL, hT]]
    have HB : Hid (w.heap[b]? = some (.cells #[v] tTr)) := hb
    have HR : Hid (RowL w v L) := hr
    clear hv hb hr
    unfold putE at hT
    cases hk : okK s.data.toList with
    | false =>
      rw [hk] at pd
      clear hT hk
      go_enter Tryz.func15, Tryz.ntmps15
      go_wp2_with fail
      refine (pd _).mono ?_
      rintro e y ⟨rfl, hy⟩
      rw [hy]
      clear hy y
      go_wp2_with fail
      refine pp.mono ?_
      rintro e y ⟨rfl, k⟩
      go_wp2_with fail
      go_ret
      exact ⟨rfl, Fr.of k, v, kept k HB.out, hcp, row_below HR.out k⟩
    | true =>
      have ha : isAt L s.data.toList = true := by rw [hk] at hT; simpa using hT
      rw [hk] at pd
      rw [ha] at pp
      clear hT hk ha
      go_enter Tryz.func15, Tryz.ntmps15
      go_wp2_with fail
      refine (pd _).mono ?_
      rintro e y ⟨rfl, hy⟩
      rw [hy]
      clear hy y
      go_wp2_with fail
      refine pp.mono ?_
      rintro e y ⟨rfl, k⟩
      go_wp2_with fail
      go_ret
      exact ⟨rfl, Fr.of k, v, kept k HB.out, hcp, row_below HR.out k⟩
  | true =>
    have hk : okK s.data.toList = true := by simp [putE] at hT; exact hT.1
    have ha : isAt L s.data.toList = false := by simp [putE] at hT; exact hT.2
    rw [show putL L s.data.toList n = ins L s.data.toList n by simp [putL, hT]]
    rw [hk] at pd
    rw [ha] at pp
    have hPL := place_le L s.data.toList
    have hAl : (L.take (place L s.data.toList)).length = place L s.data.toList := by rw [List.length_take]; omega
    have hCl : (L.drop (place L s.data.toList)).length = L.length - place L s.data.toList := by simp
    have hsplit : L = L.take (place L s.data.toList) ++ L.drop (place L s.data.toList) := by simp
    unfold ins
    have hsv : Value.string s = sv s.data.toList := sB_of s
    generalize s.data.toList = z at *
    generalize L.take (place L z) = A at *
    generalize L.drop (place L z) = C at *
    generalize place L z = P at *
    obtain ⟨N, HN⟩ : ∃ N, Hid (L.length = N) := ⟨_, rfl⟩
    rw [HN.out] at hPL hL hCl
    have HSV : Hid (Value.string s = sv z) := hsv
    obtain ⟨o, n', cap, rfl, hc1, hc2, hc3⟩ := hcp
    obtain rfl : n' = N := by
      obtain ⟨o', cap', e', _⟩ := hr
      injection e' with _ e2 _
      rw [e2, HN.out]
    clear hsv hT hk ha
    cases o with
    | none =>
      obtain rfl := hc3 rfl
      obtain rfl : n' = 0 := by omega
      obtain rfl : P = 0 := by omega
      have hA0 : A = [] := List.length_eq_zero_iff.1 hAl
      have hC0 : C = [] := List.length_eq_zero_iff.1 (by omega)
      have HB : Hid (w.heap[b]? = some (.cells #[.slice none 0 0] tTr)) := hb
      have HAC : Hid (A = [] ∧ C = []) := ⟨hA0, hC0⟩
      clear hr hv hb hc1 hc2 hc3 hPL hL hCl hAl hsplit hS hA0 hC0
      go_enter Tryz.func15, Tryz.ntmps15
      go_wp2_with fail
      refine (pd _).mono ?_
      rintro e y ⟨rfl, hy⟩
      rw [hy]
      clear hy y
      go_wp2_with fail
      refine pp.mono ?_
      rintro e y ⟨rfl, k⟩
      have hy := kept k HB.out
      have cy : y.cell? ⟨b, 0, none⟩ = some (.slice none 0 0) := by simp [World.cell?, hy]
      have HK : Hid (Below w.heap.size w y) := k
      clear pp pd hy k
      go_wp2_with (at_builtin; refine halt ?_)
      intro _
      refine wpList_append_none _ rfl _ _ _ rfl tL i0 Tryz.underlying35 hi none 0 0 (Nat.le_refl _) rfl rfl ?_
      go_wp2_with (at_builtin; refine halt ?_)
      intro _
      refine wpList_append_own_at _ rfl _ _ _ rfl y.heap.size tL i0 _ 2 24 Tryz.underlying35 hi hz0 hz1 hz2 rfl (by omega) _ 0 [] rfl (World.ownsRow_nil _ _ _ _) ⟨y.heap.size, 0, none⟩ 1 1 [.string s, .int .i64 n] rfl rfl (World.news_of_block (heap_alloc_new y _)) (by simp [Value.oneCell']) (by decide) (by decide) (by simp) ?_
      intro v1 y1 hown1 hgrow1 hx1 hx2
      clear hx1 hx2
      obtain ⟨o2, n2, c2, rfl⟩ := own_form hown1
      have BY : Below w.heap.size w y1 := (HK.out.alloc HK.out.size _).grown hgrow1 (by simp; have := HK.out.size; omega) (fun r e => by cases e)
      have FR := fin_row HB.out BY (L2 := A ++ (z, n) :: C) (by rw [HAC.out.1, HAC.out.2]; simp only [List.nil_append, List.length_cons, List.length_nil, cel, List.flatMap_cons, List.flatMap_nil, List.append_nil]; rw [← HSV.out]; exact hown1) HK.out.size (by rw [HAC.out.1, HAC.out.2]; simp)
      have g0 := FR.1
      have g1 := FR.2.1
      have HFR : Hid (Fr [b] w (y1.setCell ⟨b, 0, none⟩ (.slice o2 n2 c2)) ∧ ∃ v', (y1.setCell ⟨b, 0, none⟩ (.slice o2 n2 c2)).heap[b]? = some (.cells #[v'] tTr) ∧ Cp v' ∧ RowL (y1.setCell ⟨b, 0, none⟩ (.slice o2 n2 c2)) v' (A ++ (z, n) :: C)) := FR.2.2
      have hnc : n2 ≤ c2 := by
        rcases hown1.2 with ⟨e, _⟩ | ⟨g, cap', cur, e, _, _, h5, _⟩
        · injection e with _ e2 e3; omega
        · injection e with _ e2 e3; omega
      clear FR BY hown1 hgrow1 HSV HN HAC HK cy
      go_wp2_with (at_builtin; refine halt ?_)
      intro _
      refine wpList_append_none _ rfl _ _ _ rfl tL i0 Tryz.underlying35 hi o2 n2 c2 hnc rfl rfl ?_
      clear hi hz0 hz1 hz2 hnc
      go_wp2_with fail
      go_ret
      exact ⟨by simp, HFR.out.1, HFR.out.2⟩
    | some a =>
      have HB : Hid (w.heap[b]? = some (.cells #[.slice (some a) n' cap] tTr)) := hb
      have HR : Hid (RowL w (.slice (some a) n' cap) (A ++ C)) := by rw [← hsplit]; exact hr
      have HAc : Hid (∀ y, Below w.heap.size w y → ∀ j u, (cel A)[j]? = some u → y.cell? (a.add j) = some u) := fun y hy j u hu => by
        have := row_part (A := []) (M := A) (C := C) (by rw [List.nil_append]; exact row_below HR.out hy) j u hu
        simpa [Addr.add] using this
      have HCc : Hid (∀ y, Below w.heap.size w y → ∀ j u, (cel C)[j]? = some u → y.cell? ((a.add (P * 2)).add j) = some u) := fun y hy j u hu => by
        have := row_part (A := A) (M := C) (C := []) (by rw [List.append_nil]; exact row_below HR.out hy) j u hu
        rw [hAl] at this
        exact this
      have HAl : Hid (A.length = P) := hAl
      have HCl : Hid (C.length = n' - P) := hCl
      have hA2 : Hid ((cel A).length = P * 2) := by show _ = _; rw [cel_len, HAl.out]
      have hC2 : Hid ((cel C).length = (n' - P) * 2) := by show _ = _; rw [cel_len, HCl.out]
      have HPN : Hid (P ≤ n' ∧ n' ≤ cap ∧ n' ≤ 1000000) := ⟨hPL, hc1, hL⟩
      have HB1 : Hid (0 + P ≤ maxLen) := by show _ ≤ _; unfold maxLen; omega
      have HB2 : Hid ((0 + P) * 24 ≤ 140737488355328) := by show _ ≤ _; omega
      have q0 : (P : Int) ≤ (cap : Int) := by omega
      have q1 : (0 : Int) ≤ (P : Int) := by omega
      clear hr hv hb hc1 hc2 hc3 hPL hL hCl hAl hsplit hS
      go_enter Tryz.func15, Tryz.ntmps15
      go_wp2_with fail
      refine (pd _).mono ?_
      rintro e y ⟨rfl, hy⟩
      rw [hy]
      clear hy y
      go_wp2_with fail
      refine pp.mono ?_
      rintro e y ⟨rfl, k⟩
      have hy := kept k HB.out
      have cy : y.cell? ⟨b, 0, none⟩ = some (.slice (some a) n' cap) := by simp [World.cell?, hy]
      have HK : Hid (Below w.heap.size w y) := k
      have ac : Hid (∀ j u, (cel A)[j]? = some u → y.cell? (a.add j) = some u) := HAc.out y k
      clear pp pd hy k
      go_wp2_with (at_builtin; refine halt ?_)
      intro _
      refine wpList_append_own_at _ rfl _ _ _ rfl y.heap.size tL i0 _ 2 24 Tryz.underlying35 hi hz0 hz1 hz2 rfl (by omega) _ 0 [] rfl (World.ownsRow_nil _ _ _ _) a P cap (cel A) rfl hA2.out ac.out (cel_one A) HB1.out HB2.out (Nat.le_refl _) ?_
      intro v1 y1 hown1 hgrow1 hx1 hx2
      clear hx1 hx2 cy
      rw [Nat.zero_add, List.nil_append] at hown1
      have HY1 : Hid (Below y.heap.size y y1) := (Below.refl _ _).grown hgrow1 (Nat.le_refl _) (fun r e => by cases e)
      have HV1 : Hid ((y1.alloc (.cells #[.string s, .int .i64 n] tL)).ownsRow y.heap.size tL 2 v1 P (cel A)) := own_below2 hown1 (Kb.below_one y1 _)
      have HOB : Hid (∀ r, v1.ownBlock = some r → y.heap.size ≤ r) := fun r e => Lib0.own_ge hown1 r e
      have HB5 : Hid (P + 1 ≤ maxLen) := by show _ ≤ _; have := HPN.out; unfold maxLen; omega
      have HB6 : Hid ((P + 1) * 24 ≤ 140737488355328) := by show _ ≤ _; have := HPN.out; omega
      have hS1 : Hid (y.heap.size ≤ (y1.alloc (.cells #[.string s, .int .i64 n] tL)).heap.size) := by show _ ≤ _; have := HY1.out.size; simp; omega
      clear hown1 hgrow1
      go_wp2_with (at_builtin; refine halt ?_)
      intro _
      refine wpList_append_own_at _ rfl _ _ _ rfl y.heap.size tL i0 _ 2 24 Tryz.underlying35 hi hz0 hz1 hz2 rfl (by omega) v1 P (cel A) rfl HV1.out ⟨y1.heap.size, 0, none⟩ 1 1 [.string s, .int .i64 n] rfl rfl (World.news_of_block (heap_alloc_new y1 _)) (by simp [Value.oneCell']) HB5.out HB6.out hS1.out ?_
      intro v2 y2 hown2 hgrow2 hx1 hx2
      clear hx1 hx2
      have HY2 : Hid (Below y.heap.size y y2) := (HY1.out.alloc HY1.out.size _).grown hgrow2 hS1.out (fun r e => HOB.out r e)
      have HV2 : Hid (y2.ownsRow y.heap.size tL 2 v2 (P + 1) (cel A ++ [.string s, .int .i64 n])) := hown2
      have HOC : Hid (∀ r, v2.ownBlock = some r → y.heap.size ≤ r) := fun r e => Lib0.own_ge hown2 r e
      have c2' : y2.cell? ⟨b, 0, none⟩ = some (.slice (some a) n' cap) := by
        have := kept (Kb.keepB HK.out HY2.out) HB.out
        simp [World.cell?, this]
      have HB7 : Hid (P + 1 + (n' - P) ≤ maxLen) := by show _ ≤ _; have := HPN.out; unfold maxLen; omega
      have HB8 : Hid ((P + 1 + (n' - P)) * 24 ≤ 140737488355328) := by show _ ≤ _; have := HPN.out; omega
      have hS2 : Hid (y.heap.size ≤ y2.heap.size) := HY2.out.size
      have q3 : (P : Int) ≤ (n' : Int) := by have := HPN.out; omega
      have q4 : (n' : Int) ≤ (cap : Int) := by have := HPN.out; omega
      clear hown2 hgrow2 HV1 HOB HB5 HB6 hS1 HB1 HB2
      by_cases hz : cap = P
      · have hC0 : C = [] := by
          have := HCl.out; have := HPN.out
          exact List.length_eq_zero_iff.1 (by omega)
        go_wp2_with (at_builtin; refine halt ?_)
        intro _
        refine wpList_append_own_at _ rfl _ _ _ rfl y.heap.size tL i0 _ 2 24 Tryz.underlying35 hi hz0 hz1 hz2 rfl (by omega) v2 (P + 1) (cel A ++ [.string s, .int .i64 n]) rfl HV2.out a (n' - P) 0 (cel C) rfl hC2.out (fun j u hu => by rw [hC0] at hu; simp [cel] at hu) (cel_one C) HB7.out HB8.out hS2.out ?_
        intro v3 y3 hown3 hgrow3 hx1 hx2
        clear hx1 hx2
        obtain ⟨o2, n2, c2, rfl⟩ := own_form hown3
        have BY : Below w.heap.size w y3 := (Kb.keepB HK.out HY2.out).grown hgrow3 (Nat.le_trans HK.out.size hS2.out) (fun r e => Nat.le_trans HK.out.size (HOC.out r e))
        have FR := fin_row HB.out BY (L2 := A ++ (z, n) :: C) (by
          have e1 : (A ++ (z, n) :: C).length = P + 1 + (n' - P) := by rw [List.length_append, List.length_cons, HAl.out, HCl.out]; omega
          have e2 : cel (A ++ (z, n) :: C) = cel A ++ [.string s, .int .i64 n] ++ cel C := by rw [cel_append, HSV.out]; simp [cel]
          rw [e1, e2]; exact hown3) HK.out.size (by have := HAl.out; have := HCl.out; have := HPN.out; simp; omega)
        have g0 := FR.1
        have g1 := FR.2.1
        have HFR : Hid (Fr [b] w (y3.setCell ⟨b, 0, none⟩ (.slice o2 n2 c2)) ∧ ∃ v', (y3.setCell ⟨b, 0, none⟩ (.slice o2 n2 c2)).heap[b]? = some (.cells #[v'] tTr) ∧ Cp v' ∧ RowL (y3.setCell ⟨b, 0, none⟩ (.slice o2 n2 c2)) v' (A ++ (z, n) :: C)) := FR.2.2
        clear FR BY hown3 hgrow3 q0 q1 q3 q4 hz c2' hC0 hi hz0 hz1 hz2 HSV HN HR HAc HCc HAl HCl hA2 hC2 HPN HK ac HY1 HY2 HV2 HOC HB7 HB8 hS2
        go_wp2_with fail
        go_ret
        exact ⟨by simp, HFR.out.1, HFR.out.2⟩
      · have HCy : Hid (∀ j u, (cel C)[j]? = some u → y2.cell? ((a.add (P * 2)).add j) = some u) := HCc.out y2 (Kb.keepB HK.out HY2.out)
        go_wp2_with (at_builtin; refine halt ?_)
        intro _
        refine wpList_append_own_at _ rfl _ _ _ rfl y.heap.size tL i0 _ 2 24 Tryz.underlying35 hi hz0 hz1 hz2 rfl (by omega) v2 (P + 1) (cel A ++ [.string s, .int .i64 n]) rfl HV2.out (a.add (P * 2)) (n' - P) (cap - P) (cel C) rfl hC2.out HCy.out (cel_one C) HB7.out HB8.out hS2.out ?_
        intro v3 y3 hown3 hgrow3 hx1 hx2
        clear hx1 hx2
        obtain ⟨o2, n2, c2, rfl⟩ := own_form hown3
        have BY : Below w.heap.size w y3 := (Kb.keepB HK.out HY2.out).grown hgrow3 (Nat.le_trans HK.out.size hS2.out) (fun r e => Nat.le_trans HK.out.size (HOC.out r e))
        have FR := fin_row HB.out BY (L2 := A ++ (z, n) :: C) (by
          have e1 : (A ++ (z, n) :: C).length = P + 1 + (n' - P) := by rw [List.length_append, List.length_cons, HAl.out, HCl.out]; omega
          have e2 : cel (A ++ (z, n) :: C) = cel A ++ [.string s, .int .i64 n] ++ cel C := by rw [cel_append, HSV.out]; simp [cel]
          rw [e1, e2]; exact hown3) HK.out.size (by have := HAl.out; have := HCl.out; have := HPN.out; simp; omega)
        have g0 := FR.1
        have g1 := FR.2.1
        have HFR : Hid (Fr [b] w (y3.setCell ⟨b, 0, none⟩ (.slice o2 n2 c2)) ∧ ∃ v', (y3.setCell ⟨b, 0, none⟩ (.slice o2 n2 c2)).heap[b]? = some (.cells #[v'] tTr) ∧ Cp v' ∧ RowL (y3.setCell ⟨b, 0, none⟩ (.slice o2 n2 c2)) v' (A ++ (z, n) :: C)) := FR.2.2
        clear FR BY hown3 hgrow3 q0 q1 q3 q4 hz c2' HCy hi hz0 hz1 hz2 HSV HN HR HAc HCc HAl HCl hA2 hC2 HPN HK ac HY1 HY2 HV2 HOC HB7 HB8 hS2
        go_wp2_with fail
        go_ret
        exact ⟨by simp, HFR.out.1, HFR.out.2⟩
end Go.Proofs.YtecboaocoobjgaaGreatDoor.De
