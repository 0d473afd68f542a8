/- journal.bodyOf, of any entry. -/
import Derived.Test.YtabmpngliphdpaaDoorKa
import Derived.Test.YtabmpngliphdpaaDoorJj
namespace Go.Proofs.YtabmpngliphdpaaDoor.Ke
set_option linter.unusedVariables false
set_option linter.unusedSimpArgs false
open Go.RowKit Go.Conc Lib0 Kb Ji Jj Bd
attribute [local go_sem] Oper.semAt_some
/-- an output: kind, link, code, at, bytes -/
structure Ou where
  k : Int
  l : Int
  c : Int
  a : Int
  b : ByteArray
def Ou.cs (x : Ou) : List Value := [.int .i64 x.k, .int .i64 x.l, .int .i64 x.c, .int .i64 x.a, .string x.b]
def i64in (n : Int) : Prop := -9223372036854775808 ≤ n ∧ n ≤ 9223372036854775807
/-- it can stand in memory -/
def Ou.ok (x : Ou) : Prop := i64in x.k ∧ i64in x.l ∧ i64in x.c ∧ i64in x.a ∧ x.b.size ≤ 4611686018427387904
/-- a row of outputs that can be read -/
def RowO (w : World) (v : Value) (L : List Ou) : Prop :=
  ∃ (o : Option Addr) (cap : Nat), v = .slice o L.length cap ∧ ∀ i (h : i < L.length), ∃ a : Addr, o = some a ∧ ∀ j u, (L[i].cs)[j]? = some u → w.cell? ((a.add (i * 5)).add j) = some u
theorem rowo_below {w x : World} {v : Value} {L : List Ou} (h : RowO w v L) (k : Below w.heap.size w x) : RowO x v L := by
  obtain ⟨o, cap, e, hc⟩ := h
  refine ⟨o, cap, e, fun i hi => ?_⟩
  obtain ⟨a, ea, c⟩ := hc i hi
  exact ⟨a, ea, fun j u hu => (k.cell (World.block_lt_of_cell? w _ (c j u hu))).trans (c j u hu)⟩
theorem rowo_nil (w : World) : RowO w (.slice none 0 0) [] := ⟨none, 0, rfl, fun i hi => by simp at hi⟩
/-- an output's bytes -/
def encO (x : Ou) : List UInt8 := encL [x.k, x.l, x.c, x.a] ++ encT x.b
/-- outputs behind others; where there is too much, not all -/
def outsL : List Ou → List UInt8 → List UInt8
  | [], acc => acc
  | x :: t, acc => if 10000000 < acc.length then acc else outsL t (acc ++ encO x)
def headE (k l n : Int) (tx : ByteArray) (m : Nat) : List UInt8 := encL [k, l, n] ++ encT tx ++ encN (m : Int)
def bodyE (k l n : Int) (tx : ByteArray) (L : List Ou) : List UInt8 := outsL L (headE k l n tx L.length)
theorem encN_len (n : Int) : (encN n).length ≤ 10 := encU_len 9 _
theorem encT_len (s : ByteArray) : (encT s).length ≤ 10000011 := by
  unfold encT
  rw [List.length_append]
  have h1 := encN_len (s.size : Int)
  have h2 : (s.extract 0 (min s.size 10000001)).data.toList.length ≤ 10000001 := by
    rw [← Jn.size_list, ByteArray.size_extract]; omega
  omega
theorem encO_len (x : Ou) : (encO x).length ≤ 10000051 := by
  have h1 := encL_len [x.k, x.l, x.c, x.a]
  have h2 := encT_len x.b
  unfold encO
  rw [List.length_append]
  simp only [List.length_cons, List.length_nil] at h1
  omega
theorem headE_len (k l n : Int) (tx : ByteArray) (m : Nat) : (headE k l n tx m).length ≤ 10000051 := by
  have h1 := encL_len [k, l, n]
  have h2 := encT_len tx
  have h3 := encN_len (m : Int)
  unfold headE
  rw [List.length_append, List.length_append]
  simp only [List.length_cons, List.length_nil] at h1
  omega
theorem encU_ne (k u : Nat) : encU k u ≠ [] := by
  cases k with
  | zero => simp [encU]
  | succ k => rw [encU]; split <;> simp
theorem headE_ne (k l n : Int) (tx : ByteArray) (m : Nat) : headE k l n tx m ≠ [] := by
  intro h
  unfold headE at h
  rw [List.append_eq_nil_iff] at h
  exact encU_ne _ _ h.2
theorem outsL_ne : ∀ (L : List Ou) (acc : List UInt8), acc ≠ [] → outsL L acc ≠ []
  | [], acc, h => h
  | x :: t, acc, h => by
    rw [outsL]
    split
    · exact h
    · exact outsL_ne t _ (by simp [h])
theorem blen_any {w : World} {B b : Nat} {l : List UInt8} (h : Is w B b l) :
    Calls Tryd.prog 57 #[.pointer (some ⟨b, 0, none⟩)] w fun e w' => e = .returned (.int .i64 (l.length : Int)) ∧ w' = w := by
  obtain ⟨p, v, h1, h2, h3, h4⟩ := h
  obtain ⟨o, cap, rfl⟩ := owns_sl h3
  have c1 : w.cell? ⟨b, 1, none⟩ = some (.slice o l.length cap) := by simp [World.cell?, h1]
  have gl : b < w.heap.size := (Array.getElem?_eq_some_iff.1 h1).1
  clear h1 h2 h3 h4
  go_enter Tryd.func57, Tryd.ntmps57
  go_wp2
  go_ret
  exact ⟨rfl, rfl⟩
theorem run_loadVar_at {P : Program} (w : World) (p : Addr) (ty : TypeId) (cs : List Value) (d : TypeDesc) (hc : ∀ j v, cs[j]? = some v → w.cell? (p.add j) = some v)
    (hu : P.underlying ty = some d) (hd : d.isRow = true) (hi : (P.info? ty).map (·.size) = some cs.length) :
    (loadVar ty p).run P w = .ok (.agg cs.toArray) w := by
  have hl : (loadCells p cs.length).run P w = .ok cs.toArray w := run_loadCells_list (P := P) w p cs hc
  cases hq : P.info? ty with
  | none => simp [hq] at hi
  | some i =>
    have hs : i.size = cs.length := by simpa [hq] using hi
    have hagg : (isAgg ty).run P w = .ok true w := by
      unfold isAgg
      rw [Sem.run_bind, run_underlying hu w]
      cases d <;> simp_all
    simp [loadVar, Sem.run_bind, hagg, sizeOf, typeInfo, hq, hs, hl]
theorem wpList_load_at {P : Program} {ops : Array Oper} {rest : List Oper} {o : Oper} {a : Act} {w : World} {Q : Exit → Act → World → Prop} (hgd : o.guard = none) (ty : TypeId) (x : Operand) (ho : o.op = .load ty x)
    (p : Addr) (hx : a.eval x = .pointer (some p)) (cs : List Value) (hc : ∀ j v, cs[j]? = some v → w.cell? (p.add j) = some v) (d : TypeDesc) (hu : P.underlying ty = some d) (hd : d.isRow = true) (hi : (P.info? ty).map (·.size) = some cs.length)
    (h : wpList P ops Q rest (a.put o.dst (.agg cs.toArray)) w) : wpList P ops Q (o :: rest) a w := by
  refine wpList_plain hgd fun K hK => ?_
  have hl := run_loadVar_at (P := P) w p ty cs d hc hu hd hi
  unfold Oper.wp execOp
  simp only [ho, hx, Instr.loadAt, Instr.sureAddr, Sem.run_bind, Sem.run_pure, Result.andThen_ok, hl]
  exact hK _ _ h
theorem wnL {w : World} {B b : Nat} {l : List UInt8} (h : Is w B b l) (L : List Int) (hL : ∀ n ∈ L, i64in n) (hN : L.length ≤ 1000) (hl : l.length ≤ 35184372088832) (hB : B ≤ w.heap.size) :
    Calls Tryd.prog 55 #[.pointer (some ⟨b, 0, none⟩), .slice (some ⟨w.heap.size, 0, none⟩) L.length L.length] (w.alloc (.cells (L.map (Value.int .i64)).toArray 3)) fun e w' => e = .returned (.tuple #[]) ∧ Is w' B b (l ++ encL L) ∧ Ch B w w' := by
  have hb := below_one w (.cells (L.map (Value.int .i64)).toArray 3)
  refine (writeNumbers_any (h.below hb) w.heap.size L (h1_0 _ _) hL hN hl).mono ?_
  rintro e y ⟨rfl, h1, h2⟩
  exact ⟨rfl, h1, (ch_below hb hB).trans h2⟩
/-- what holds between the rounds over the outputs -/
structure Bo (w wr : World) (b : Nat) (L : List Ou) (N i : Nat) (D acc : List UInt8) : Prop where
  is : Is wr w.heap.size b acc
  ch : Below w.heap.size w wr
  le : i ≤ N
  run : outsL (L.drop i) acc = D
  len : acc.length ≤ 20000200
theorem outsL_step {L : List Ou} {i : Nat} (h : i < L.length) {acc : List UInt8} (ha : acc.length ≤ 10000000) : outsL (L.drop i) acc = outsL (L.drop (i + 1)) (acc ++ encO L[i]) := by
  rw [List.drop_eq_getElem_cons h, outsL, if_neg (by omega)]
theorem outsL_stop {L : List Ou} {i : Nat} {acc : List UInt8} (h : i = L.length ∨ 10000000 < acc.length) : outsL (L.drop i) acc = acc := by
  rcases h with h | h
  · rw [List.drop_of_length_le (by omega)]; rfl
  · cases L.drop i with
    | nil => rfl
    | cons x t => rw [outsL, if_pos h]
set_option maxRecDepth 100000 in
set_option maxHeartbeats 1600000 in
theorem bodyOf_any (k l n : Int) (tx : ByteArray) (v : Value) (L : List Ou) (w : World) (hv : RowO w v L) (hk : i64in k ∧ i64in l ∧ i64in n ∧ tx.size ≤ 4611686018427387904) (hL : ∀ x ∈ L, x.ok) (hN : L.length ≤ 4611686018427387904) :
    Calls Tryd.prog 35 #[.agg #[.int .i64 k, .int .i64 l, .int .i64 n, .string tx, v]] w fun e w' => e = .returned (.string ⟨(bodyE k l n tx L).toArray⟩) ∧ Below w.heap.size w w' := by
  obtain ⟨o, cap, rfl, hc⟩ := hv
  obtain ⟨N, HN⟩ : ∃ N, Hid (L.length = N) := ⟨_, rfl⟩
  rw [HN.out] at hN ⊢
  obtain ⟨W1, HW1⟩ : ∃ W, Hid (w.alloc (.cells #[.int .i64 k, .int .i64 l, .int .i64 n, .string tx, .slice o N cap] 40) = W) := ⟨_, rfl⟩
  obtain ⟨W2, HW2⟩ : ∃ W, Hid (W1.alloc (.cells #[.pointer none, .slice none 0 0] 81) = W) := ⟨_, rfl⟩
  have hb1 : Below w.heap.size w W1 := HW1.out ▸ below_one _ _
  have hb2 : Below W1.heap.size W1 W2 := HW2.out ▸ below_one _ _
  have hx1 : W1.heap[w.heap.size]? = some (.cells #[.int .i64 k, .int .i64 l, .int .i64 n, .string tx, .slice o N cap] 40 (0, 0)) := HW1.out ▸ h1_0 _ _
  have hs1 : W1.heap.size = w.heap.size + 1 := by rw [← HW1.out]; simp
  have hx2 := kept hb2 hx1
  have hI2 : Is W2 w.heap.size W1.heap.size [] := ⟨_, _, HW2.out ▸ h1_0 _ _, .inl rfl, World.ownsRow_nil _ _ _ _, by omega⟩
  have HC : Hid (∀ i (h : i < L.length), ∃ a : Addr, o = some a ∧ ∀ j u, (L[i].cs)[j]? = some u → w.cell? ((a.add (i * 5)).add j) = some u) := hc
  have HK : Hid ((i64in k ∧ i64in l ∧ i64in n ∧ tx.size ≤ 4611686018427387904) ∧ (∀ x ∈ L, x.ok) ∧ N ≤ 4611686018427387904) := ⟨hk, hL, hN⟩
  have HB2 : Hid (Below w.heap.size w W2) := keepB hb1 hb2
  have HX2 : Hid (W2.heap[w.heap.size]? = some (.cells #[.int .i64 k, .int .i64 l, .int .i64 n, .string tx, .slice o N cap] 40 (0, 0))) := hx2
  have HI2 : Hid (Is W2 w.heap.size W1.heap.size []) := hI2
  have c0 : W2.cell? ⟨w.heap.size, 0, none⟩ = some (.int .i64 k) := by simp [World.cell?, hx2]
  have c1 : W2.cell? ⟨w.heap.size, 1, none⟩ = some (.int .i64 l) := by simp [World.cell?, hx2]
  have c2 : W2.cell? ⟨w.heap.size, 2, none⟩ = some (.int .i64 n) := by simp [World.cell?, hx2]
  have hs2 : W2.heap.size = W1.heap.size + 1 := by rw [← HW2.out]; simp
  have HS : Hid (W1.heap.size = w.heap.size + 1 ∧ W2.heap.size = W1.heap.size + 1) := ⟨hs1, hs2⟩
  obtain ⟨b, hbb⟩ : ∃ b, W1.heap.size = b := ⟨_, rfl⟩
  clear hc hk hL hN hb1 hb2 hx1 hs1 hx2 hI2 hs2
  go_enter Tryd.func35, Tryd.ntmps35
  go_wp2_with (first | (rw [HW1.out]) | (rw [HW2.out]) | fail)
  rw [hbb] at HI2 HS
  have hkn := HK.out.1
  have HW1 : Hid (Calls _ _ _ _ _) := wnL HI2.out [k, l, n] (by intro m hm; simp at hm; rcases hm with rfl | rfl | rfl; exact hkn.1; exact hkn.2.1; exact hkn.2.2.1) (by simp) (by simp) HB2.out.size
  clear hkn
  refine HW1.out.mono ?_
  rintro e y1 ⟨rfl, hI3, hc3⟩
  rw [List.nil_append] at hI3
  have hx3 := ch_on hc3 HX2.out (by decide) (by decide)
  have d3 : y1.cell? ⟨w.heap.size, 3, none⟩ = some (.string tx) := by simp [World.cell?, hx3]
  have hl3 : (encL [k, l, n]).length ≤ 30 := encL_len [k, l, n]
  have HB3 : Hid (Below w.heap.size w y1) := HB2.out.trans hc3.1
  have HWT : Hid (Calls _ _ _ _ _) := writeText_any hI3 tx HK.out.1.2.2.2 (by omega) HB3.out.size
  have HX3 : Hid (y1.heap[w.heap.size]? = some (.cells #[.int .i64 k, .int .i64 l, .int .i64 n, .string tx, .slice o N cap] 40 (0, 0))) := hx3
  clear hI3 hc3 hx3 hl3
  go_wp2_with fail
  refine HWT.out.mono ?_
  rintro e y2 ⟨rfl, hI4, hc4⟩
  have hx4 := ch_on hc4 HX3.out (by decide) (by decide)
  have d4 : y2.cell? ⟨w.heap.size, 4, none⟩ = some (.slice o N cap) := by simp [World.cell?, hx4]
  have HB4 : Hid (Below w.heap.size w y2) := HB3.out.trans hc4.1
  have hn63 : i64in (N : Int) := by have := HK.out.2.2; unfold i64in; omega
  have hl4 : (encL [k, l, n] ++ encT tx).length ≤ 10000041 := by have h1 := encL_len [k, l, n]; have h2 := encT_len tx; rw [List.length_append]; simp only [List.length_cons, List.length_nil] at h1; omega
  have HWN : Hid (Calls _ _ _ _ _) := wnL hI4 [(N : Int)] (by intro m hm; simp at hm; subst hm; exact hn63) (by simp) (by omega) HB4.out.size
  have HX4 : Hid (y2.heap[w.heap.size]? = some (.cells #[.int .i64 k, .int .i64 l, .int .i64 n, .string tx, .slice o N cap] 40 (0, 0))) := hx4
  clear hI4 hc4 hx4 hn63 hl4
  go_wp2_with fail
  refine HWN.out.mono ?_
  rintro e y3 ⟨rfl, hI5, hc5⟩
  have hx5 := ch_on hc5 HX4.out (by decide) (by decide)
  have d5 : y3.cell? ⟨w.heap.size, 4, none⟩ = some (.slice o N cap) := by simp [World.cell?, hx5]
  have HB5 : Hid (Below w.heap.size w y3) := HB4.out.trans hc5.1
  have he : encL [k, l, n] ++ encT tx ++ encL [(N : Int)] = headE k l n tx N := by unfold headE; simp [encL]
  rw [he] at hI5
  obtain ⟨D, hD⟩ : ∃ D, bodyE k l n tx L = D := ⟨_, rfl⟩
  have HBO : Hid (Bo w y3 b L N 0 D (headE k l n tx N)) := ⟨hI5, HB5.out, Nat.zero_le _, by rw [List.drop_zero, ← hD, ← HN.out]; rfl, by have := headE_len k l n tx N; omega⟩
  have HD : Hid (bodyE k l n tx L = D ∧ D ≠ []) := ⟨hD, by rw [← hD]; exact outsL_ne _ _ (headE_ne _ _ _ _ _)⟩
  clear hI5 hc5 hx5 he hD c0 c1 c2 d3 d4
  go_wp2_with fail
  go_loopw [29] (fun iv wr => ∃ (i : Nat) (acc : List UInt8), iv = .int .i64 (i : Int) ∧ Hid (Bo w wr b L N i D acc)) (fun iv _ => N + 1 - (intOf iv).toNat)
  case atStart => exact ⟨0, _, rfl, HBO⟩
  case round =>
    obtain ⟨i, acc, rfl, HR⟩ := hrel
    clear HBO
    have HEND : outsL (L.drop i) acc = acc → Hid (Is wr w.heap.size b D ∧ Below w.heap.size w wr) := fun h => by
      have h1 := HR.out.run
      rw [h] at h1
      exact ⟨h1 ▸ HR.out.is, HR.out.ch⟩
    by_cases hlt : i < N
    · have hiL : i < L.length := by rw [HN.out]; exact hlt
      obtain ⟨a, rfl, hcs⟩ := HC.out i hiL
      have q1 : (i : Int) < (N : Int) := by omega
      have hcw : ∀ j u, (L[i].cs)[j]? = some u → wr.cell? ((a.add (i * 5)).add j) = some u := fun j u hu => (HR.out.ch.cell (World.block_lt_of_cell? w _ (hcs j u hu))).trans (hcs j u hu)
      have hok := HK.out.2.1 L[i] (List.getElem_mem hiL)
      have hst := fun ha => outsL_step (L := L) (i := i) hiL (acc := acc) ha
      obtain ⟨x, hx⟩ : ∃ x, L[i] = x := ⟨_, rfl⟩
      rw [hx] at hcw hok hst
      have HOK : Hid (x.ok) := hok
      have HST : Hid (acc.length ≤ 10000000 → outsL (L.drop i) acc = outsL (L.drop (i + 1)) (acc ++ encO x)) := hst
      have HLT : Hid (i < N ∧ i < L.length) := ⟨hlt, hiL⟩
      obtain ⟨W6, HW6⟩ : ∃ W, Hid (wr.alloc (.cells #[.int .i64 0, .int .i64 0, .int .i64 0, .int .i64 0, .string ⟨#[]⟩] 85) = W) := ⟨_, rfl⟩
      have hb6 : Below wr.heap.size wr W6 := HW6.out ▸ below_one _ _
      have hx6 : W6.heap[wr.heap.size]? = some (.cells #[.int .i64 0, .int .i64 0, .int .i64 0, .int .i64 0, .string ⟨#[]⟩] 85 (0, 0)) := HW6.out ▸ h1_0 _ _
      obtain ⟨W7, HW7⟩ : ∃ W, Hid (W6.setRow wr.heap.size x.cs.toArray = W) := ⟨_, rfl⟩
      have hx7 : W7.heap[wr.heap.size]? = some (.cells x.cs.toArray 85 (0, 0)) := HW7.out ▸ setRow_at hx6 _
      have hb7 : Below wr.heap.size wr W7 := HW7.out ▸ ⟨hb6.os, hb6.tape, hb6.output, by have := hb6.size; simpa using this, fun k hk => (setRow_other W6 _ k _ (fun e => by omega)).trans (hb6.block k hk)⟩
      have hI7 := HR.out.is.below hb7
      have HLEN : Hid (Calls _ _ _ _ _) := blen_any hI7
      have HI7 : Hid (Is W7 w.heap.size b acc) := hI7
      have HBW7 : Hid (Below wr.heap.size wr W7) := hb7
      have HB7 : Hid (Below w.heap.size w W7) := HR.out.ch.trans (hb7.mono HR.out.ch.size)
      have HX7 : Hid (W7.heap[wr.heap.size]? = some (.cells x.cs.toArray 85 (0, 0))) := hx7
      have zo : (Tryd.prog.info? 85).map (·.size) = some x.cs.length := by show _ = some 5; kernel_rfl
      have zo2 : (Tryd.prog.info? 85).map (·.size) = some x.cs.toArray.size := by show _ = some 5; kernel_rfl
      have oo : x.cs.toArray.all (·.oneCell') = true := by simp [Ou.cs, Value.oneCell']
      have k0 : W7.cell? ⟨wr.heap.size, 0, none⟩ = some (.int .i64 x.k) := by simp [World.cell?, hx7, Ou.cs]
      have k1 : W7.cell? ⟨wr.heap.size, 1, none⟩ = some (.int .i64 x.l) := by simp [World.cell?, hx7, Ou.cs]
      have k2 : W7.cell? ⟨wr.heap.size, 2, none⟩ = some (.int .i64 x.c) := by simp [World.cell?, hx7, Ou.cs]
      have k3 : W7.cell? ⟨wr.heap.size, 3, none⟩ = some (.int .i64 x.a) := by simp [World.cell?, hx7, Ou.cs]
      clear hcs hok hst hx hlt hiL hb6 hx7 hb7 hI7
      by_cases hac : 10000000 < acc.length
      · have HE := HEND (outsL_stop (.inr hac))
        have q2 : (10000000 : Int) < (acc.length : Int) := by omega
        clear HEND k0 k1 k2 k3
        go_wp2_with (first | (rw [HW6.out]) | (rw [HW7.out]) | (refine wpList_load_at rfl 85 _ rfl _ rfl x.cs hcw _ Tryd.underlying85 rfl zo ?_) | (refine wpList_store_row rfl 85 _ _ rfl wr.heap.size x.cs.toArray rfl rfl _ _ hx6 zo2 rfl oo ?_) | fail)
        refine HLEN.out.mono ?_
        rintro e y7 ⟨rfl, rfl⟩
        go_wp2_with fail
        have HSTR : Hid (Calls _ _ _ _ _) := string_any (HE.out.1.below HBW7.out) HD.out.2
        refine HSTR.out.mono ?_
        rintro e y8 ⟨rfl, hc8⟩
        have HF : Hid (Below w.heap.size w y8) := HB7.out.trans hc8.1
        clear hc8
        go_wp2_with fail
        go_ret
        exact ⟨by rw [HD.out.1]; rfl, HF.out⟩
      · have q2 : (acc.length : Int) ≤ 10000000 := by omega
        have HAC : Hid (acc.length ≤ 10000000) := by show acc.length ≤ 10000000; omega
        have hokx := HOK.out
        have HWM : Hid (Calls _ _ _ _ _) := wnL HI7.out [x.k, x.l, x.c, x.a] (by intro m hm; simp at hm; rcases hm with rfl | rfl | rfl | rfl; exact hokx.1; exact hokx.2.1; exact hokx.2.2.1; exact hokx.2.2.2.1) (by simp) (by omega) HB7.out.size
        clear HEND hokx hac
        go_wp2_with (first | (rw [HW6.out]) | (rw [HW7.out]) | (refine wpList_load_at rfl 85 _ rfl _ rfl x.cs hcw _ Tryd.underlying85 rfl zo ?_) | (refine wpList_store_row rfl 85 _ _ rfl wr.heap.size x.cs.toArray rfl rfl _ _ hx6 zo2 rfl oo ?_) | fail)
        refine HLEN.out.mono ?_
        rintro e y7 ⟨rfl, rfl⟩
        go_wp2_with fail
        refine HWM.out.mono ?_
        rintro e y8 ⟨rfl, hI8, hc8⟩
        have hx8 := ch_on hc8 HX7.out (by decide) (by decide)
        have d4 : y8.cell? ⟨wr.heap.size, 4, none⟩ = some (.string x.b) := by simp [World.cell?, hx8, Ou.cs]
        have HB8 : Hid (Below w.heap.size w y8) := HB7.out.trans hc8.1
        have h10 := encL_len [x.k, x.l, x.c, x.a]
        have HWT8 : Hid (Calls _ _ _ _ _) := writeText_any hI8 x.b HOK.out.2.2.2.2 (by rw [List.length_append]; simp only [List.length_cons, List.length_nil] at h10; omega) HB8.out.size
        clear hI8 hc8 hx8 h10 k0 k1 k2 k3
        go_wp2_with fail
        refine HWT8.out.mono ?_
        rintro e y9 ⟨rfl, hI9, hc9⟩
        have HR9 : Hid (Bo w y9 b L N (i + 1) D (acc ++ encO x)) := by
          have h1 := encO_len x
          refine ⟨?_, HB8.out.trans hc9.1, HLT.out.1, ?_, ?_⟩
          · rw [List.append_assoc] at hI9; exact hI9
          · rw [← HST.out HAC.out]; exact HR.out.run
          · rw [List.length_append]; have := HAC.out; omega
        clear hI9 hc9
        have q3 : (i : Int) + 1 ≤ 9223372036854775807 := by have := HK.out.2.2; omega
        go_wp2_with fail
        refine ⟨⟨i + 1, _, by push_cast; rfl, HR9⟩, ?_⟩
        have := HLT.out.1
        simp only [intOf]
        omega
    · have HE := HEND (outsL_stop (.inl (by have := HR.out.le; have := HN.out; omega)))
      have q2 : (N : Int) ≤ (i : Int) := by omega
      have HSTR : Hid (Calls _ _ _ _ _) := string_any HE.out.1 HD.out.2
      clear HEND
      go_wp2_with fail
      refine HSTR.out.mono ?_
      rintro e y8 ⟨rfl, hc8⟩
      have HF : Hid (Below w.heap.size w y8) := HE.out.2.trans hc8.1
      clear hc8
      go_wp2_with fail
      go_ret
      exact ⟨by rw [HD.out.1]; rfl, HF.out⟩
end Go.Proofs.YtabmpngliphdpaaDoor.Ke
