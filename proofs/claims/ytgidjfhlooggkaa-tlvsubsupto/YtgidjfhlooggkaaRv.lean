/- The document's BuildSub. -/
import Derived.Test.YtgidjfhlooggkaaRt
import Derived.Test.YtgidjfhlooggkaaSb
import Derived.Test.YtgidjfhlooggkaaRn
namespace Go.Proofs.Ytgidjfhlooggkaa.Rv
set_option linter.unusedVariables false
set_option linter.unusedSimpArgs false
open Go.RowKit Kb Ga Gb Gc Gd Nt Gf Gg Nb Sb
theorem own_four (w : World) (a b c d : Int) (ha : 0 ≤ a ∧ a < 256) (hb : 0 ≤ b ∧ b < 256) (hc : 0 ≤ c ∧ c < 256) (hd : 0 ≤ d ∧ d < 256) : (w.alloc (.cells #[.int .u8 a, .int .u8 b, .int .u8 c, .int .u8 d] 5)).ownsRow 0 5 1 (.slice (some ⟨w.heap.size, 0, none⟩) 4 4) 4 (Lib.byteCells [b8 a, b8 b, b8 c, b8 d]) := by
  have e : Lib.byteCells [b8 a, b8 b, b8 c, b8 d] = [.int .u8 a, .int .u8 b, .int .u8 c, .int .u8 d] := by
    have e1 := b8_val a
    have e2 := b8_val b
    have e3 := b8_val c
    have e4 := b8_val d
    have f1 : ((b8 a).toNat : Int) = a := by omega
    have f2 : ((b8 b).toNat : Int) = b := by omega
    have f3 : ((b8 c).toNat : Int) = c := by omega
    have f4 : ((b8 d).toNat : Int) = d := by omega
    show [Value.int .u8 ((b8 a).toNat : Int), .int .u8 ((b8 b).toNat : Int), .int .u8 ((b8 c).toNat : Int), .int .u8 ((b8 d).toNat : Int)] = _
    rw [f1, f2, f3, f4]
  refine ⟨rfl, .inr ⟨w.heap.size, 4, #[.int .u8 a, .int .u8 b, .int .u8 c, .int .u8 d], rfl, Nat.zero_le _, heap_alloc_new w _, Nat.le_refl _, by unfold maxLen; omega, rfl, ?_⟩⟩
  rw [e]
  rfl
theorem es_bd : ∀ (ts : List AT) (i : Nat), (∀ a ∈ ts.take i, a.val.size ≤ 99) → (esS (ts.take i)).length ≤ 103 * i
  | ts, 0, _ => by simp [esS]
  | [], i + 1, _ => by simp [esS]
  | a :: ts, i + 1, h => by
    have h1 := es_bd ts i fun x hx => h x (by simp [hx])
    have h2 := h a (by simp)
    unfold esS at h1 ⊢
    simp only [List.take_succ_cons, List.flatMap_cons, List.length_append, es1, prB, List.length_cons, List.length_nil, Array.length_toList]
    have h3 : a.val.data.size = a.val.size := rfl
    omega
theorem blk3f {x : World} {g : Nat} {a b c : Value} {t : TypeId} (h : x.heap[g]? = some (.cells #[a, b, c] t)) : ∀ o, x.frozen? ⟨g, o, none⟩ = false := fun o => by simp [World.frozen?, h]
set_option maxRecDepth 100000 in
set_option maxHeartbeats 6400000 in
theorem buildSub_doc (ts : List AT) (v : Value) (w : World) (hr : Rdn w v ts) :
    Calls Try.prog 23 #[v] w fun e w' => e = .returned (.tuple #[.string (bsS ts), .int .i64 (bsE ts)]) ∧ Below w.heap.size w w' := by
  obtain ⟨RS, HRS⟩ : ∃ S, Hid (bsS ts = S) := ⟨_, rfl⟩
  obtain ⟨RE, HRE⟩ : ∃ E, Hid (bsE ts = E) := ⟨_, rfl⟩
  rw [HRS.out, HRE.out]
  have HR : Hid (Rdn w v ts) := hr
  obtain ⟨o, cap, e, hN, -⟩ := hr.row
  obtain ⟨N, HN, hN2⟩ : ∃ N : Nat, Hid (ts.length = N) ∧ N ≤ 1048576 := ⟨_, rfl, hN⟩
  rw [HN.out] at e
  subst e
  have HBAD : Hid (∀ y, wsR 0 ts = y → y ≠ 0 → RS = ⟨#[]⟩ ∧ RE = y) := fun y hy h0 => by
    have e : bsE ts = y := by unfold bsE; rw [if_neg (by rw [hy]; exact h0), hy]
    refine ⟨?_, by rw [← HRE.out]; exact e⟩
    rw [← HRS.out]; unfold bsS; rw [if_neg (by rw [e]; exact h0)]
  clear hr hN
  go_enter Try.func23, Try.ntmps23
  go_wp2
  go_loopw [4, 5] (fun vs vi wr => ∃ (i : Nat) (D : ByteArray), i ≤ N ∧ vi = .int .i64 (i : Int) ∧ vs = .string D ∧ D.size ≤ 103 * i ∧ i ≤ 500 ∧ Hid (D = ⟨(esS (ts.take i)).toArray⟩ ∧ wsR 0 ts = wsR i (ts.drop i) ∧ ∀ a ∈ ts.take i, a.val.size ≤ 99) ∧ Below w.heap.size w wr) (fun _ vi _ => N - (intOf vi).toNat)
  case atStart => exact ⟨0, ⟨#[]⟩, Nat.zero_le _, rfl, rfl, Nat.le_refl 0, by omega, ⟨by simp [esS], by simp, by simp⟩, Below.refl _ _⟩
  case round =>
    obtain ⟨i, D, hi, rfl, rfl, hD, hi5, HI, hwr⟩ := hrel
    rename World => wr
    have hsw := hwr.size
    by_cases hlt : i < N
    case neg =>
      have hlt' : ¬ (i : Int) < (N : Int) := by omega
      obtain ⟨i1, i2, i3⟩ := HI.out
      rw [List.drop_eq_nil_of_le (by rw [HN.out]; omega)] at i2
      rw [List.take_of_length_le (by rw [HN.out]; omega)] at i1
      have w0 : wsR 0 ts = 0 := by rw [i2]; simp [wsR]
      have hsz : (esS ts).length = D.size := by rw [i1]; rfl
      by_cases hbig : D.size ≤ 9999
      · have hbig' : ¬ 9999 < (D.size : Int) := by omega
        have eE : bsE ts = 0 := by unfold bsE; rw [if_pos w0, if_neg (by omega)]
        have HE : Hid (RE = 0 ∧ RS = D) := ⟨by rw [← HRE.out]; exact eE, by rw [← HRS.out]; unfold bsS; rw [if_pos eE, i1]⟩
        clear i1 i2 i3 w0 hsz eE HI
        go_wp2
        go_ret2
        exact ⟨by rw [HE.out.1, HE.out.2]; rfl, hwr⟩
      · have hbig' : 9999 < (D.size : Int) := by omega
        have eE : bsE ts = 91 := by unfold bsE; rw [if_pos w0, if_pos (by omega)]
        have HE : Hid (RE = 91 ∧ RS = ⟨#[]⟩) := ⟨by rw [← HRE.out]; exact eE, by rw [← HRS.out]; unfold bsS; rw [if_neg (by rw [eE]; omega)]⟩
        clear i1 i2 i3 w0 hsz eE HI
        go_wp2
        go_ret2
        exact ⟨by rw [HE.out.1, HE.out.2]; rfl, hwr⟩
    have hlt' : (i : Int) < (N : Int) := by omega
    have hia2 : i < ts.length := by rw [HN.out]; exact hlt
    have rd := HR.out.below hwr
    have ka := rdL_at ts i hia2 rd.kids
    have hWH := wsR_here ts i hia2
    have hWD := wsR_drop ts i hia2
    have hSN := esS_snoc ts i hia2
    have hTK : ts.take (i + 1) = ts.take i ++ [ts[i]] := List.take_succ_eq_append_getElem hia2
    obtain ⟨x, hx⟩ : ∃ y, y = ts[i] := ⟨_, rfl⟩
    obtain ⟨o', cap', e', _, hc2⟩ := rd.row
    obtain ⟨a, ea, q0, q1, q2⟩ := hc2 i hia2
    rw [HN.out] at e'
    obtain ⟨rfl, rfl⟩ : o = o' ∧ cap = cap' := by simpa using e'
    subst ea
    rw [← hx] at ka hWH hWD hSN hTK q0 q1 q2
    clear hc2 e' hx rd
    cases x with
    | mk tag val kv ks =>
    simp only [AT.tag, AT.val, AT.kv, AT.kids] at ka q0 q1 q2
    obtain ⟨lo, lc, hkv, -⟩ := ka.1.row
    obtain ⟨KL, HKL⟩ : ∃ L, Hid (ks.length = L) := ⟨_, rfl⟩
    rw [HKL.out] at hkv
    subst hkv
    have HW1 : Hid (ws1 i (AT.mk tag val (.slice lo KL lc) ks) = if 500 ≤ i then 93 else if tag < 0 ∨ 99 < tag ∨ 0 < KL then 90 else if 99 < val.size then 91 else if Go_.seen val < val.size then 11 else 0) := by
      show _ = _; rw [← HKL.out]; rfl
    have HIT : Hid (∀ y, ws1 i (AT.mk tag val (.slice lo KL lc) ks) = y → y ≠ 0 → RS = ⟨#[]⟩ ∧ RE = y) := fun y hy h0 => HBAD.out y (by rw [HI.out.2.1, hWH (by rw [hy]; exact h0), hy]) h0
    have HGO : Hid (ws1 i (AT.mk tag val (.slice lo KL lc) ks) = 0 → wsR 0 ts = wsR (i + 1) (ts.drop (i + 1))) := fun h0 => by rw [HI.out.2.1, hWD h0]
    have hvs := ka.2.1
    have htb := ka.2.2
    have HTB : Hid (tagB tag) := htb
    unfold tagB at htb
    have HSN : Hid (esS (ts.take (i + 1)) = esS (ts.take i) ++ es1 (AT.mk tag val (.slice lo KL lc) ks)) := hSN
    have HTK : Hid (ts.take (i + 1) = ts.take i ++ [AT.mk tag val (.slice lo KL lc) ks]) := hTK
    have hR := h1_0 wr (.cells Bs.zn 40)
    have hX := setRow_at hR #[.int .i64 tag, .string val, .slice lo KL lc]
    have B1 : Below wr.heap.size wr ((wr.alloc (.cells Bs.zn 40)).setRow wr.heap.size #[.int .i64 tag, .string val, .slice lo KL lc]) := below_setRow (below_one wr _) (Nat.le_refl _) _
    have HBY : Hid (Below w.heap.size w ((wr.alloc (.cells Bs.zn 40)).setRow wr.heap.size #[.int .i64 tag, .string val, .slice lo KL lc])) := keepB hwr B1
    have HX : Hid (((wr.alloc (.cells Bs.zn 40)).setRow wr.heap.size #[.int .i64 tag, .string val, .slice lo KL lc]).heap[wr.heap.size]? = some (.cells #[.int .i64 tag, .string val, .slice lo KL lc] 40)) := hX
    obtain ⟨x0, x1, x2⟩ := Bs.blk3 hX
    clear ka hWH hWD hSN hTK B1 hX hwr
    by_cases g5 : i < 500
    case neg =>
      have g5' : 500 ≤ (i : Int) := by omega
      obtain ⟨e1, e2⟩ := HIT.out 93 (by rw [HW1.out, if_pos (by omega)]) (by omega)
      have HE : Hid (RS = ⟨#[]⟩ ∧ RE = 93) := ⟨e1, e2⟩
      clear e1 e2
      go_wp2_with (refine wpList_store_row rfl 40 _ _ rfl wr.heap.size _ rfl rfl _ _ hR Bs.infoN rfl (by simp [Value.oneCell']) ?_)
      go_ret2
      exact ⟨by rw [HE.out.1, HE.out.2]; rfl, HBY.out⟩
    have g5' : ¬ 500 ≤ (i : Int) := by omega
    by_cases g6 : tag < 0 ∨ 99 < tag ∨ 0 < KL
    case pos =>
      obtain ⟨e1, e2⟩ := HIT.out 90 (by rw [HW1.out, if_neg (by omega), if_pos g6]) (by omega)
      have HE : Hid (RS = ⟨#[]⟩ ∧ RE = 90) := ⟨e1, e2⟩
      clear e1 e2
      by_cases j1 : tag < 0
      · go_wp2_with (refine wpList_store_row rfl 40 _ _ rfl wr.heap.size _ rfl rfl _ _ hR Bs.infoN rfl (by simp [Value.oneCell']) ?_)
        go_ret2
        exact ⟨by rw [HE.out.1, HE.out.2]; rfl, HBY.out⟩
      · by_cases j2 : 99 < tag
        · clear g6
          go_wp2_with (refine wpList_store_row rfl 40 _ _ rfl wr.heap.size _ rfl rfl _ _ hR Bs.infoN rfl (by simp [Value.oneCell']) ?_)
          go_ret2
          exact ⟨by rw [HE.out.1, HE.out.2]; rfl, HBY.out⟩
        · have j3 : 0 < (KL : Int) := by omega
          clear g6
          go_wp2_with (refine wpList_store_row rfl 40 _ _ rfl wr.heap.size _ rfl rfl _ _ hR Bs.infoN rfl (by simp [Value.oneCell']) ?_)
          go_ret2
          exact ⟨by rw [HE.out.1, HE.out.2]; rfl, HBY.out⟩
    have j1 : ¬ tag < 0 := by omega
    have j2 : ¬ 99 < tag := by omega
    have j3 : ¬ 0 < (KL : Int) := by omega
    by_cases g7 : 99 < val.size
    case pos =>
      obtain ⟨e1, e2⟩ := HIT.out 91 (by rw [HW1.out, if_neg (by omega), if_neg g6, if_pos g7]) (by omega)
      have HE : Hid (RS = ⟨#[]⟩ ∧ RE = 91) := ⟨e1, e2⟩
      have g7' : 99 < (val.size : Int) := by omega
      clear e1 e2 g6
      go_wp2_with (refine wpList_store_row rfl 40 _ _ rfl wr.heap.size _ rfl rfl _ _ hR Bs.infoN rfl (by simp [Value.oneCell']) ?_)
      go_ret2
      exact ⟨by rw [HE.out.1, HE.out.2]; rfl, HBY.out⟩
    have g7' : ¬ 99 < (val.size : Int) := by omega
    have HW2 : Hid (ws1 i (AT.mk tag val (.slice lo KL lc) ks) = if Go_.seen val < val.size then 11 else 0) := by show _ = _; rw [HW1.out, if_neg (by omega), if_neg g6, if_neg g7]
    clear g6
    go_wp2_with (refine wpList_store_row rfl 40 _ _ rfl wr.heap.size _ rfl rfl _ _ hR Bs.infoN rfl (by simp [Value.oneCell']) ?_)
    obtain ⟨bx, HBX⟩ : ∃ bx, Hid (wr.heap.size = bx) := ⟨_, rfl⟩
    obtain ⟨Y, HY⟩ : ∃ Y, Hid (Y = (wr.alloc (.cells Bs.zn 40)).setRow wr.heap.size #[.int .i64 tag, .string val, .slice lo KL lc]) := ⟨_, rfl⟩
    rw [← HY.out] at HX HBY x0 x1 x2 ⊢
    rw [HBX.out] at HX x0 x1 x2 ⊢
    clear hR HY q0 q1 q2 HBX hsw
    have HBE : Hid (Go_.seen val < val.size → RS = ⟨#[]⟩ ∧ RE = 11) := fun h => HIT.out 11 (by rw [HW2.out, if_pos h]) (by omega)
    have HOK : Hid (Go_.seen val = val.size → wsR 0 ts = wsR (i + 1) (ts.drop (i + 1))) := fun h => HGO.out (by rw [HW2.out, if_neg (by omega)])
    clear HIT HGO HW1 HW2
    go_loopw [7] (fun vk wx => ∃ (k : Nat), k ≤ val.size ∧ vk = .int .i64 (k : Int) ∧ Hid (wx = Y ∧ (val.data.toList.take k).all Go_.vis = true)) (fun vk _ => val.size + 1 - (intOf vk).toNat)
    case atStart => exact ⟨0, Nat.zero_le _, rfl, rfl, by simp⟩
    case round =>
      obtain ⟨k, hk, rfl, HJ⟩ := hrel
      rename World => wx
      have HV : Hid ((val.data.toList.take k).all Go_.vis = true) := HJ.out.2
      have hwx := HJ.out.1
      clear HJ
      rw [hwx]
      clear hwx wx
      by_cases hkn : k < val.size
      · have hkn' : (k : Int) < (val.size : Int) := by omega
        obtain ⟨C, HC⟩ : ∃ C : Int, Hid (C = ((val[k]'hkn).toNat : Int)) := ⟨_, rfl⟩
        have bxx : ((val[k]'hkn).toNat : Int) = C := HC.out.symm
        by_cases h1 : C < 32
        · have HE : Hid (RS = ⟨#[]⟩ ∧ RE = 11) := by
            have hc := HC.out
            have e : Go_.seen val = k := Lib0.fuL_hit Go_.vis _ k (by simpa using hkn) HV.out (by
              show Go_.vis val[k] = false
              unfold Go_.vis; simp; omega)
            exact HBE.out (by omega)
          go_wp2
          go_ret2
          exact ⟨by rw [HE.out.1, HE.out.2]; rfl, HBY.out⟩
        · by_cases h2 : C ≤ 126
          · have h1' : ¬ C < 32 := h1
            have h2' : ¬ 126 < C := by omega
            have HV2 : Hid ((val.data.toList.take (k + 1)).all Go_.vis = true) := by
              have hc := HC.out
              exact Go_.take_snoc_all val k hkn HV.out (by unfold Go_.vis; simp; omega)
            clear h1 h2
            go_wp2
            exact ⟨⟨k + 1, by omega, by go_num, by first | rfl | trivial, HV2.out⟩, by simp [intOf]; omega⟩
          · have h1' : ¬ C < 32 := h1
            have h2' : 126 < C := by omega
            have HE : Hid (RS = ⟨#[]⟩ ∧ RE = 11) := by
              have hc := HC.out
              have e : Go_.seen val = k := Lib0.fuL_hit Go_.vis _ k (by simpa using hkn) HV.out (by
                show Go_.vis val[k] = false
                unfold Go_.vis; simp; omega)
              exact HBE.out (by omega)
            clear h1 h2
            go_wp2
            go_ret2
            exact ⟨by rw [HE.out.1, HE.out.2]; rfl, HBY.out⟩
      · have hkn' : ¬ (k : Int) < (val.size : Int) := by omega
        have HSE : Hid (Go_.seen val = val.size) := by
          have := HV.out
          rw [Lib0.take_all val k (by omega)] at this
          have e := Lib0.fuL_all Go_.vis _ this
          show Go_.seen val = val.size
          unfold Go_.seen; rw [e]; simp
        obtain ⟨n, Hn, hn99⟩ : ∃ n : Nat, Hid (val.size = n) ∧ n ≤ 99 := ⟨_, rfl, by omega⟩
        have p0 : 0 ≤ tag := by omega
        have ta1 : 0 ≤ 48 + tag / 10 ∧ 48 + tag / 10 < 256 := by omega
        have ta2 : 0 ≤ 48 + tag % 10 ∧ 48 + tag % 10 < 256 := by omega
        have ta3 : 0 ≤ 48 + (val.size : Int) / 10 ∧ 48 + (val.size : Int) / 10 < 256 := by omega
        have ta4 : 0 ≤ 48 + (val.size : Int) % 10 ∧ 48 + (val.size : Int) % 10 < 256 := by omega
        have OB := own_four Y (48 + tag / 10) (48 + tag % 10) (48 + (val.size : Int) / 10) (48 + (val.size : Int) % 10) ta1 ta2 ta3 ta4
        have hcv : (convert 81 9 (.slice (some ⟨Y.heap.size, 0, none⟩) 4 4)).run Try.prog (Y.alloc (.cells #[.int .u8 (48 + tag / 10), .int .u8 (48 + tag % 10), .int .u8 (48 + (val.size : Int) / 10), .int .u8 (48 + (val.size : Int) % 10)] 5)) = .ok (.string ⟨[b8 (48 + tag / 10), b8 (48 + tag % 10), b8 (48 + (val.size : Int) / 10), b8 (48 + (val.size : Int) % 10)].toArray⟩) (Y.alloc (.cells #[.int .u8 (48 + tag / 10), .int .u8 (48 + tag % 10), .int .u8 (48 + (val.size : Int) / 10), .int .u8 (48 + (val.size : Int) % 10)] 5)) :=
          Lib0.run_str Try.underlying81 Try.underlying5 Try.underlying9 OB
        have b1 := below_one Y (.cells #[.int .u8 (48 + tag / 10), .int .u8 (48 + tag % 10), .int .u8 (48 + (val.size : Int) / 10), .int .u8 (48 + (val.size : Int) % 10)] 5)
        have HBZ : Hid (Below w.heap.size w (Y.alloc (.cells #[.int .u8 (48 + tag / 10), .int .u8 (48 + tag % 10), .int .u8 (48 + (val.size : Int) / 10), .int .u8 (48 + (val.size : Int) % 10)] 5))) := keepB HBY.out b1
        have z1 := (b1.cell (World.block_lt_of_cell? Y _ x1)).trans x1
        obtain ⟨S4, HS4⟩ : ∃ S4 : ByteArray, Hid ((⟨[b8 (48 + tag / 10), b8 (48 + tag % 10), b8 (48 + (val.size : Int) / 10), b8 (48 + (val.size : Int) % 10)].toArray⟩ : ByteArray) = S4) := ⟨_, rfl⟩
        have hs4 : S4.size = 4 := by rw [← HS4.out]; rfl
        rw [HS4.out] at hcv
        have HNX : Hid (D ++ S4 ++ val = ⟨(esS (ts.take (i + 1))).toArray⟩ ∧ wsR 0 ts = wsR (i + 1) (ts.drop (i + 1)) ∧ ∀ a ∈ ts.take (i + 1), a.val.size ≤ 99) := by
          refine ⟨?_, HOK.out HSE.out, fun x hx => ?_⟩
          · rw [HSN.out, HI.out.1, ← HS4.out]
            apply ByteArray.ext
            simp [es1, prB, AT.tag, AT.val]
          · rw [HTK.out] at hx
            rcases List.mem_append.1 hx with hx | hx
            · exact HI.out.2.2 x hx
            · obtain rfl := List.mem_singleton.1 hx
              simp only [AT.val]; omega
        clear OB b1 HI HBE HOK HSN HTK HX
        go_wp2
        exact ⟨⟨i + 1, D ++ S4 ++ val, by omega, by go_num, rfl, by rw [ByteArray.size_append, ByteArray.size_append]; omega, by omega, HNX.out, HBZ.out⟩, by simp [intOf]; omega⟩
end Go.Proofs.Ytgidjfhlooggkaa.Rv
