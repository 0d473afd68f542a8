import Derived.Test.YtciblmdpngnakaaQv27
import Derived.Test.YtciblmdpngnakaaQv14
/- PINs: the document's rows of halves. -/
namespace Go.Proofs.Ytciblmdpngnakaa.Rh
set_option linter.unusedVariables false
set_option linter.unusedSimpArgs false
open Go.RowKit Lib0 Six Pp Cb Ra
open Pf (ret_bool all_no)
open Pg (emB em_eq ba_ext)
open Sm (range_keep)
open Rb (nv nv_len nv_get nv_snoc nv_take range_cell own_range New infoI)
def afc (f : Int) (s : ByteArray) : Bool := s.data.toList.all (fc f)
set_option maxRecDepth 100000 in
theorem filled_zero (s : ByteArray) (n : Int) (w : World) :
    Calls Try.prog 35 #[.int .i64 0, .string s, .int .i64 n] w fun e w' => e = .returned (.bool (emB s)) ∧ w' = w := by
  have E := em_eq s
  go_enter Try.func35, Try.ntmps35
  go_wp2
  go_ret
  exact ⟨rfl, rfl⟩
set_option maxRecDepth 100000 in
set_option maxHeartbeats 800000 in
theorem filled_more (f : Int) (s : ByteArray) (n : Int) (h0 : (f == 0) = false) (w : World) (hs : s.size ≤ maxLen) :
    Calls Try.prog 35 #[.int .i64 f, .string s, .int .i64 n] w fun e w' => e = .returned (.bool (decide ((s.size : Int) = n) && afc f s)) ∧ w' = w := by
  unfold maxLen at hs
  have f0 : f ≠ 0 := by simpa using h0
  go_enter Try.func35, Try.ntmps35
  go_wp2
  go_loop [7, 8] (fun i v => ∃ k : Nat, k ≤ s.size ∧ i = .int .i64 k ∧ (s.data.toList.take k).all (fc f) = true) (fun i _ => s.size - (intOf i).toNat)
  case atStart => exact ⟨0, Nat.zero_le _, rfl, rfl⟩
  case round =>
    obtain ⟨k, hk, rfl, hal⟩ := hrel
    have Hal : Hid ((s.data.toList.take k).all (fc f) = true) := hal
    clear hal
    by_cases hlt : k < s.size
    · have hb := six_bd s[k]
      have W := fun u => sixr_any s[k] u
      by_cases h1 : six s[k] < 0
      · have hp : fc f s[k] = false := by unfold fc isSix; rw [show decide (0 ≤ six s[k]) = false by simp; omega]; rfl
        go_wp2_with fail
        refine (W _).mono ?_
        rintro e u ⟨rfl, rfl⟩
        go_wp2
        go_ret
        exact ⟨ret_bool (by rw [show afc f s = false from all_no (fc f) s k hlt hp, Bool.and_false]), rfl⟩
      · have h1' : (0 : Int) ≤ six s[k] := by omega
        have i1 : isSix s[k] = true := by unfold isSix; simp; omega
        by_cases h3 : (f == 3) = true
        · have f3 : f = 3 := by simpa using h3
          have fl : flr f = 10 := by rw [f3]; rfl
          by_cases h2 : six s[k] < 10
          · have hp : fc f s[k] = false := by unfold fc; rw [fl, show decide (10 ≤ (six s[k]).toNat) = false by simp; omega, Bool.and_false]
            go_wp2_with fail
            refine (W _).mono ?_
            rintro e u ⟨rfl, rfl⟩
            go_wp2
            go_ret
            exact ⟨ret_bool (by rw [show afc f s = false from all_no (fc f) s k hlt hp, Bool.and_false]), rfl⟩
          · have hp : fc f s[k] = true := by unfold fc; rw [fl, i1, show decide (10 ≤ (six s[k]).toNat) = true by simp; omega]; rfl
            have h2' : (10 : Int) ≤ six s[k] := by omega
            clear f3 fl
            go_wp2_with fail
            refine (W _).mono ?_
            rintro e u ⟨rfl, rfl⟩
            go_wp2
            go_round
            case rel => exact ⟨k + 1, by omega, by go_num, all_snoc (fc f) s k hlt Hal.out hp⟩
            case measure => simp [intOf]; omega
        · have h3' : (f == 3) = false := by simpa using h3
          have f3 : f ≠ 3 := by simpa using h3
          have fl : flr f = 0 := by unfold flr; rw [if_neg f0, if_neg f3]
          have hp : fc f s[k] = true := by unfold fc; rw [fl, i1]; simp
          clear f3 fl
          go_wp2_with fail
          refine (W _).mono ?_
          rintro e u ⟨rfl, rfl⟩
          go_wp2
          go_round
          case rel => exact ⟨k + 1, by omega, by go_num, all_snoc (fc f) s k hlt Hal.out hp⟩
          case measure => simp [intOf]; omega
    · have HA : Hid (afc f s = true) := by have := Hal.out; rw [take_all s k (by omega)] at this; exact this
      by_cases g1 : ((s.size : Int) == n) = true
      · go_wp2
        go_ret
        exact ⟨ret_bool (by rw [HA.out, show decide ((s.size : Int) = n) = true by simpa using g1]; rfl), rfl⟩
      · have g1' : ((s.size : Int) == n) = false := by simpa using g1
        go_wp2
        go_ret
        exact ⟨ret_bool (by rw [show decide ((s.size : Int) = n) = false by simpa using g1]; rfl), rfl⟩
theorem filled_ref (f : Int) (s : ByteArray) (n : Int) (w : World) (hs : s.size ≤ maxLen) :
    Calls Try.prog 35 #[.int .i64 f, .string s, .int .i64 n] w fun e w' => e = .returned (.bool (fillB f s n)) ∧ w' = w := by
  by_cases h0 : f = 0
  · have e : fillB f s n = emB s := by unfold fillB emB; rw [if_pos h0]
    rw [e, h0]
    exact filled_zero s n w
  · have e : fillB f s n = (decide ((s.size : Int) = n) && s.data.toList.all (fc f)) := by unfold fillB; rw [if_neg h0]
    rw [e]
    exact filled_more f s n (by simpa using h0) w hs
theorem nv_append (a b : List Nat) : nv (a ++ b) = nv a ++ nv b := by simp [nv]
set_option maxRecDepth 100000 in
set_option maxHeartbeats 1600000 in
theorem halves_ref (s : ByteArray) (n : Nat) (hn : Hid (2 * s.size = n)) (h0 : 0 < s.size) (h1 : s.size ≤ 100) (w : World) :
    Calls Try.prog 41 #[.string s] w (New w (nb s.data.toList) n) := by
  obtain ⟨i0, hi, hz0, hz1, hz2⟩ := info_parts infoI
  go_enter Try.func41, Try.ntmps41
  go_wp2
  go_loopw [3, 4] (fun v c wr => ∃ k : Nat, k ≤ s.size ∧ c = .int .i64 (k : Int) ∧ wr.ownsRow w.heap.size 3 1 v (2 * k) (nv (nb (s.data.toList.take k))) ∧ Below w.heap.size w wr) (fun _ c _ => s.size + 1 - (intOf c).toNat)
  case atStart => exact ⟨0, Nat.zero_le _, rfl, World.ownsRow_nil _ _ _ _, Below.refl _ _⟩
  case round =>
    obtain ⟨k, hk, rfl, hown, hbw⟩ := hrel
    have hbs := hbw.size
    by_cases hlt : k < s.size
    · have q0 : (0 : Int) ≤ (k : Int) := by omega
      have q1 : (k : Int) < (s.size : Int) := by omega
      have h3 : (s[k].toNat : Int) < 256 := Lib0.toNat_lt _
      obtain ⟨a, Ha⟩ : ∃ a : Nat, Hid (s[k].toNat / 16 = a) := ⟨s[k].toNat / 16, rfl⟩
      obtain ⟨b, Hb⟩ : ∃ b : Nat, Hid (s[k].toNat % 16 = b) := ⟨s[k].toNat % 16, rfl⟩
      have e1 : Int.tdiv (s[k].toNat : Int) 16 = (a : Int) := by rw [Int.tdiv_eq_ediv_of_nonneg (by omega), ← Ha.out]; omega
      have e2 : Int.tmod (s[k].toNat : Int) 16 = (b : Int) := by rw [Int.tmod_eq_emod_of_nonneg (by omega), ← Hb.out]; omega
      have wa : IntKind.i64.wrap (a : Int) = (a : Int) := by have := Ha.out; rw [IntKind.wrap_i64]; omega
      have ws : IntKind.i64.wrap (s[k].toNat : Int) = (s[k].toNat : Int) := by rw [IntKind.wrap_i64]; omega
      have HN : Hid (nv (nb (s.data.toList.take (k + 1))) = nv (nb (s.data.toList.take k)) ++ [.int .i64 (a : Int), .int .i64 (b : Int)]) := (by
        rw [take_snoc s k hlt, nb_snoc, nv_append, Ha.out, Hb.out]; rfl : nv (nb (s.data.toList.take (k + 1))) = nv (nb (s.data.toList.take k)) ++ [.int .i64 (a : Int), .int .i64 (b : Int)])
      go_wp2_with fail
      go_region_held3 (fun _ => True) (trivial)
        ((refine step_append_lies _ (by rfl) _ _ _ (by rfl) w.heap.size 3 i0 _ 1 8 Try.underlying58 hi hz0 hz1 hz2 rfl (by omega) u3 (2 * k) _ (by rfl) ((hown.alloc _).drew) ⟨wr.heap.size, 0, none⟩ 2 2 _ (by rfl) (by rfl) (World.news_of_block (heap_alloc_new wr _)) (by simp [Value.oneCell']) (by omega) (by unfold maxLen; omega) (by omega) (by simp; omega) (wr.heap.size + 1) (by simp) ?_; intro gg cap w1 hown1 hgrow hat hlt1))
      all_goals
        go_wp2
        go_roundw
        case rel => exact ⟨k + 1, by omega, by go_num, owns_len hown1 rfl (by omega) (by simp only [ws, e1, e2, wa]; exact HN.out.symm), below_app hbw hbs hown hgrow⟩
        case measure => simp [intOf]; omega
    · obtain rfl : k = s.size := by omega
      rw [take_all s s.size (Nat.le_refl _), hn.out] at hown
      obtain ⟨g, cap, rfl, hB, hg, hcap, hr⟩ := own_range hown (by have := hn.out; omega)
      go_wp2
      go_ret
      exact ⟨g, cap, rfl, hB, hg, hcap, hr, hbw⟩
theorem pk_take (L : List Nat) (j : Nat) (h : 2 * j + 1 < L.length) : pk (L.take (2 * j + 2)) = pk (L.take (2 * j)) ++ [UInt8.ofNat (16 * L[2 * j] + L[2 * j + 1])] := by
  have e : L.take (2 * j + 2) = L.take (2 * j) ++ [L[2 * j], L[2 * j + 1]] := by
    rw [show 2 * j + 2 = (2 * j + 1) + 1 by omega, List.take_succ_eq_append_getElem h, List.take_succ_eq_append_getElem (show 2 * j < L.length by omega), List.append_assoc]
    rfl
  rw [e, pk_two _ _ _ (by rw [List.length_take]; omega)]
set_option maxRecDepth 100000 in
set_option maxHeartbeats 1600000 in
theorem bytes_ref (L : List Nat) (g n N cap : Nat) (hn : Hid (L.length = n)) (hN : Hid (n = 2 * N)) (h100 : n ≤ 100) (hl : Hid (∀ m ∈ L, m < 16)) (w : World) (hg : g < w.heap.size) (hr : w.rangeAt g 0 (nv L)) :
    Calls Try.prog 37 #[.slice (some ⟨g, 0, none⟩) n cap] w fun e w' => e = .returned (.string ⟨(pk L).toArray⟩) ∧ Below w.heap.size w w' := by
  obtain ⟨i0, hi, hz0, hz1, hz2⟩ := info_parts Pg.info
  go_enter Try.func37, Try.ntmps37
  go_wp2
  go_loopw [3, 4] (fun v c wr => ∃ j k : Nat, j ≤ N ∧ k = 2 * j ∧ c = .int .i64 (k : Int) ∧ wr.ownsRow w.heap.size 5 1 v j (bs (pk (L.take k))) ∧ Below w.heap.size w wr) (fun _ c _ => n + 2 - (intOf c).toNat)
  case atStart => exact ⟨0, 0, Nat.zero_le _, rfl, rfl, World.ownsRow_nil _ _ _ _, Below.refl _ _⟩
  case round =>
    obtain ⟨j, k, hj, hkj, rfl, hown, hbw⟩ := hrel
    have Hkj : Hid (k = 2 * j) := hkj
    have hbs := hbw.size
    have eN := hN.out
    have en := hn.out
    have ek : IntKind.i64.wrap ((k : Int) + 1) = (k : Int) + 1 := by rw [IntKind.wrap_i64]; omega
    by_cases hlt : j < N
    · have hk1 : k < L.length := by omega
      obtain ⟨l, Hl⟩ : ∃ l : Nat, Hid (k + 1 = l) := ⟨_, rfl⟩
      have el := Hl.out
      have hl1 : l < L.length := by omega
      have q0 : (0 : Int) ≤ (k : Int) := by omega
      have q1 : (k : Int) + 1 < (n : Int) := by omega
      have q2 : (k : Int) < (n : Int) := by omega
      have q3 : (l : Int) < (n : Int) := by omega
      have q4 : (0 : Int) ≤ (l : Int) := by omega
      have e1 : IntKind.i64.wrap ((k : Int) + 1) = (l : Int) := by rw [IntKind.wrap_i64]; omega
      have c1 : ∀ y, Below w.heap.size w y → y.cell? ⟨g, k, none⟩ = some (.int .i64 ((L[k] : Nat) : Int)) := fun y hy => by
        have := range_cell (range_keep hy hg hr) k hk1
        rwa [Nat.zero_add] at this
      have c2 : ∀ y, Below w.heap.size w y → y.cell? ⟨g, l, none⟩ = some (.int .i64 ((L[l] : Nat) : Int)) := fun y hy => by
        have := range_cell (range_keep hy hg hr) l hl1
        rwa [Nat.zero_add] at this
      have la := hl.out L[k] (List.getElem_mem hk1)
      have lb := hl.out L[l] (List.getElem_mem hl1)
      have HN : Hid (bs (pk (L.take (k + 2))) = bs (pk (L.take k)) ++ [.int .u8 ((16 * L[k] + L[l] : Nat) : Int)]) := (by
        have := pk_take L j (by omega)
        subst hkj
        subst el
        rw [this, bs_append]
        congr 1
        simp only [bs, List.map_cons, List.map_nil, UInt8.toNat_ofNat']
        rw [Nat.mod_eq_of_lt (by omega)] : bs (pk (L.take (k + 2))) = bs (pk (L.take k)) ++ [.int .u8 ((16 * L[k] + L[l] : Nat) : Int)])
      generalize L[k] = a at *
      generalize L[l] = b at *
      obtain ⟨V, HV⟩ : ∃ V : Nat, Hid (16 * a + b = V) := ⟨_, rfl⟩
      have eV := HV.out
      rw [eV] at HN
      have r1 : IntKind.i64.wrap (16 * (a : Int)) = 16 * (a : Int) := by rw [IntKind.wrap_i64]; omega
      have r2 : IntKind.i64.wrap (16 * (a : Int) + (b : Int)) = (V : Int) := by rw [IntKind.wrap_i64]; omega
      have r3 : IntKind.u8.wrap (V : Int) = (V : Int) := by rw [wrap_u8 _ (by omega) (by omega)]
      have KA : Hid (∀ y, Below w.heap.size w y → y.cell? ⟨g, k, none⟩ = some (.int .i64 (a : Int))) := c1
      have KB : Hid (∀ y, Below w.heap.size w y → y.cell? ⟨g, l, none⟩ = some (.int .i64 (b : Int))) := c2
      have d1 := c1 wr hbw
      have d2 := c2 wr hbw
      have j100 : j ≤ 100 := by omega
      clear c1 c2 hr hl el eV eN en hk1 hl1 hkj ek
      go_wp2_with fail
      go_region_held3 (fun w' => w'.cell? ⟨g, k, none⟩ = some (.int .i64 (a : Int)) ∧ w'.cell? ⟨g, l, none⟩ = some (.int .i64 (b : Int))) (first | (refine ⟨?_, ?_⟩ <;> assumption) | go_keep)
        ((refine step_append_lies _ (by rfl) _ _ _ (by rfl) w.heap.size 5 i0 _ 1 1 Try.underlying65 hi hz0 hz1 hz2 rfl (by omega) u3 j _ (by rfl) ((hown.alloc _).drew) ⟨wr.heap.size, 0, none⟩ 1 1 _ (by rfl) (by rfl) (World.news_of_block (heap_alloc_new wr _)) (by simp [Value.oneCell']) (by omega) (by unfold maxLen; omega) (by omega) (by simp; omega) (wr.heap.size + 1) (by simp) ?_; intro gg cap w1 hown1 hgrow hat hlt1; have bw1 := below_app hbw hbs hown hgrow; have d1 := KA.out w1 bw1; have d2 := KB.out w1 bw1))
      all_goals
        go_wp2
        go_roundw
        case rel => exact ⟨j + 1, k + 2, by omega, by have := Hkj.out; omega, by go_num, owns_len hown1 rfl (by omega) HN.out.symm, below_app hbw hbs hown hgrow⟩
        case measure => simp [intOf]; omega
    · obtain rfl : j = N := by omega
      rw [List.take_of_length_le (by omega)] at hown
      have hcv := run_str (P := Try.prog) (src := 65) (dst := 9) Try.underlying65 Try.underlying5 Try.underlying9 hown
      have q1 : ¬ (k : Int) + 1 < (n : Int) := by omega
      clear eN en hn hN hr hl hkj
      go_wp2
      go_ret
      exact ⟨rfl, hbw⟩
theorem bes_take (q : ByteArray) (hq : panB q = true) (j : Nat) (h : j < 12) : (bes q).take (4 + (j + 1)) = (bes q).take (4 + j) ++ [(q.data.toList.getD (q.size - 13 + j) 0).toNat - 48] := by
  have hp := (panB_iff q).1 hq
  have hl := bes_len q hq
  rw [show 4 + (j + 1) = (4 + j) + 1 by omega, List.take_succ_eq_append_getElem (by omega)]
  congr 2
  unfold bes
  rw [List.getElem_append_right (by simp)]
  simp only [dvL, List.getElem_map, List.getElem_take, List.getElem_drop, List.length_cons, List.length_nil]
  rw [List.getD_eq_getElem?_getD, List.getElem?_eq_getElem (by rw [sz]; omega)]
  simp
theorem own_new (w : World) (e : TypeId) (cs : Array Value) (n : Nat) (h : cs.size = n) (hm : n ≤ maxLen) : (w.alloc (.cells cs e)).ownsRow w.heap.size e 1 (.slice (some ⟨w.heap.size, 0, none⟩) n n) n cs.toList :=
  ⟨by simp [h], Or.inr ⟨w.heap.size, n, cs, rfl, Nat.le_refl _, h1_0 w _, Nat.le_refl _, hm, by rw [h, Nat.mul_one], List.take_of_length_le (by simp [h])⟩⟩
set_option maxRecDepth 100000 in
set_option maxHeartbeats 1600000 in
theorem beside_ref (q : ByteArray) (hq : Hid (panB q = true)) (w : World) :
    Calls Try.prog 62 #[.string q] w (New w (bes q) 16) := by
  obtain ⟨i0, hi, hz0, hz1, hz2⟩ := info_parts infoI
  have hp := (panB_iff q).1 hq.out
  obtain ⟨p, Hp⟩ : ∃ p : Nat, Hid (q.size - 13 = p) := ⟨_, rfl⟩
  have ep := Hp.out
  have AQ : Hid (∀ c ∈ q.data.toList, 48 ≤ c.toNat ∧ c.toNat ≤ 57) := (fun c hc => (dg_iff c).1 (List.all_eq_true.1 hp.2.2 c hc) : ∀ c ∈ q.data.toList, 48 ≤ c.toNat ∧ c.toNat ≤ 57)
  have s1 : IntKind.i64.wrap ((q.size : Int) - 13) = (p : Int) := by rw [IntKind.wrap_i64]; omega
  have s2 : IntKind.i64.wrap ((q.size : Int) - 1) = (q.size : Int) - 1 := by rw [IntKind.wrap_i64]; omega
  have s3 : (q.size : Int) - 13 = (p : Int) := by omega
  have z1 : (13 : Int) ≤ (q.size : Int) := by omega
  have z2 : (q.size : Int) ≤ 19 := by omega
  go_enter Try.func62, Try.ntmps62
  go_wp2
  go_loopw [3, 4] (fun v c wr => ∃ j k : Nat, j ≤ 12 ∧ k = p + j ∧ c = .int .i64 (k : Int) ∧ wr.ownsRow w.heap.size 3 1 v (4 + j) (nv ((bes q).take (4 + j))) ∧ Below w.heap.size w wr) (fun _ c _ => 100 - (intOf c).toNat)
  case atStart =>
    refine ⟨0, p, by omega, rfl, rfl, ?_, below_one w _⟩
    exact own_new w 3 #[.int .i64 0, .int .i64 0, .int .i64 0, .int .i64 0] 4 rfl (by decide)
  case round =>
    obtain ⟨j, k, hj, hkj, rfl, hown, hbw⟩ := hrel
    have Hkj : Hid (k = p + j) := hkj
    have hbs := hbw.size
    by_cases hlt : j < 12
    · have hkq : k < q.size := by omega
      have q0 : (0 : Int) ≤ (k : Int) := by omega
      have q1 : (k : Int) < (q.size : Int) - 1 := by omega
      have q2 : (k : Int) < (q.size : Int) := by omega
      have hd := AQ.out q[k] (List.getElem_mem (show k < q.data.toList.length from hkq))
      have HN : Hid (nv ((bes q).take (4 + (j + 1))) = nv ((bes q).take (4 + j)) ++ [.int .i64 ((q[k].toNat - 48 : Nat) : Int)]) := (by
        rw [bes_take q hq.out j hlt, nv_snoc, show q.size - 13 + j = k by omega, ← Ph.gb_eq q k hkq] : nv ((bes q).take (4 + (j + 1))) = nv ((bes q).take (4 + j)) ++ [.int .i64 ((q[k].toNat - 48 : Nat) : Int)])
      obtain ⟨d, Hd⟩ : ∃ d : Nat, Hid (q[k].toNat - 48 = d) := ⟨q[k].toNat - 48, rfl⟩
      rw [Hd.out] at HN
      have r1 : IntKind.i64.wrap (q[k].toNat : Int) = (q[k].toNat : Int) := by rw [IntKind.wrap_i64]; omega
      have r2 : IntKind.i64.wrap ((q[k].toNat : Int) - 48) = (d : Int) := by have := Hd.out; rw [IntKind.wrap_i64]; omega
      have r3 : (q[k].toNat : Int) - 48 = (d : Int) := by have := Hd.out; omega
      have r4 : ((q[k].toNat : Nat) : Int) < 256 := Lib0.toNat_lt _
      clear hkj ep hp AQ hq hd
      go_wp2_with (at_builtin; refine wpList_append_lies _ rfl _ _ _ rfl w.heap.size 3 i0 _ 1 8 Try.underlying58 hi hz0 hz1 hz2 rfl (by omega) _ (4 + j) _ rfl (hown.alloc _) ⟨wr.heap.size, 0, none⟩ 1 1 _ rfl (by rfl) (World.news_of_block (heap_alloc_new wr _)) (by simp [Value.oneCell']) (by omega) (by unfold maxLen; omega) (by omega) (by first | omega | (simp <;> omega)) (wr.heap.size + 1) (by simp) ?_; intro gg cap w1 hown1 hgrow hat hlt1)
      exact ⟨⟨j + 1, k + 1, by omega, by have := Hkj.out; omega, by simp, owns_len hown1 rfl rfl HN.out.symm, below_app0 hbw hbs hown hgrow⟩, by simp only [intOf]; omega⟩
    · obtain rfl : j = 12 := by omega
      have q1 : ¬ (k : Int) < (q.size : Int) - 1 := by omega
      rw [List.take_of_length_le (by rw [bes_len q hq.out]; decide)] at hown
      obtain ⟨g, cap, rfl, hB, hg, hcap, hr⟩ := own_range hown (by decide)
      clear hkj ep hp AQ hq
      go_wp2
      go_ret
      exact ⟨g, cap, rfl, hB, hg, hcap, hr, hbw⟩
def MixP (w : World) (L : List Nat) : Ending → World → Prop := fun e w' => ∃ g cap, e = .returned (.slice (some ⟨g, 0, none⟩) 16 cap) ∧ g < w'.heap.size ∧ w'.rangeAt g 0 (nv L) ∧ Below w.heap.size w w'
theorem mixed_one (f : Int) (hf : (f == 1) = true) (L : List Nat) (g cap : Nat) (q : ByteArray) (w : World) (hg : g < w.heap.size) (hr : w.rangeAt g 0 (nv L)) :
    Calls Try.prog 38 #[.int .i64 f, .slice (some ⟨g, 0, none⟩) 16 cap, .string q] w (MixP w L) := by
  go_enter Try.func38, Try.ntmps38
  go_wp2
  go_ret
  exact ⟨g, cap, rfl, hg, hr, Below.refl _ _⟩
theorem zx_get (A B : List Nat) (k : Nat) (ha : k < A.length) (hb : k < B.length) : (zx A B).take (k + 1) = (zx A B).take k ++ [A[k] ^^^ B[k]] := by
  rw [List.take_succ_eq_append_getElem (by simp [zx]; omega)]
  simp [zx]
theorem xor16i (a b : Nat) (ha : a < 16) (hb : b < 16) : bits .xor .i64 (a : Int) (b : Int) = ((a ^^^ b : Nat) : Int) := by
  have : ∀ x y : Fin 16, bits .xor .i64 (x.val : Int) (y.val : Int) = ((x.val ^^^ y.val : Nat) : Int) := by decide +kernel
  exact this ⟨a, ha⟩ ⟨b, hb⟩
set_option maxRecDepth 100000 in
set_option maxHeartbeats 1600000 in
theorem mixed_more (f : Int) (hf : (f == 1) = false) (L : List Nat) (g cap : Nat) (q : ByteArray) (hq : Hid (panB q = true)) (hL : Hid (L.length = 16)) (hl : Hid (∀ m ∈ L, m < 16)) (w : World) (hg : g < w.heap.size) (hr : w.rangeAt g 0 (nv L)) :
    Calls Try.prog 38 #[.int .i64 f, .slice (some ⟨g, 0, none⟩) 16 cap, .string q] w (MixP w (zx L (bes q))) := by
  obtain ⟨i0, hi, hz0, hz1, hz2⟩ := info_parts infoI
  have BE := fun u => beside_ref q hq u
  have bl : Hid ((bes q).length = 16) := bes_len q hq.out
  have bt : Hid (∀ m ∈ bes q, m < 16) := bes_lt q hq.out
  generalize bes q = B at *
  go_enter Try.func38, Try.ntmps38
  go_wp2_with fail
  refine (BE _).mono ?_
  rintro e y ⟨gb, cb, rfl, hB, hgb, hcb, hrb, hy⟩
  have hgy : g < y.heap.size := Nat.lt_of_lt_of_le hg hy.size
  have hry := range_keep hy hg hr
  go_wp2
  go_loopw [8, 9] (fun v c wr => ∃ k : Nat, k ≤ 16 ∧ c = .int .i64 (k : Int) ∧ wr.ownsRow y.heap.size 3 1 v k (nv ((zx L B).take k)) ∧ Below y.heap.size y wr) (fun _ c _ => 17 - (intOf c).toNat)
  case atStart => exact ⟨0, Nat.zero_le _, rfl, World.ownsRow_nil _ _ _ _, Below.refl _ _⟩
  case round =>
    obtain ⟨k, hk, rfl, hown, hbw⟩ := hrel
    have hbs := hbw.size
    by_cases hlt : k < 16
    · have hka : k < L.length := by rw [hL.out]; exact hlt
      have hkb : k < B.length := by rw [bl.out]; exact hlt
      have q0 : (0 : Int) ≤ (k : Int) := by omega
      have q1 : (k : Int) < 16 := by omega
      have c1 : ∀ z, Below y.heap.size y z → z.cell? ⟨g, k, none⟩ = some (.int .i64 ((L[k] : Nat) : Int)) := fun z hz => by
        have := range_cell (range_keep hz hgy hry) k hka
        rwa [Nat.zero_add] at this
      have c2 : ∀ z, Below y.heap.size y z → z.cell? ⟨gb, k, none⟩ = some (.int .i64 ((B[k] : Nat) : Int)) := fun z hz => by
        have := range_cell (range_keep hz hgb hrb) k hkb
        rwa [Nat.zero_add] at this
      have r1 := xor16i L[k] B[k] (hl.out _ (List.getElem_mem hka)) (bt.out _ (List.getElem_mem hkb))
      have HN : Hid (nv ((zx L B).take (k + 1)) = nv ((zx L B).take k) ++ [.int .i64 ((L[k] ^^^ B[k] : Nat) : Int)]) := (by
        rw [zx_get L B k hka hkb, nv_snoc] : nv ((zx L B).take (k + 1)) = nv ((zx L B).take k) ++ [.int .i64 ((L[k] ^^^ B[k] : Nat) : Int)])
      generalize L[k] = a at *
      generalize B[k] = b at *
      generalize a ^^^ b = x at *
      have KA : Hid (∀ z, Below y.heap.size y z → z.cell? ⟨g, k, none⟩ = some (.int .i64 (a : Int))) := c1
      have KB : Hid (∀ z, Below y.heap.size y z → z.cell? ⟨gb, k, none⟩ = some (.int .i64 (b : Int))) := c2
      have d1 := c1 wr hbw
      have d2 := c2 wr hbw
      clear c1 c2 hr hl hka hkb bt bl hL hry hrb BE
      go_wp2_with fail
      go_region_held3 (fun w' => w'.cell? ⟨g, k, none⟩ = some (.int .i64 (a : Int)) ∧ w'.cell? ⟨gb, k, none⟩ = some (.int .i64 (b : Int))) (first | (refine ⟨?_, ?_⟩ <;> assumption) | go_keep)
        ((refine step_append_lies _ (by rfl) _ _ _ (by rfl) y.heap.size 3 i0 _ 1 8 Try.underlying58 hi hz0 hz1 hz2 rfl (by omega) u8 k _ (by rfl) ((hown.alloc _).drew) ⟨wr.heap.size, 0, none⟩ 1 1 _ (by rfl) (by rfl) (World.news_of_block (heap_alloc_new wr _)) (by simp [Value.oneCell']) (by omega) (by unfold maxLen; omega) (by omega) (by simp; omega) (wr.heap.size + 1) (by simp) ?_; intro gg cap w1 hown1 hgrow hat hlt1; have bw1 := below_app hbw hbs hown hgrow; have d1 := KA.out w1 bw1; have d2 := KB.out w1 bw1))
      all_goals
        go_wp2
        go_roundw
        case rel => exact ⟨k + 1, by omega, by go_num, owns_len hown1 rfl (by omega) HN.out.symm, below_app hbw hbs hown hgrow⟩
        case measure => simp [intOf]; omega
    · obtain rfl : k = 16 := by omega
      rw [List.take_of_length_le (by rw [zx_len _ _ (by rw [hL.out, bl.out]), hL.out]; exact Nat.le_refl _)] at hown
      obtain ⟨g5, cap5, rfl, hB5, hg5, hcap5, hr5⟩ := own_range hown (by decide)
      clear hr hl bt bl hL hry hrb BE
      go_wp2
      go_ret
      exact ⟨g5, cap5, rfl, hg5, hr5, keepB hy hbw⟩
theorem mixed_ref (f : Int) (L : List Nat) (g cap : Nat) (q : ByteArray) (hq : Hid (qB f q = true)) (hL : Hid (L.length = 16)) (hl : Hid (∀ m ∈ L, m < 16)) (w : World) (hg : g < w.heap.size) (hr : w.rangeAt g 0 (nv L)) :
    Calls Try.prog 38 #[.int .i64 f, .slice (some ⟨g, 0, none⟩) 16 cap, .string q] w (MixP w (mix f L q)) := by
  by_cases hf : f = 1
  · have e : mix f L q = L := by unfold mix; rw [if_pos hf]
    rw [e]
    exact mixed_one f (by simpa using hf) L g cap q w hg hr
  · have e : mix f L q = zx L (bes q) := by unfold mix; rw [if_neg hf]
    rw [e]
    have h2 : panB q = true := by simpa [qB, hf] using hq.out
    exact mixed_more f (by simpa using hf) L g cap q h2 hL hl w hg hr
end Go.Proofs.Ytciblmdpngnakaa.Rh
