/- PINs: values: plain, and the program's digits in order. -/
import Derived.Test.YtciblmdpngnakabWa
namespace Go.Proofs.Ytciblmdpngnakab.Va
set_option linter.unusedVariables false
set_option linter.unusedSimpArgs false
open Go.RowKit Lib0 Six Pp Cb Wa
open Pf (ret_bool worth_any isPAN_any isPIN_any left_any)
open Pg (ba_ext ext_list spread_any)
open Ph (gb_eq pack_any)
def da (L : List Nat) : List UInt8 := (L.filter (fun n => decide (n < 10))).map hx
def db (L : List Nat) : List UInt8 := (L.filter (fun n => decide (10 ≤ n))).map (fun n => hx (n - 10))
theorem da_yes (L : List Nat) (n : Nat) (h : n < 10) : da (L ++ [n]) = da L ++ [hx n] := by simp [da, h]
theorem da_no (L : List Nat) (n : Nat) (h : 10 ≤ n) : da (L ++ [n]) = da L := by simp [da, show ¬ n < 10 by omega]
theorem db_yes (L : List Nat) (n : Nat) (h : 10 ≤ n) : db (L ++ [n]) = db L ++ [hx (n - 10)] := by simp [db, h]
theorem db_no (L : List Nat) (n : Nat) (h : n < 10) : db (L ++ [n]) = db L := by simp [db, show ¬ 10 ≤ n by omega]
theorem both_len : ∀ L : List Nat, (da L).length + (db L).length = L.length
  | [] => rfl
  | n :: L => by
    have ih := both_len L
    simp only [da, db, List.length_map, List.filter_cons] at *
    by_cases h : n < 10
    · rw [if_pos (by simpa using h), if_neg (by simp; omega)]
      simp only [List.length_cons]; omega
    · rw [if_neg (by simpa using h), if_pos (by simp; omega)]
      simp only [List.length_cons]; omega
def Apart (v u : Value) : Prop := ∀ g, v.ownBlock = some g → u.ownBlock = some g → False
theorem apart_ne {v u : Value} (h : Apart v u) : u.ownBlock = none ∨ u.ownBlock ≠ v.ownBlock := by
  cases hu : u.ownBlock with
  | none => exact Or.inl rfl
  | some g => exact Or.inr (fun e => h g e.symm hu)
theorem own_lt {w : World} {base e : Nat} {v : Value} {n size : Nat} {xs : List Value} (h : w.ownsRow base e size v n xs) (g : Nat) (hg : v.ownBlock = some g) : g < w.heap.size := by
  rcases h.2 with ⟨rfl, _⟩ | ⟨g', cap, cur, rfl, _, h2, _⟩
  · simp [Value.ownBlock] at hg
  · have : g' = g := by simpa [Value.ownBlock] using hg
    subst this
    exact (Array.getElem?_eq_some_iff.1 h2).1
theorem apart_new {w : World} {base e n size gg c k H : Nat} {v u : Value} {xs : List Value} (h : Apart v u) (hu : w.ownsRow base e size u n xs) (hat : v.ownBlock = some gg ∨ gg = H) (hH : w.heap.size ≤ H) : Apart (.slice (some ⟨gg, 0, none⟩) k c) u := by
  intro g h1 h2
  have e : gg = g := by simpa [Value.ownBlock] using h1
  subst e
  rcases hat with h3 | h3
  · exact h gg h3 h2
  · have := own_lt hu gg h2
    omega
theorem own_cells {w : World} {B e n : Nat} {v : Value} {xs : List Value} (h : w.ownsRow B e 1 v n xs) (hn : 0 < n) : ∃ g cap, v = .slice (some ⟨g, 0, none⟩) n cap ∧ n ≤ cap ∧ ∀ j u, xs[j]? = some u → w.cell? (Addr.add ⟨g, 0, none⟩ j) = some u := by
  rcases h.2 with ⟨rfl, h0⟩ | ⟨g, cap, cur, rfl, hb, hg, hc, hc2, hsz, htk⟩
  · omega
  · refine ⟨g, cap, rfl, hc, ?_⟩
    intro j v hv
    rw [Addr.add_mid, cell_of_row w g _ _ _ (0, 0) hg, Nat.zero_add]
    rw [← htk] at hv
    rw [List.getElem?_take] at hv
    split at hv
    · rw [← Array.getElem?_toList]; exact hv
    · cases hv
theorem bs_one (l : List UInt8) : ∀ u ∈ bs l, u.oneCell' = true := by
  intro u hu
  simp only [bs, List.mem_map] at hu
  obtain ⟨b, _, rfl⟩ := hu
  rfl
theorem apart_symm {v u : Value} (h : Apart v u) : Apart u v := fun g h1 h2 => h g h2 h1
set_option maxRecDepth 100000 in
set_option maxHeartbeats 1600000 in
theorem asDigits_any (L : List Nat) (s : ByteArray) (hs : Hid (s.data.toList = L.map hx)) (hl : Hid (∀ n ∈ L, n < 16)) (hL : Hid (L.length = 16)) (w : World) :
    Calls Try.prog 29 #[.string s] w fun e w' => e = .returned (.string ⟨(da L ++ db L).toArray⟩) ∧ Below w.heap.size w w' := by
  obtain ⟨i0, hi, hz0, hz1, hz2⟩ := info_parts Pg.info
  have s16 : Hid (s.size = 16) := (by rw [← sz, hs.out, List.length_map, hL.out] : s.size = 16)
  have z1 : (s.size : Int) ≤ 16 := by have := s16.out; omega
  go_enter Try.func29, Try.ntmps29
  go_wp2
  go_loopw [3, 4, 9] (fun v u c wr => ∃ k nA nB : Nat, k ≤ 16 ∧ nA + nB = k ∧ c = .int .i64 (k : Int) ∧ wr.ownsRow w.heap.size 5 1 v nA (bs (da (L.take k))) ∧ wr.ownsRow w.heap.size 5 1 u nB (bs (db (L.take k))) ∧ Apart v u ∧ (nA = 0 → v = .slice none 0 0) ∧ (nB = 0 → u = .slice none 0 0) ∧ Below w.heap.size w wr) (fun _ _ c _ => 17 - (intOf c).toNat)
  case atStart => exact ⟨0, 0, 0, by omega, rfl, rfl, World.ownsRow_nil _ _ _ _, World.ownsRow_nil _ _ _ _, fun g h _ => by simp [Value.ownBlock] at h, fun _ => rfl, fun _ => rfl, Below.refl _ _⟩
  case round =>
    obtain ⟨k, nA, nB, hk, hAB, rfl, o3, o4, hap, n3, n4, hbw⟩ := hrel
    have hbs := hbw.size
    by_cases hlt : k < 16
    · have hkL : k < L.length := by rw [hL.out]; exact hlt
      have hks : k < s.size := by rw [s16.out]; exact hlt
      have q0 : (0 : Int) ≤ (k : Int) := by omega
      have q1 : (k : Int) < (s.size : Int) := by omega
      have a16 := hl.out _ (List.getElem_mem hkL)
      have es : s[k] = hx L[k] := by
        have h2 : s.data.toList[k]? = some (hx L[k]) := by rw [hs.out, List.getElem?_map, List.getElem?_eq_getElem hkL]; rfl
        rw [List.getElem?_eq_getElem (by rw [sz]; exact hks)] at h2
        exact Option.some.inj h2
      have WO := fun u => worth_any s[k] u
      rw [es, six_hx _ a16] at WO
      rw [← es] at WO
      have tk : L.take (k + 1) = L.take k ++ [L[k]] := List.take_succ_eq_append_getElem hkL
      by_cases h10 : L[k] < 10
      · have HA : Hid (bs (da (L.take (k + 1))) = bs (da (L.take k)) ++ [.int .u8 (s[k].toNat : Int)]) := (by rw [tk, da_yes _ _ h10, bs_append, es]; rfl : bs (da (L.take (k + 1))) = bs (da (L.take k)) ++ [.int .u8 (s[k].toNat : Int)])
        have HB : Hid (bs (db (L.take (k + 1))) = bs (db (L.take k))) := (by rw [tk, db_no _ _ h10] : bs (db (L.take (k + 1))) = bs (db (L.take k)))
        generalize L[k] = a at *
        have i1 : (a : Int) < 10 := by omega
        clear es tk hs hl hL
        go_wp2_with fail
        refine (WO _).mono ?_
        rintro e u ⟨rfl, hu⟩
        rw [hu]
        clear hu u WO
        go_wp2_with (at_builtin; refine wpList_append_lies _ rfl _ _ _ rfl w.heap.size 5 i0 _ 1 1 Try.underlying33 hi hz0 hz1 hz2 rfl (by omega) _ nA _ rfl (o3.alloc _) ⟨wr.heap.size, 0, none⟩ 1 1 _ rfl (by rfl) (World.news_of_block (heap_alloc_new wr _)) (by simp [Value.oneCell']) (by omega) (by unfold maxLen; omega) (by omega) (by first | omega | (simp <;> omega)) (wr.heap.size + 1) (by simp) ?_; intro gg cap w1 hown1 hgrow hat hlt1)
        refine ⟨⟨k + 1, nA + 1, nB, by omega, by omega, by simp, owns_len hown1 rfl rfl HA.out.symm, ?_, apart_new hap o4 hat (by omega), fun h => by omega, n4, below_app0 hbw hbs o3 hgrow⟩, by simp only [intOf]; omega⟩
        rw [HB.out]
        exact (o4.alloc _).kept hgrow (apart_ne hap)
      · have HA : Hid (bs (da (L.take (k + 1))) = bs (da (L.take k))) := (by rw [tk, da_no _ _ (by omega)] : bs (da (L.take (k + 1))) = bs (da (L.take k)))
        have HB : Hid (bs (db (L.take (k + 1))) = bs (db (L.take k)) ++ [.int .u8 ((hx (L[k] - 10)).toNat : Int)]) := (by rw [tk, db_yes _ _ (by omega), bs_append]; rfl : bs (db (L.take (k + 1))) = bs (db (L.take k)) ++ [.int .u8 ((hx (L[k] - 10)).toNat : Int)])
        generalize L[k] = a at *
        have i1 : ¬ (a : Int) < 10 := by omega
        have i2 : (10 : Int) ≤ (a : Int) := by omega
        obtain ⟨d, Hd⟩ : ∃ d : Nat, Hid (a - 10 = d) := ⟨_, rfl⟩
        have ed := Hd.out
        have x1 : IntKind.i64.wrap ((a : Int) - 10) = (d : Int) := by rw [IntKind.wrap_i64]; omega
        have x2 : (a : Int) - 10 = (d : Int) := by omega
        have x3 : (d : Int) < 16 := by omega
        have x4 : (0 : Int) ≤ (d : Int) := by omega
        have d16 : d < 16 := by omega
        rw [ed] at HB
        have gx := hx_get d d16
        clear es tk hs hl hL ed
        go_wp2_with fail
        refine (WO _).mono ?_
        rintro e u ⟨rfl, hu⟩
        rw [hu]
        clear hu u WO
        go_wp2_with (at_builtin; refine wpList_append_lies _ rfl _ _ _ rfl w.heap.size 5 i0 _ 1 1 Try.underlying33 hi hz0 hz1 hz2 rfl (by omega) _ nB _ rfl (o4.alloc _) ⟨wr.heap.size, 0, none⟩ 1 1 _ rfl (by rfl) (World.news_of_block (heap_alloc_new wr _)) (by simp [Value.oneCell']) (by omega) (by unfold maxLen; omega) (by omega) (by first | omega | (simp <;> omega)) (wr.heap.size + 1) (by simp) ?_; intro gg cap w1 hown1 hgrow hat hlt1)
        refine ⟨⟨k + 1, nA, nB + 1, by omega, by omega, by simp, ?_, owns_len hown1 rfl rfl HB.out.symm, apart_symm (apart_new (apart_symm hap) o3 hat (by omega)), n3, fun h => by omega, below_app0 hbw hbs o4 hgrow⟩, by simp only [intOf]; omega⟩
        rw [HA.out]
        exact (o3.alloc _).kept hgrow (apart_ne (apart_symm hap))
    · obtain rfl : k = 16 := by omega
      have tl : L.take 16 = L := List.take_of_length_le (by rw [hL.out]; exact Nat.le_refl _)
      rw [tl] at o3 o4
      have q1 : ¬ (16 : Int) < (s.size : Int) := by have := s16.out; omega
      by_cases hB : nB = 0
      · subst hB
        obtain rfl : nA = 16 := by omega
        obtain rfl := n4 rfl
        have eb : db L = [] := by
          have := o4.1
          rw [bs_length] at this
          exact List.length_eq_zero_iff.1 (by omega)
        obtain ⟨g3, c3, rfl, hc3, -⟩ := own_cells o3 (by omega)
        have hc3' : ¬ c3 < 16 := by omega
        have hc3i : (16 : Int) ≤ (c3 : Int) := by omega
        have hcv := run_str (P := Try.prog) (src := 33) (dst := 9) Try.underlying33 Try.underlying5 Try.underlying9 o3
        have HR : Hid ((⟨(da L ++ db L).toArray⟩ : ByteArray) = ⟨(da L).toArray⟩) := (by rw [eb, List.append_nil] : (⟨(da L ++ db L).toArray⟩ : ByteArray) = ⟨(da L).toArray⟩)
        clear tl hs hl hL eb o4 o3 n3 n4 hAB
        go_wp2
        go_ret
        exact ⟨ret_str HR.out.symm, hbw⟩
      · obtain ⟨g4, c4, rfl, -, hn4⟩ := own_cells o4 (by omega)
        have nA16 : nA ≤ 16 := by omega
        have nB16 : nB ≤ 16 := by omega
        have l4 : (bs (db L)).length = nB * 1 := o4.1
        clear tl hs hl hL n3 n4 hAB
        go_wp2_with (at_builtin; refine wpList_append_lies _ rfl _ _ _ rfl w.heap.size 5 i0 _ 1 1 Try.underlying33 hi hz0 hz1 hz2 rfl (by omega) _ nA _ rfl o3 ⟨g4, 0, none⟩ nB c4 (bs (db L)) rfl l4 hn4 (bs_one _) (by omega) (by unfold maxLen; omega) (by omega) hbs wr.heap.size rfl ?_; intro gg cap w1 hown1 hgrow hat hlt1; have hcv := run_str (P := Try.prog) (src := 33) (dst := 9) Try.underlying33 Try.underlying5 Try.underlying9 (owns_len hown1 rfl rfl (bs_append (da L) (db L)).symm))
        go_ret
        exact ⟨rfl, hbw.grown hgrow hbs (own_ge o3)⟩
end Go.Proofs.Ytciblmdpngnakab.Va
