/- The document's Pack of two characters a byte. -/
import Derived.Test.YtekbonfaaofdiaaDoorCod
namespace Go.Proofs.YtekbonfaaofdiaaDoor.Hlv
open Go.RowKit Lib0 Chars Ebc Join Pck
attribute [local go_sem ↓] Go.wp_at_zero Go.wp_at_succ
def iv (l : List Int) : List Value := l.map fun n => Value.int .i64 n
theorem iv_append (l r : List Int) : iv (l ++ r) = iv l ++ iv r := by simp [iv]
theorem iv_get (l : List Int) (j : Nat) (h : j < l.length) : (iv l)[j]? = some (.int .i64 l[j]) := by simp [iv, h]
theorem infoI : (Tryd.prog.info? 3).map (fun i => (i.zero, i.size, i.bytes)) = some (some (.int .i64 0), 1, 8) := by kernel_rfl
theorem half_yes (c : UInt8) (w : World) (h : hlf c = true) : Calls Tryd.prog 48 #[.int .u8 (c.toNat : Int)] w fun e w' => e = .returned (.int .i64 (hv c)) ∧ w' = w := by
  have hb := of_decide_eq_true h
  by_cases h1 : (c.toNat : Int) = 61
  · have h2 : ((c.toNat : Int) == 61) = true := by simpa using h1
    go_enter Tryd.func48, Tryd.ntmps48
    go_wp2
    go_ret
    exact ⟨ret_int (by unfold hv; omega), rfl⟩
  · have h2 : ((c.toNat : Int) == 61) = false := by simpa using h1
    have h3 : (48 : Int) ≤ c.toNat := by omega
    have h4 : (c.toNat : Int) ≤ 57 := by omega
    clear hb h h1
    go_enter Tryd.func48, Tryd.ntmps48
    go_wp2
    go_ret
    exact ⟨ret_int (by unfold hv; omega), rfl⟩
theorem half_no (c : UInt8) (w : World) (h : hlf c = false) : Calls Tryd.prog 48 #[.int .u8 (c.toNat : Int)] w fun e w' => e = .returned (.int .i64 (-1)) ∧ w' = w := by
  have hb := of_decide_eq_false h
  have h2 : ((c.toNat : Int) == 61) = false := by simp; omega
  by_cases h3 : (c.toNat : Int) < 48
  · go_enter Tryd.func48, Tryd.ntmps48
    go_wp2
    go_ret
    exact ⟨rfl, rfl⟩
  · have h4 : (57 : Int) < c.toNat := by omega
    go_enter Tryd.func48, Tryd.ntmps48
    go_wp2
    go_ret
    exact ⟨rfl, rfl⟩
/-- pairs of numbers as bytes -/
def joinI : List Int → List UInt8
  | a :: b :: l => (16 * a + b).toNat.toUInt8 :: joinI l
  | _ => []
theorem joinI_two : ∀ (l : List Int) (a b : Int), l.length % 2 = 0 → joinI (l ++ [a, b]) = joinI l ++ [(16 * a + b).toNat.toUInt8]
  | [], a, b, _ => rfl
  | [x], a, b, h => by simp at h
  | x :: y :: l, a, b, h => by
    simp only [List.cons_append, joinI]
    rw [joinI_two l a b (by simp only [List.length_cons] at h; omega)]
theorem joinI_even : ∀ (l : List UInt8), l.length % 2 = 0 → joinI (l.map hv) = joinL l
  | [], _ => rfl
  | [x], h => by simp at h
  | x :: y :: l, h => by
    simp only [List.map_cons, joinI, joinL]
    rw [joinI_even l (by simp only [List.length_cons] at h; omega)]
theorem joinI_odd : ∀ (l : List UInt8), l.length % 2 = 1 → joinI (l.map hv ++ [15]) = joinL l
  | [], h => by simp at h
  | [x], _ => rfl
  | x :: y :: l, h => by
    simp only [List.map_cons, List.cons_append, joinI, joinL]
    rw [joinI_odd l (by simp only [List.length_cons] at h; omega)]
theorem own_view {w : World} {B e : Nat} {v : Value} {n : Nat} {xs : List Value} (h : w.ownsRow B e 1 v n xs) :
    ∃ ao cap, v = .slice ao n cap ∧ ∀ (j : Nat) u, xs[j]? = some u → ∃ g, ao = some ⟨g, 0, none⟩ ∧ g < w.heap.size ∧ w.cell? ⟨g, j, none⟩ = some u := by
  have h1 := h.1
  rcases h.2 with ⟨rfl, h0⟩ | ⟨g, cap, cur, rfl, hb, hg, _⟩
  · subst h0
    refine ⟨none, 0, rfl, fun j u hu => ?_⟩
    have : xs = [] := List.length_eq_zero_iff.1 (by omega)
    subst this; simp at hu
  · refine ⟨_, cap, rfl, fun j u hu => ⟨g, rfl, ?_, ?_⟩⟩
    · rcases Nat.lt_or_ge g w.heap.size with hlt | hge
      · exact hlt
      · rw [Array.getElem?_eq_none hge] at hg; cases hg
    · rw [h.cellAt j (by have := (List.getElem?_eq_some_iff.1 hu).1; omega), hu]
theorem take_two_i (l : List Int) (j : Nat) (h : j + 1 < l.length) : l.take (j + 2) = l.take j ++ [l[j], l[j + 1]] := by
  rw [show j + 2 = (j + 1) + 1 from rfl, List.take_succ_eq_append_getElem h, List.take_succ_eq_append_getElem (by omega), List.append_assoc]; rfl
theorem add16 (a b : Int) (h1 : 0 ≤ a) (h2 : a < 16) (h3 : 0 ≤ b) (h4 : b < 16) : IntKind.u8.wrap (IntKind.i64.wrap (IntKind.i64.wrap (16 * a) + b)) = ((((16 * a + b).toNat.toUInt8).toNat : Nat) : Int) := by
  rw [wrap_i64 (16 * a) (by omega) (by omega), wrap_i64 _ (by omega) (by omega), wrap_u8 _ (by omega) (by omega)]
  simp only [UInt8.toNat_ofNat', Nat.toUInt8]
  omega
theorem lt_of_all (l : List Int) (h : ∀ x ∈ l, 0 ≤ x ∧ x < 16) (j : Nat) (hj : j < l.length) : 0 ≤ l[j] ∧ l[j] < 16 := h _ (List.getElem_mem hj)
abbrev Post (enc : Int) (s : ByteArray) (w : World) (e : Ending) (w' : World) : Prop := e = .returned (.tuple #[.string ⟨(packR enc s.data.toList).1.toArray⟩, .int .i64 (packR enc s.data.toList).2]) ∧ Below w.heap.size w w'

set_option maxRecDepth 100000 in
set_option maxHeartbeats 3200000 in
theorem hlv2odd (s : ByteArray) (w : World) (hs : s.size ≤ 4194300) (hodd : s.size % 2 = 1) : Calls Tryd.prog 27 #[.int .i64 2, .string s] w (Post 2 s w) := by
  show Calls _ _ _ _ fun e w' => e = _ ∧ _
  obtain ⟨i0, hi, hz0, hz1, hz2⟩ := info_parts info
  obtain ⟨k0, ki, kz0, kz1, kz2⟩ := info_parts infoI
  have HL : Hid (s.data.toList.length = s.size) := len_eq s
  have hev : (((s.size : Int) % 2) == 1) = true := by simp; omega
  go_enter Tryd.func27, Tryd.ntmps27
  go_wp2_with (at_builtin; refine wpList_append_lies _ rfl _ _ _ rfl w.heap.size 3 k0 _ 1 8 Tryd.underlying58 ki kz0 kz1 kz2 rfl (by omega) (.slice none 0 0) 0 [] rfl (World.ownsRow_nil _ _ _ _) ⟨w.heap.size, 0, none⟩ 1 1 _ rfl (by rfl) (World.news_of_block (heap_alloc_new w _)) (by simp [Value.oneCell']) (by omega) (by unfold maxLen; omega) (by omega) (by simp) (w.heap.size + 1) (by simp) ?_)
  intro g0 cap0 w0 hown0 hgrow0 hat0 hlt0
  have hb0 : Below w.heap.size w w0 := below_app0 (Below.refl _ _) (Nat.le_refl _) (World.ownsRow_nil w w.heap.size 3 1) hgrow0
  go_wp2
  go_loopw [6, 7] (fun v i wr => ∃ k : Nat, k ≤ s.size ∧ i = .int .i64 k ∧ (s.data.toList.take k).all hlf = true ∧ wr.ownsRow w.heap.size 3 1 v (k + 1) (iv (0 :: (s.data.toList.take k).map hv)) ∧ Below w.heap.size w wr) (fun _ i _ => s.size - (intOf i).toNat)
  case atStart => exact ⟨0, Nat.zero_le _, rfl, rfl, hown0, hb0⟩
  case round =>
    obtain ⟨k, hk, rfl, hal, hown, hb⟩ := hrel
    have Hal : Hid ((s.data.toList.take k).all hlf = true) := hal
    clear hal
    have hbs := hb.size
    by_cases hlt : k < s.size
    · cases hp : hlf s[k]
      · have HE : Hid (packR 2 s.data.toList = ([], 11)) := by
          have h1 := fuL_hit hlf s.data.toList k (by rw [HL.out]; exact hlt) Hal.out hp
          exact p_char 2 _ (by omega) (by rw [fit2, h1, HL.out]; exact hlt)
        have Hp : Hid (hlf s[k] = false) := hp
        clear hp
        go_wp2_with fail
        refine (half_no s[k] _ Hp.out).mono ?_
        rintro e w' ⟨rfl, rfl⟩
        go_wp2
        go_ret2
        exact ⟨by rw [HE.out]; rfl, hb⟩
      · have hvb := (hv_bd _ hp).1
        have Hp : Hid (hlf s[k] = true) := hp
        clear hp
        go_wp2_with fail
        refine (half_yes s[k] _ Hp.out).mono ?_
        rintro e w' ⟨rfl, rfl⟩
        go_wp2_with (at_builtin; refine wpList_append_lies _ rfl _ _ _ rfl w.heap.size 3 k0 _ 1 8 Tryd.underlying58 ki kz0 kz1 kz2 rfl (by omega) u6 (k + 1) _ rfl (hown.alloc _) ⟨w'.heap.size, 0, none⟩ 1 1 _ rfl (by rfl) (World.news_of_block (heap_alloc_new w' _)) (by simp [Value.oneCell']) (by omega) (by unfold maxLen; omega) (by omega) (by simp; omega) (w'.heap.size + 1) (by simp) ?_)
        intro g cap w1 hown1 hgrow hat hltg
        go_wp2
        go_roundw
        case rel => exact ⟨k + 1, by omega, by go_num, all_snoc hlf s k hlt Hal.out Hp.out, owns_len hown1 rfl (by omega) (by rw [take_snoc s k hlt]; simp [iv]), below_app0 hb hbs hown hgrow⟩
        case measure => simp [intOf]; omega
    · have HA : Hid (s.data.toList.all hlf = true) := by have := Hal.out; rwa [take_all s k (by omega)] at this
      have HE : Hid (packR 2 s.data.toList = (packL 2 s.data.toList, 0)) := p_yes 2 _ (by omega) (by have := fuL_all hlf _ HA.out; rw [fit2]; omega)
      have hks : k = s.size := by omega
      obtain ⟨x1, hxw⟩ : ∃ x1 : World, x1 = wr := ⟨wr, rfl⟩
      subst hxw
      have hown' := owns_len hown rfl (show k + 1 = s.size + 1 by omega) (by rw [take_all s k (by omega)])
      clear hown Hal
      have HB : Hid (∀ x ∈ (0 :: s.data.toList.map hv : List Int), 0 ≤ x ∧ x < 16) := by
        show ∀ x ∈ _, _
        intro x hx
        simp only [List.mem_cons, List.mem_map] at hx
        rcases hx with rfl | ⟨c, hc, rfl⟩
        · omega
        · exact hv_bd c (List.all_eq_true.1 HA.out c hc)
      obtain ⟨ao, cap, hv0, hcells⟩ := own_view hown'
      subst hv0
      have HC : Hid (∀ (j : Nat) u, (iv (0 :: s.data.toList.map hv))[j]? = some u → ∃ g, ao = some ⟨g, 0, none⟩ ∧ g < x1.heap.size ∧ x1.cell? ⟨g, j, none⟩ = some u) := hcells
      clear hcells
      have hbx := hb
      clear hb hown'
      have hnl : Hid ((0 :: s.data.toList.map hv : List Int).length = s.size + 1) := by show _ = _; simp
      go_wp2
      go_loopw [9, 10] (fun v i wr => ∃ j : Nat, j ≤ s.size + 1 ∧ j % 2 = 0 ∧ i = .int .i64 j ∧ wr.ownsRow x1.heap.size 5 1 v (j / 2) (bs (joinI ((0 :: s.data.toList.map hv : List Int).take j))) ∧ Below x1.heap.size x1 wr) (fun _ i _ => s.size + 1 - (intOf i).toNat)
      case atStart => exact ⟨0, Nat.zero_le _, rfl, rfl, World.ownsRow_nil _ _ _ _, Below.refl _ _⟩
      case round =>
        obtain ⟨j, hj, hje, rfl, hown, hbb⟩ := hrel
        have hbbs := hbb.size
        by_cases hlt : j < s.size + 1
        · have hlt1 : j + 1 < s.size + 1 := by omega
          obtain ⟨a, za⟩ : ∃ a, (0 :: s.data.toList.map hv : List Int)[j]'(by rw [hnl.out]; exact hlt) = a := ⟨_, rfl⟩
          have Ha : Hid ((0 :: s.data.toList.map hv : List Int)[j]'(by rw [hnl.out]; exact hlt) = a) := za
          clear za
          obtain ⟨b, zb⟩ : ∃ b, (0 :: s.data.toList.map hv : List Int)[j + 1]'(by rw [hnl.out]; exact hlt1) = b := ⟨_, rfl⟩
          have Hb : Hid ((0 :: s.data.toList.map hv : List Int)[j + 1]'(by rw [hnl.out]; exact hlt1) = b) := zb
          clear zb
          have ba : 0 ≤ a ∧ a < 16 := by rw [← Ha.out]; exact lt_of_all _ HB.out _ _
          have bb : 0 ≤ b ∧ b < 16 := by rw [← Hb.out]; exact lt_of_all _ HB.out _ _
          obtain ⟨g, hg, hgl, hca⟩ := HC.out j (.int .i64 a) (by rw [← Ha.out]; exact iv_get _ _ (by rw [hnl.out]; exact hlt))
          obtain ⟨g', hg', hgl', hcb⟩ := HC.out (j + 1) (.int .i64 b) (by rw [← Hb.out]; exact iv_get _ _ (by rw [hnl.out]; exact hlt1))
          subst hg
          cases hg'
          have ca : wr.cell? ⟨_, j, none⟩ = some (.int .i64 a) := (hbb.cell (p := ⟨_, j, none⟩) hgl).trans hca
          have cb : wr.cell? ⟨_, j + 1, none⟩ = some (.int .i64 b) := (hbb.cell (p := ⟨_, j + 1, none⟩) hgl).trans hcb
          clear hca hcb
          have ag : u9.ownBlock ≠ some g := fun e => by have := own_ge hown _ e; omega
          have glt : g < wr.heap.size := by omega
          have h1 : (0 : Int) ≤ (j : Int) := by omega
          have h2 : (j : Int) < ((s.size + 1 : Nat) : Int) := by omega
          have h3 : (j : Int) + 1 < ((s.size + 1 : Nat) : Int) := by omega
          have h5 : (j : Int) < (s.size : Int) := by omega
          have h4 : (0 : Int) ≤ (j : Int) + 1 := by omega
          have hw1 : IntKind.i64.wrap ((j : Int) + 1) = (j : Int) + 1 := wrap_i64 _ (by omega) (by omega)
          go_wp2_with fail
          go_region_held3 (fun w' => w'.cell? ⟨g, j, none⟩ = some (.int .i64 a) ∧ w'.cell? ⟨g, j + 1, none⟩ = some (.int .i64 b))
            (first
              | go_keep
              | (go_split_ands
                 refine ⟨?_, ?_⟩
                 · (rw [hgrow.cell_far _ (by simp; omega) (Ne.symm ag)]; assumption)
                 · (rw [hgrow.cell_far _ (by simp; omega) (Ne.symm ag)]; assumption)))
            ((refine step_append_lies _ (by rfl) _ _ _ (by rfl) x1.heap.size 5 i0 _ 1 1 Tryd.underlying44 hi hz0 hz1 hz2 rfl (by omega) u9 (j / 2) _ (by rfl) ((hown.alloc _).drew) ⟨wr.heap.size, 0, none⟩ 1 1 _ (by rfl) (by rfl) (World.news_of_block (heap_alloc_new wr _)) (by simp [Value.oneCell']) (by omega) (by unfold maxLen; omega) (by omega) (by simp; omega) (wr.heap.size + 1) (by simp) ?_; intro gg cap4 w1 hown1 hgrow hat hltg))
          all_goals
            go_wp2
            go_roundw
            case rel => exact ⟨j + 2, by omega, by omega, by go_num, owns_len hown1 rfl (by omega) (by rw [take_two_i _ j (by rw [hnl.out]; exact hlt1), joinI_two _ _ _ (by rw [List.length_take_of_le (by rw [hnl.out]; exact hj)]; exact hje), bs_append, Ha.out, Hb.out]; simp [bs, add16 a b ba.1 ba.2 bb.1 bb.2]), below_app hbb hbbs hown hgrow⟩
            case measure => simp [intOf]; omega
        · have hcv := run_str (P := Tryd.prog) (src := 44) (dst := 9) Tryd.underlying44 Tryd.underlying5 Tryd.underlying9 hown
          have HX : Hid (joinI ((0 :: s.data.toList.map hv : List Int).take j) = packL 2 s.data.toList) := by
            show _ = _
            rw [List.take_of_length_le (by rw [hnl.out]; omega)]
            exact (by rw [show (0 :: s.data.toList.map hv) = (48 :: s.data.toList).map hv from rfl, joinI_even _ (by simp; omega)]; simp [packL, hodd])
          go_wp2
          go_ret2
          exact ⟨by rw [HE.out]; exact ret_ss (by rw [HX.out]) rfl, hbx.trans (hbb.mono hbx.size)⟩

set_option maxRecDepth 100000 in
set_option maxHeartbeats 3200000 in
theorem hlv2even (s : ByteArray) (w : World) (hs : s.size ≤ 4194300) (hodd : ¬ s.size % 2 = 1) : Calls Tryd.prog 27 #[.int .i64 2, .string s] w (Post 2 s w) := by
  show Calls _ _ _ _ fun e w' => e = _ ∧ _
  obtain ⟨i0, hi, hz0, hz1, hz2⟩ := info_parts info
  obtain ⟨k0, ki, kz0, kz1, kz2⟩ := info_parts infoI
  have HL : Hid (s.data.toList.length = s.size) := len_eq s
  have hev : (((s.size : Int) % 2) == 1) = false := by simp; omega
  go_enter Tryd.func27, Tryd.ntmps27
  go_wp2
  go_loopw [6, 7] (fun v i wr => ∃ k : Nat, k ≤ s.size ∧ i = .int .i64 k ∧ (s.data.toList.take k).all hlf = true ∧ wr.ownsRow w.heap.size 3 1 v (k) (iv ((s.data.toList.take k).map hv)) ∧ Below w.heap.size w wr) (fun _ i _ => s.size - (intOf i).toNat)
  case atStart => exact ⟨0, Nat.zero_le _, rfl, rfl, World.ownsRow_nil _ _ _ _, Below.refl _ _⟩
  case round =>
    obtain ⟨k, hk, rfl, hal, hown, hb⟩ := hrel
    have Hal : Hid ((s.data.toList.take k).all hlf = true) := hal
    clear hal
    have hbs := hb.size
    by_cases hlt : k < s.size
    · cases hp : hlf s[k]
      · have HE : Hid (packR 2 s.data.toList = ([], 11)) := by
          have h1 := fuL_hit hlf s.data.toList k (by rw [HL.out]; exact hlt) Hal.out hp
          exact p_char 2 _ (by omega) (by rw [fit2, h1, HL.out]; exact hlt)
        have Hp : Hid (hlf s[k] = false) := hp
        clear hp
        go_wp2_with fail
        refine (half_no s[k] _ Hp.out).mono ?_
        rintro e w' ⟨rfl, rfl⟩
        go_wp2
        go_ret2
        exact ⟨by rw [HE.out]; rfl, hb⟩
      · have hvb := (hv_bd _ hp).1
        have Hp : Hid (hlf s[k] = true) := hp
        clear hp
        go_wp2_with fail
        refine (half_yes s[k] _ Hp.out).mono ?_
        rintro e w' ⟨rfl, rfl⟩
        go_wp2_with (at_builtin; refine wpList_append_lies _ rfl _ _ _ rfl w.heap.size 3 k0 _ 1 8 Tryd.underlying58 ki kz0 kz1 kz2 rfl (by omega) u6 (k) _ rfl (hown.alloc _) ⟨w'.heap.size, 0, none⟩ 1 1 _ rfl (by rfl) (World.news_of_block (heap_alloc_new w' _)) (by simp [Value.oneCell']) (by omega) (by unfold maxLen; omega) (by omega) (by simp; omega) (w'.heap.size + 1) (by simp) ?_)
        intro g cap w1 hown1 hgrow hat hltg
        go_wp2
        go_roundw
        case rel => exact ⟨k + 1, by omega, by go_num, all_snoc hlf s k hlt Hal.out Hp.out, owns_len hown1 rfl (by omega) (by rw [take_snoc s k hlt]; simp [iv]), below_app0 hb hbs hown hgrow⟩
        case measure => simp [intOf]; omega
    · have HA : Hid (s.data.toList.all hlf = true) := by have := Hal.out; rwa [take_all s k (by omega)] at this
      have HE : Hid (packR 2 s.data.toList = (packL 2 s.data.toList, 0)) := p_yes 2 _ (by omega) (by have := fuL_all hlf _ HA.out; rw [fit2]; omega)
      have hks : k = s.size := by omega
      obtain ⟨x1, hxw⟩ : ∃ x1 : World, x1 = wr := ⟨wr, rfl⟩
      subst hxw
      have hown' := owns_len hown rfl (show k = s.size by omega) (by rw [take_all s k (by omega)])
      clear hown Hal
      have HB : Hid (∀ x ∈ (s.data.toList.map hv : List Int), 0 ≤ x ∧ x < 16) := by
        show ∀ x ∈ _, _
        intro x hx
        simp only [List.mem_map] at hx
        obtain ⟨c, hc, rfl⟩ := hx
        exact hv_bd c (List.all_eq_true.1 HA.out c hc)
      obtain ⟨ao, cap, hv0, hcells⟩ := own_view hown'
      subst hv0
      have HC : Hid (∀ (j : Nat) u, (iv (s.data.toList.map hv))[j]? = some u → ∃ g, ao = some ⟨g, 0, none⟩ ∧ g < x1.heap.size ∧ x1.cell? ⟨g, j, none⟩ = some u) := hcells
      clear hcells
      have hbx := hb
      clear hb hown'
      have hnl : Hid ((s.data.toList.map hv : List Int).length = s.size) := by show _ = _; simp
      go_wp2
      go_loopw [9, 10] (fun v i wr => ∃ j : Nat, j ≤ s.size ∧ j % 2 = 0 ∧ i = .int .i64 j ∧ wr.ownsRow x1.heap.size 5 1 v (j / 2) (bs (joinI ((s.data.toList.map hv : List Int).take j))) ∧ Below x1.heap.size x1 wr) (fun _ i _ => s.size - (intOf i).toNat)
      case atStart => exact ⟨0, Nat.zero_le _, rfl, rfl, World.ownsRow_nil _ _ _ _, Below.refl _ _⟩
      case round =>
        obtain ⟨j, hj, hje, rfl, hown, hbb⟩ := hrel
        have hbbs := hbb.size
        by_cases hlt : j < s.size
        · have hlt1 : j + 1 < s.size := by omega
          obtain ⟨a, za⟩ : ∃ a, (s.data.toList.map hv : List Int)[j]'(by rw [hnl.out]; exact hlt) = a := ⟨_, rfl⟩
          have Ha : Hid ((s.data.toList.map hv : List Int)[j]'(by rw [hnl.out]; exact hlt) = a) := za
          clear za
          obtain ⟨b, zb⟩ : ∃ b, (s.data.toList.map hv : List Int)[j + 1]'(by rw [hnl.out]; exact hlt1) = b := ⟨_, rfl⟩
          have Hb : Hid ((s.data.toList.map hv : List Int)[j + 1]'(by rw [hnl.out]; exact hlt1) = b) := zb
          clear zb
          have ba : 0 ≤ a ∧ a < 16 := by rw [← Ha.out]; exact lt_of_all _ HB.out _ _
          have bb : 0 ≤ b ∧ b < 16 := by rw [← Hb.out]; exact lt_of_all _ HB.out _ _
          obtain ⟨g, hg, hgl, hca⟩ := HC.out j (.int .i64 a) (by rw [← Ha.out]; exact iv_get _ _ (by rw [hnl.out]; exact hlt))
          obtain ⟨g', hg', hgl', hcb⟩ := HC.out (j + 1) (.int .i64 b) (by rw [← Hb.out]; exact iv_get _ _ (by rw [hnl.out]; exact hlt1))
          subst hg
          cases hg'
          have ca : wr.cell? ⟨_, j, none⟩ = some (.int .i64 a) := (hbb.cell (p := ⟨_, j, none⟩) hgl).trans hca
          have cb : wr.cell? ⟨_, j + 1, none⟩ = some (.int .i64 b) := (hbb.cell (p := ⟨_, j + 1, none⟩) hgl).trans hcb
          clear hca hcb
          have ag : u9.ownBlock ≠ some g := fun e => by have := own_ge hown _ e; omega
          have glt : g < wr.heap.size := by omega
          have h1 : (0 : Int) ≤ (j : Int) := by omega
          have h2 : (j : Int) < ((s.size : Nat) : Int) := by omega
          have h3 : (j : Int) + 1 < ((s.size : Nat) : Int) := by omega
          have h4 : (0 : Int) ≤ (j : Int) + 1 := by omega
          have hw1 : IntKind.i64.wrap ((j : Int) + 1) = (j : Int) + 1 := wrap_i64 _ (by omega) (by omega)
          go_wp2_with fail
          go_region_held3 (fun w' => w'.cell? ⟨g, j, none⟩ = some (.int .i64 a) ∧ w'.cell? ⟨g, j + 1, none⟩ = some (.int .i64 b))
            (first
              | go_keep
              | (go_split_ands
                 refine ⟨?_, ?_⟩
                 · (rw [hgrow.cell_far _ (by simp; omega) (Ne.symm ag)]; assumption)
                 · (rw [hgrow.cell_far _ (by simp; omega) (Ne.symm ag)]; assumption)))
            ((refine step_append_lies _ (by rfl) _ _ _ (by rfl) x1.heap.size 5 i0 _ 1 1 Tryd.underlying44 hi hz0 hz1 hz2 rfl (by omega) u9 (j / 2) _ (by rfl) ((hown.alloc _).drew) ⟨wr.heap.size, 0, none⟩ 1 1 _ (by rfl) (by rfl) (World.news_of_block (heap_alloc_new wr _)) (by simp [Value.oneCell']) (by omega) (by unfold maxLen; omega) (by omega) (by simp; omega) (wr.heap.size + 1) (by simp) ?_; intro gg cap4 w1 hown1 hgrow hat hltg))
          all_goals
            go_wp2
            go_roundw
            case rel => exact ⟨j + 2, by omega, by omega, by go_num, owns_len hown1 rfl (by omega) (by rw [take_two_i _ j (by rw [hnl.out]; exact hlt1), joinI_two _ _ _ (by rw [List.length_take_of_le (by rw [hnl.out]; exact hj)]; exact hje), bs_append, Ha.out, Hb.out]; simp [bs, add16 a b ba.1 ba.2 bb.1 bb.2]), below_app hbb hbbs hown hgrow⟩
            case measure => simp [intOf]; omega
        · have hcv := run_str (P := Tryd.prog) (src := 44) (dst := 9) Tryd.underlying44 Tryd.underlying5 Tryd.underlying9 hown
          have HX : Hid (joinI ((s.data.toList.map hv : List Int).take j) = packL 2 s.data.toList) := by
            show _ = _
            rw [List.take_of_length_le (by rw [hnl.out]; omega)]
            exact (by rw [joinI_even _ (by rw [HL.out]; omega)]; simp [packL, hodd])
          go_wp2
          go_ret2
          exact ⟨by rw [HE.out]; exact ret_ss (by rw [HX.out]) rfl, hbx.trans (hbb.mono hbx.size)⟩

set_option maxRecDepth 100000 in
set_option maxHeartbeats 3200000 in
theorem hlv3odd (s : ByteArray) (w : World) (hs : s.size ≤ 4194300) (hodd : s.size % 2 = 1) : Calls Tryd.prog 27 #[.int .i64 3, .string s] w (Post 3 s w) := by
  show Calls _ _ _ _ fun e w' => e = _ ∧ _
  obtain ⟨i0, hi, hz0, hz1, hz2⟩ := info_parts info
  obtain ⟨k0, ki, kz0, kz1, kz2⟩ := info_parts infoI
  have HL : Hid (s.data.toList.length = s.size) := len_eq s
  have hev : (((s.size : Int) % 2) == 1) = true := by simp; omega
  go_enter Tryd.func27, Tryd.ntmps27
  go_wp2
  go_loopw [6, 7] (fun v i wr => ∃ k : Nat, k ≤ s.size ∧ i = .int .i64 k ∧ (s.data.toList.take k).all hlf = true ∧ wr.ownsRow w.heap.size 3 1 v (k) (iv ((s.data.toList.take k).map hv)) ∧ Below w.heap.size w wr) (fun _ i _ => s.size - (intOf i).toNat)
  case atStart => exact ⟨0, Nat.zero_le _, rfl, rfl, World.ownsRow_nil _ _ _ _, Below.refl _ _⟩
  case round =>
    obtain ⟨k, hk, rfl, hal, hown, hb⟩ := hrel
    have Hal : Hid ((s.data.toList.take k).all hlf = true) := hal
    clear hal
    have hbs := hb.size
    by_cases hlt : k < s.size
    · cases hp : hlf s[k]
      · have HE : Hid (packR 3 s.data.toList = ([], 11)) := by
          have h1 := fuL_hit hlf s.data.toList k (by rw [HL.out]; exact hlt) Hal.out hp
          exact p_char 3 _ (by omega) (by rw [fit3, h1, HL.out]; exact hlt)
        have Hp : Hid (hlf s[k] = false) := hp
        clear hp
        go_wp2_with fail
        refine (half_no s[k] _ Hp.out).mono ?_
        rintro e w' ⟨rfl, rfl⟩
        go_wp2
        go_ret2
        exact ⟨by rw [HE.out]; rfl, hb⟩
      · have hvb := (hv_bd _ hp).1
        have Hp : Hid (hlf s[k] = true) := hp
        clear hp
        go_wp2_with fail
        refine (half_yes s[k] _ Hp.out).mono ?_
        rintro e w' ⟨rfl, rfl⟩
        go_wp2_with (at_builtin; refine wpList_append_lies _ rfl _ _ _ rfl w.heap.size 3 k0 _ 1 8 Tryd.underlying58 ki kz0 kz1 kz2 rfl (by omega) u6 (k) _ rfl (hown.alloc _) ⟨w'.heap.size, 0, none⟩ 1 1 _ rfl (by rfl) (World.news_of_block (heap_alloc_new w' _)) (by simp [Value.oneCell']) (by omega) (by unfold maxLen; omega) (by omega) (by simp; omega) (w'.heap.size + 1) (by simp) ?_)
        intro g cap w1 hown1 hgrow hat hltg
        go_wp2
        go_roundw
        case rel => exact ⟨k + 1, by omega, by go_num, all_snoc hlf s k hlt Hal.out Hp.out, owns_len hown1 rfl (by omega) (by rw [take_snoc s k hlt]; simp [iv]), below_app0 hb hbs hown hgrow⟩
        case measure => simp [intOf]; omega
    · have HA : Hid (s.data.toList.all hlf = true) := by have := Hal.out; rwa [take_all s k (by omega)] at this
      have HE : Hid (packR 3 s.data.toList = (packL 3 s.data.toList, 0)) := p_yes 3 _ (by omega) (by have := fuL_all hlf _ HA.out; rw [fit3]; omega)
      have hks : k = s.size := by omega
      have hown' := owns_len hown rfl (show k = s.size by omega) (by rw [take_all s k (by omega)])
      clear hown Hal
      have HB : Hid (∀ x ∈ (s.data.toList.map hv ++ [15] : List Int), 0 ≤ x ∧ x < 16) := by
        show ∀ x ∈ _, _
        intro x hx
        simp only [List.mem_append, List.mem_singleton, List.mem_map] at hx
        rcases hx with ⟨c, hc, rfl⟩ | rfl
        · exact hv_bd c (List.all_eq_true.1 HA.out c hc)
        · omega
      obtain ⟨ao, cap, hv0, hcells⟩ := own_view hown'
      subst hv0
      clear hcells
      go_wp2_with (at_builtin; refine wpList_append_lies _ rfl _ _ _ rfl w.heap.size 3 k0 _ 1 8 Tryd.underlying58 ki kz0 kz1 kz2 rfl (by omega) (.slice ao s.size cap) s.size _ rfl (hown'.alloc _) ⟨wr.heap.size, 0, none⟩ 1 1 _ rfl (by rfl) (World.news_of_block (heap_alloc_new wr _)) (by simp [Value.oneCell']) (by omega) (by unfold maxLen; omega) (by omega) (by simp; omega) (wr.heap.size + 1) (by simp) ?_)
      intro g2 cap2 x1 hown2 hgrow2 hat2 hlt2
      have hbx : Below w.heap.size w x1 := below_app0 hb hbs hown' hgrow2
      obtain ⟨ao2, cap3, hv2, hcells⟩ := own_view hown2
      cases hv2
      have HC : Hid (∀ (j : Nat) u, (iv (s.data.toList.map hv ++ [15]))[j]? = some u → ∃ g, some (⟨g2, 0, none⟩ : Addr) = some ⟨g, 0, none⟩ ∧ g < x1.heap.size ∧ x1.cell? ⟨g, j, none⟩ = some u) := by
        show ∀ _ _, _
        intro j u hu
        exact hcells j u (by rw [iv_append] at hu; exact hu)
      clear hcells
      clear hown' hown2 hgrow2 hb
      have hnl : Hid ((s.data.toList.map hv ++ [15] : List Int).length = s.size + 1) := by show _ = _; simp
      go_wp2
      go_loopw [9, 10] (fun v i wr => ∃ j : Nat, j ≤ s.size + 1 ∧ j % 2 = 0 ∧ i = .int .i64 j ∧ wr.ownsRow x1.heap.size 5 1 v (j / 2) (bs (joinI ((s.data.toList.map hv ++ [15] : List Int).take j))) ∧ Below x1.heap.size x1 wr) (fun _ i _ => s.size + 1 - (intOf i).toNat)
      case atStart => exact ⟨0, Nat.zero_le _, rfl, rfl, World.ownsRow_nil _ _ _ _, Below.refl _ _⟩
      case round =>
        obtain ⟨j, hj, hje, rfl, hown, hbb⟩ := hrel
        have hbbs := hbb.size
        by_cases hlt : j < s.size + 1
        · have hlt1 : j + 1 < s.size + 1 := by omega
          obtain ⟨a, za⟩ : ∃ a, (s.data.toList.map hv ++ [15] : List Int)[j]'(by rw [hnl.out]; exact hlt) = a := ⟨_, rfl⟩
          have Ha : Hid ((s.data.toList.map hv ++ [15] : List Int)[j]'(by rw [hnl.out]; exact hlt) = a) := za
          clear za
          obtain ⟨b, zb⟩ : ∃ b, (s.data.toList.map hv ++ [15] : List Int)[j + 1]'(by rw [hnl.out]; exact hlt1) = b := ⟨_, rfl⟩
          have Hb : Hid ((s.data.toList.map hv ++ [15] : List Int)[j + 1]'(by rw [hnl.out]; exact hlt1) = b) := zb
          clear zb
          have ba : 0 ≤ a ∧ a < 16 := by rw [← Ha.out]; exact lt_of_all _ HB.out _ _
          have bb : 0 ≤ b ∧ b < 16 := by rw [← Hb.out]; exact lt_of_all _ HB.out _ _
          obtain ⟨g, hg, hgl, hca⟩ := HC.out j (.int .i64 a) (by rw [← Ha.out]; exact iv_get _ _ (by rw [hnl.out]; exact hlt))
          obtain ⟨g', hg', hgl', hcb⟩ := HC.out (j + 1) (.int .i64 b) (by rw [← Hb.out]; exact iv_get _ _ (by rw [hnl.out]; exact hlt1))
          cases hg
          cases hg'
          have ca : wr.cell? ⟨_, j, none⟩ = some (.int .i64 a) := (hbb.cell (p := ⟨_, j, none⟩) hgl).trans hca
          have cb : wr.cell? ⟨_, j + 1, none⟩ = some (.int .i64 b) := (hbb.cell (p := ⟨_, j + 1, none⟩) hgl).trans hcb
          clear hca hcb
          have ag : u9.ownBlock ≠ some g2 := fun e => by have := own_ge hown _ e; omega
          have glt : g2 < wr.heap.size := by omega
          have h1 : (0 : Int) ≤ (j : Int) := by omega
          have h2 : (j : Int) < ((s.size + 1 : Nat) : Int) := by omega
          have h3 : (j : Int) + 1 < ((s.size + 1 : Nat) : Int) := by omega
          have h5 : (j : Int) < (s.size : Int) := by omega
          have h4 : (0 : Int) ≤ (j : Int) + 1 := by omega
          have hw1 : IntKind.i64.wrap ((j : Int) + 1) = (j : Int) + 1 := wrap_i64 _ (by omega) (by omega)
          go_wp2_with fail
          go_region_held3 (fun w' => w'.cell? ⟨g2, j, none⟩ = some (.int .i64 a) ∧ w'.cell? ⟨g2, j + 1, none⟩ = some (.int .i64 b))
            (first
              | go_keep
              | (go_split_ands
                 refine ⟨?_, ?_⟩
                 · (rw [hgrow.cell_far _ (by simp; omega) (Ne.symm ag)]; assumption)
                 · (rw [hgrow.cell_far _ (by simp; omega) (Ne.symm ag)]; assumption)))
            ((refine step_append_lies _ (by rfl) _ _ _ (by rfl) x1.heap.size 5 i0 _ 1 1 Tryd.underlying44 hi hz0 hz1 hz2 rfl (by omega) u9 (j / 2) _ (by rfl) ((hown.alloc _).drew) ⟨wr.heap.size, 0, none⟩ 1 1 _ (by rfl) (by rfl) (World.news_of_block (heap_alloc_new wr _)) (by simp [Value.oneCell']) (by omega) (by unfold maxLen; omega) (by omega) (by simp; omega) (wr.heap.size + 1) (by simp) ?_; intro gg cap4 w1 hown1 hgrow hat hltg))
          all_goals
            go_wp2
            go_roundw
            case rel => exact ⟨j + 2, by omega, by omega, by go_num, owns_len hown1 rfl (by omega) (by rw [take_two_i _ j (by rw [hnl.out]; exact hlt1), joinI_two _ _ _ (by rw [List.length_take_of_le (by rw [hnl.out]; exact hj)]; exact hje), bs_append, Ha.out, Hb.out]; simp [bs, add16 a b ba.1 ba.2 bb.1 bb.2]), below_app hbb hbbs hown hgrow⟩
            case measure => simp [intOf]; omega
        · have hcv := run_str (P := Tryd.prog) (src := 44) (dst := 9) Tryd.underlying44 Tryd.underlying5 Tryd.underlying9 hown
          have HX : Hid (joinI ((s.data.toList.map hv ++ [15] : List Int).take j) = packL 3 s.data.toList) := by
            show _ = _
            rw [List.take_of_length_le (by rw [hnl.out]; omega)]
            exact (by rw [joinI_odd _ (by rw [HL.out]; exact hodd)]; simp [packL])
          go_wp2
          go_ret2
          exact ⟨by rw [HE.out]; exact ret_ss (by rw [HX.out]) rfl, hbx.trans (hbb.mono hbx.size)⟩

set_option maxRecDepth 100000 in
set_option maxHeartbeats 3200000 in
theorem hlv3even (s : ByteArray) (w : World) (hs : s.size ≤ 4194300) (hodd : ¬ s.size % 2 = 1) : Calls Tryd.prog 27 #[.int .i64 3, .string s] w (Post 3 s w) := by
  show Calls _ _ _ _ fun e w' => e = _ ∧ _
  obtain ⟨i0, hi, hz0, hz1, hz2⟩ := info_parts info
  obtain ⟨k0, ki, kz0, kz1, kz2⟩ := info_parts infoI
  have HL : Hid (s.data.toList.length = s.size) := len_eq s
  have hev : (((s.size : Int) % 2) == 1) = false := by simp; omega
  go_enter Tryd.func27, Tryd.ntmps27
  go_wp2
  go_loopw [6, 7] (fun v i wr => ∃ k : Nat, k ≤ s.size ∧ i = .int .i64 k ∧ (s.data.toList.take k).all hlf = true ∧ wr.ownsRow w.heap.size 3 1 v (k) (iv ((s.data.toList.take k).map hv)) ∧ Below w.heap.size w wr) (fun _ i _ => s.size - (intOf i).toNat)
  case atStart => exact ⟨0, Nat.zero_le _, rfl, rfl, World.ownsRow_nil _ _ _ _, Below.refl _ _⟩
  case round =>
    obtain ⟨k, hk, rfl, hal, hown, hb⟩ := hrel
    have Hal : Hid ((s.data.toList.take k).all hlf = true) := hal
    clear hal
    have hbs := hb.size
    by_cases hlt : k < s.size
    · cases hp : hlf s[k]
      · have HE : Hid (packR 3 s.data.toList = ([], 11)) := by
          have h1 := fuL_hit hlf s.data.toList k (by rw [HL.out]; exact hlt) Hal.out hp
          exact p_char 3 _ (by omega) (by rw [fit3, h1, HL.out]; exact hlt)
        have Hp : Hid (hlf s[k] = false) := hp
        clear hp
        go_wp2_with fail
        refine (half_no s[k] _ Hp.out).mono ?_
        rintro e w' ⟨rfl, rfl⟩
        go_wp2
        go_ret2
        exact ⟨by rw [HE.out]; rfl, hb⟩
      · have hvb := (hv_bd _ hp).1
        have Hp : Hid (hlf s[k] = true) := hp
        clear hp
        go_wp2_with fail
        refine (half_yes s[k] _ Hp.out).mono ?_
        rintro e w' ⟨rfl, rfl⟩
        go_wp2_with (at_builtin; refine wpList_append_lies _ rfl _ _ _ rfl w.heap.size 3 k0 _ 1 8 Tryd.underlying58 ki kz0 kz1 kz2 rfl (by omega) u6 (k) _ rfl (hown.alloc _) ⟨w'.heap.size, 0, none⟩ 1 1 _ rfl (by rfl) (World.news_of_block (heap_alloc_new w' _)) (by simp [Value.oneCell']) (by omega) (by unfold maxLen; omega) (by omega) (by simp; omega) (w'.heap.size + 1) (by simp) ?_)
        intro g cap w1 hown1 hgrow hat hltg
        go_wp2
        go_roundw
        case rel => exact ⟨k + 1, by omega, by go_num, all_snoc hlf s k hlt Hal.out Hp.out, owns_len hown1 rfl (by omega) (by rw [take_snoc s k hlt]; simp [iv]), below_app0 hb hbs hown hgrow⟩
        case measure => simp [intOf]; omega
    · have HA : Hid (s.data.toList.all hlf = true) := by have := Hal.out; rwa [take_all s k (by omega)] at this
      have HE : Hid (packR 3 s.data.toList = (packL 3 s.data.toList, 0)) := p_yes 3 _ (by omega) (by have := fuL_all hlf _ HA.out; rw [fit3]; omega)
      have hks : k = s.size := by omega
      obtain ⟨x1, hxw⟩ : ∃ x1 : World, x1 = wr := ⟨wr, rfl⟩
      subst hxw
      have hown' := owns_len hown rfl (show k = s.size by omega) (by rw [take_all s k (by omega)])
      clear hown Hal
      have HB : Hid (∀ x ∈ (s.data.toList.map hv : List Int), 0 ≤ x ∧ x < 16) := by
        show ∀ x ∈ _, _
        intro x hx
        simp only [List.mem_map] at hx
        obtain ⟨c, hc, rfl⟩ := hx
        exact hv_bd c (List.all_eq_true.1 HA.out c hc)
      obtain ⟨ao, cap, hv0, hcells⟩ := own_view hown'
      subst hv0
      have HC : Hid (∀ (j : Nat) u, (iv (s.data.toList.map hv))[j]? = some u → ∃ g, ao = some ⟨g, 0, none⟩ ∧ g < x1.heap.size ∧ x1.cell? ⟨g, j, none⟩ = some u) := hcells
      clear hcells
      have hbx := hb
      clear hb hown'
      have hnl : Hid ((s.data.toList.map hv : List Int).length = s.size) := by show _ = _; simp
      go_wp2
      go_loopw [9, 10] (fun v i wr => ∃ j : Nat, j ≤ s.size ∧ j % 2 = 0 ∧ i = .int .i64 j ∧ wr.ownsRow x1.heap.size 5 1 v (j / 2) (bs (joinI ((s.data.toList.map hv : List Int).take j))) ∧ Below x1.heap.size x1 wr) (fun _ i _ => s.size - (intOf i).toNat)
      case atStart => exact ⟨0, Nat.zero_le _, rfl, rfl, World.ownsRow_nil _ _ _ _, Below.refl _ _⟩
      case round =>
        obtain ⟨j, hj, hje, rfl, hown, hbb⟩ := hrel
        have hbbs := hbb.size
        by_cases hlt : j < s.size
        · have hlt1 : j + 1 < s.size := by omega
          obtain ⟨a, za⟩ : ∃ a, (s.data.toList.map hv : List Int)[j]'(by rw [hnl.out]; exact hlt) = a := ⟨_, rfl⟩
          have Ha : Hid ((s.data.toList.map hv : List Int)[j]'(by rw [hnl.out]; exact hlt) = a) := za
          clear za
          obtain ⟨b, zb⟩ : ∃ b, (s.data.toList.map hv : List Int)[j + 1]'(by rw [hnl.out]; exact hlt1) = b := ⟨_, rfl⟩
          have Hb : Hid ((s.data.toList.map hv : List Int)[j + 1]'(by rw [hnl.out]; exact hlt1) = b) := zb
          clear zb
          have ba : 0 ≤ a ∧ a < 16 := by rw [← Ha.out]; exact lt_of_all _ HB.out _ _
          have bb : 0 ≤ b ∧ b < 16 := by rw [← Hb.out]; exact lt_of_all _ HB.out _ _
          obtain ⟨g, hg, hgl, hca⟩ := HC.out j (.int .i64 a) (by rw [← Ha.out]; exact iv_get _ _ (by rw [hnl.out]; exact hlt))
          obtain ⟨g', hg', hgl', hcb⟩ := HC.out (j + 1) (.int .i64 b) (by rw [← Hb.out]; exact iv_get _ _ (by rw [hnl.out]; exact hlt1))
          subst hg
          cases hg'
          have ca : wr.cell? ⟨_, j, none⟩ = some (.int .i64 a) := (hbb.cell (p := ⟨_, j, none⟩) hgl).trans hca
          have cb : wr.cell? ⟨_, j + 1, none⟩ = some (.int .i64 b) := (hbb.cell (p := ⟨_, j + 1, none⟩) hgl).trans hcb
          clear hca hcb
          have ag : u9.ownBlock ≠ some g := fun e => by have := own_ge hown _ e; omega
          have glt : g < wr.heap.size := by omega
          have h1 : (0 : Int) ≤ (j : Int) := by omega
          have h2 : (j : Int) < ((s.size : Nat) : Int) := by omega
          have h3 : (j : Int) + 1 < ((s.size : Nat) : Int) := by omega
          have h4 : (0 : Int) ≤ (j : Int) + 1 := by omega
          have hw1 : IntKind.i64.wrap ((j : Int) + 1) = (j : Int) + 1 := wrap_i64 _ (by omega) (by omega)
          go_wp2_with fail
          go_region_held3 (fun w' => w'.cell? ⟨g, j, none⟩ = some (.int .i64 a) ∧ w'.cell? ⟨g, j + 1, none⟩ = some (.int .i64 b))
            (first
              | go_keep
              | (go_split_ands
                 refine ⟨?_, ?_⟩
                 · (rw [hgrow.cell_far _ (by simp; omega) (Ne.symm ag)]; assumption)
                 · (rw [hgrow.cell_far _ (by simp; omega) (Ne.symm ag)]; assumption)))
            ((refine step_append_lies _ (by rfl) _ _ _ (by rfl) x1.heap.size 5 i0 _ 1 1 Tryd.underlying44 hi hz0 hz1 hz2 rfl (by omega) u9 (j / 2) _ (by rfl) ((hown.alloc _).drew) ⟨wr.heap.size, 0, none⟩ 1 1 _ (by rfl) (by rfl) (World.news_of_block (heap_alloc_new wr _)) (by simp [Value.oneCell']) (by omega) (by unfold maxLen; omega) (by omega) (by simp; omega) (wr.heap.size + 1) (by simp) ?_; intro gg cap4 w1 hown1 hgrow hat hltg))
          all_goals
            go_wp2
            go_roundw
            case rel => exact ⟨j + 2, by omega, by omega, by go_num, owns_len hown1 rfl (by omega) (by rw [take_two_i _ j (by rw [hnl.out]; exact hlt1), joinI_two _ _ _ (by rw [List.length_take_of_le (by rw [hnl.out]; exact hj)]; exact hje), bs_append, Ha.out, Hb.out]; simp [bs, add16 a b ba.1 ba.2 bb.1 bb.2]), below_app hbb hbbs hown hgrow⟩
            case measure => simp [intOf]; omega
        · have hcv := run_str (P := Tryd.prog) (src := 44) (dst := 9) Tryd.underlying44 Tryd.underlying5 Tryd.underlying9 hown
          have HX : Hid (joinI ((s.data.toList.map hv : List Int).take j) = packL 3 s.data.toList) := by
            show _ = _
            rw [List.take_of_length_le (by rw [hnl.out]; omega)]
            exact (by rw [joinI_even _ (by rw [HL.out]; omega)]; simp [packL])
          go_wp2
          go_ret2
          exact ⟨by rw [HE.out]; exact ret_ss (by rw [HX.out]) rfl, hbx.trans (hbb.mono hbx.size)⟩
end Go.Proofs.YtekbonfaaofdiaaDoor.Hlv
