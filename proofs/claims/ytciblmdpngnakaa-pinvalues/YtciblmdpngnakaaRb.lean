/- The document's rows of bits: take, sum, left. -/
import Derived.Test.YtciblmdpngnakaaPm
import Derived.Test.YtciblmdpngnakaaLib0
namespace Go.Proofs.Ytciblmdpngnakaa.Rb
set_option linter.unusedVariables false
open Go.RowKit Pla Cb Sm
open Lib0 (owns_len own_ge below_app below_app0)
theorem infoI : (Try.prog.info? 3).map (fun i => (i.zero, i.size, i.bytes)) = some (some (.int .i64 0), 1, 8) := by kernel_rfl
/-- numbers as cells -/
def nv (l : List Nat) : List Value := l.map fun n : Nat => Value.int .i64 ((n : Nat) : Int)
theorem nv_len (l : List Nat) : (nv l).length = l.length := by simp [nv]
theorem nv_get (l : List Nat) (i : Nat) (h : i < l.length) : (nv l)[i]? = some (.int .i64 ((l[i] : Nat) : Int)) := by simp [nv, h]
theorem nv_snoc (l : List Nat) (n : Nat) : nv (l ++ [n]) = nv l ++ [.int .i64 ((n : Nat) : Int)] := by simp [nv]
theorem nv_take (l : List Nat) (k : Nat) (h : k < l.length) : nv (l.take (k + 1)) = nv (l.take k) ++ [.int .i64 ((l[k] : Nat) : Int)] := by
  rw [List.take_succ_eq_append_getElem h, nv_snoc]
theorem range_cell {w : World} {g o : Nat} {l : List Nat} (h : w.rangeAt g o (nv l)) (i : Nat) (hi : i < l.length) : w.cell? ⟨g, o + i, none⟩ = some (.int .i64 ((l[i] : Nat) : Int)) := h i _ (nv_get l i hi)
theorem own_range {w : World} {B e n : Nat} {v : Value} {l : List Nat} (h : w.ownsRow B e 1 v n (nv l)) (hn : 0 < n) : ∃ g cap, v = .slice (some ⟨g, 0, none⟩) n cap ∧ B ≤ g ∧ g < w.heap.size ∧ n ≤ cap ∧ w.rangeAt g 0 (nv l) := by
  rcases h.2 with ⟨rfl, h0⟩ | ⟨g, cap, cur, rfl, hb, hg, hc, hc2, hsz, htk⟩
  · omega
  · refine ⟨g, cap, rfl, hb, (Array.getElem?_eq_some_iff.1 hg).1, hc, ?_⟩
    intro j v hv
    rw [cell_of_row w g _ _ _ (0, 0) hg, Nat.zero_add]
    rw [← htk] at hv
    rw [List.getElem?_take] at hv
    split at hv
    · rw [← Array.getElem?_toList]; exact hv
    · cases hv
/-- what comes back: a new row -/
def New (w : World) (l : List Nat) (n : Nat) : Ending → World → Prop := fun e w' => ∃ g cap, e = .returned (.slice (some ⟨g, 0, none⟩) n cap) ∧ w.heap.size ≤ g ∧ g < w'.heap.size ∧ n ≤ cap ∧ w'.rangeAt g 0 (nv l) ∧ Below w.heap.size w w'
def tkN (t l : List Nat) : List Nat := t.map fun n => l.getD (n - 1) 0
set_option maxRecDepth 100000 in
set_option maxHeartbeats 1600000 in
theorem take_ref (t l : List Nat) (gt gl ol nt nl ct cl : Nat) (hnt : Hid (t.length = nt)) (hnl : Hid (l.length = nl)) (h0 : 0 < nt) (h1 : nt ≤ 100) (h2 : nl ≤ 100) (ht : Hid (∀ n ∈ t, 1 ≤ n ∧ n ≤ nl)) (w : World) (hgt : gt < w.heap.size) (hgl : gl < w.heap.size) (hrt : w.rangeAt gt 0 (nv t)) (hrl : w.rangeAt gl ol (nv l)) :
    Calls Try.prog 97 #[.slice (some ⟨gt, 0, none⟩) nt ct, .slice (some ⟨gl, ol, none⟩) nl cl] w (New w (tkN t l) nt) := by
  obtain ⟨i0, hi, hz0, hz1, hz2⟩ := info_parts infoI
  go_enter Try.func97, Try.ntmps97
  go_wp2
  go_loopw [5, 6] (fun v c wr => ∃ k : Nat, k ≤ nt ∧ c = .int .i64 (k : Int) ∧ wr.ownsRow w.heap.size 3 1 v k (nv ((tkN t l).take k)) ∧ Below w.heap.size w wr) (fun _ c _ => nt + 1 - (intOf c).toNat)
  case atStart => exact ⟨0, Nat.zero_le _, rfl, World.ownsRow_nil _ _ _ _, Below.refl _ _⟩
  case round =>
    obtain ⟨k, hk, rfl, hown, hbw⟩ := hrel
    have hbs := hbw.size
    by_cases hlt : k < nt
    · have q0 : (0 : Int) ≤ (k : Int) := by omega
      have q1 : (k : Int) < (nt : Int) := by omega
      have hkt : k < t.length := by rw [hnt.out]; exact hlt
      have hm := ht.out t[k] (List.getElem_mem hkt)
      have hml : t[k] - 1 < l.length := by rw [hnl.out]; omega
      have c1 := range_cell (range_keep hbw hgt hrt) k hkt
      rw [Nat.zero_add] at c1
      have c2 := range_cell (range_keep hbw hgl hrl) (t[k] - 1) hml
      have HN : Hid (nv ((tkN t l).take (k + 1)) = nv ((tkN t l).take k) ++ [.int .i64 ((l[t[k] - 1] : Nat) : Int)]) := (by
        rw [nv_take _ k (by simp [tkN]; exact hkt)]
        simp [tkN, hml] : nv ((tkN t l).take (k + 1)) = nv ((tkN t l).take k) ++ [.int .i64 ((l[t[k] - 1] : Nat) : Int)])
      generalize l[t[k] - 1] = x at *
      generalize hmm : t[k] = m at *
      have i1 : (1 : Int) ≤ (m : Int) := by omega
      have i2 : (m : Int) - 1 < (nl : Int) := by omega
      have i3 : (0 : Int) ≤ (m : Int) - 1 := by omega
      have i4 : (m : Int) ≤ 100 := by omega
      have t1 : ((m : Int) - 1).toNat = m - 1 := by omega
      clear hnt hnl ht hrt hrl hkt hmm hml hm
      go_wp2_with (at_builtin; refine wpList_append_lies _ rfl _ _ _ rfl w.heap.size 3 i0 _ 1 8 Try.underlying58 hi hz0 hz1 hz2 rfl (by omega) _ k _ rfl (hown.alloc _) ⟨wr.heap.size, 0, none⟩ 1 1 _ rfl (by rfl) (World.news_of_block (heap_alloc_new wr _)) (by simp [Value.oneCell']) (by omega) (by unfold maxLen; omega) (by omega) (by first | omega | (simp <;> omega)) (wr.heap.size + 1) (by simp) ?_; intro gg cap w1 hown1 hgrow hat hlt1)
      exact ⟨⟨k + 1, hlt, by simp, owns_len hown1 rfl rfl HN.out.symm, below_app0 hbw hbs hown hgrow⟩, by simp only [intOf]; omega⟩
    · obtain rfl : k = nt := by omega
      have q1 : ¬ (k : Int) < (k : Int) := by omega
      rw [List.take_of_length_le (by simp [tkN]; exact Nat.le_of_eq hnt.out)] at hown
      obtain ⟨g, cap, rfl, hB, hg, hcap, hr⟩ := own_range hown h0
      clear hnt hnl ht hrt hrl
      go_wp2
      go_ret
      exact ⟨g, cap, rfl, hB, hg, hcap, hr, hbw⟩
/-- bits as numbers -/
def nb (b : List Bool) : List Nat := b.map Bool.toNat
theorem nb_len (b : List Bool) : (nb b).length = b.length := by simp [nb]
theorem nb_get (b : List Bool) (i : Nat) (h : i < b.length) : (nb b)[i]'(by rw [nb_len]; exact h) = b[i].toNat := by simp [nb]
theorem tkN_nb (t : List Nat) (x : List Bool) : tkN t (nb x) = nb (tk t x) := by
  simp only [tkN, nb, tk, List.map_map]
  apply List.map_congr_left
  intro n _
  simp only [Function.comp, List.getD_eq_getElem?_getD, List.getElem?_map]
  cases x[n - 1]? <;> rfl
theorem toNat_le (b : Bool) : b.toNat ≤ 1 := by cases b <;> decide
theorem sum_bit (x y : Bool) : ((x.toNat : Int) + (y.toNat : Int)) % 2 = ((Bool.xor x y).toNat : Int) := by cases x <;> cases y <;> rfl
set_option maxRecDepth 100000 in
set_option maxHeartbeats 1600000 in
theorem sum_ref (a b : List Bool) (ga oa gb ob n ca cb : Nat) (ha : Hid (a.length = n)) (hb : Hid (b.length = n)) (h0 : 0 < n) (h1 : n ≤ 100) (w : World) (hga : ga < w.heap.size) (hgb : gb < w.heap.size) (hra : w.rangeAt ga oa (nv (nb a))) (hrb : w.rangeAt gb ob (nv (nb b))) :
    Calls Try.prog 101 #[.slice (some ⟨ga, oa, none⟩) n ca, .slice (some ⟨gb, ob, none⟩) n cb] w (New w (nb (xr a b)) n) := by
  obtain ⟨i0, hi, hz0, hz1, hz2⟩ := info_parts infoI
  go_enter Try.func101, Try.ntmps101
  go_wp2
  go_loopw [5, 6] (fun v c wr => ∃ k : Nat, k ≤ n ∧ c = .int .i64 (k : Int) ∧ wr.ownsRow w.heap.size 3 1 v k (nv ((nb (xr a b)).take k)) ∧ Below w.heap.size w wr) (fun _ c _ => n + 1 - (intOf c).toNat)
  case atStart => exact ⟨0, Nat.zero_le _, rfl, World.ownsRow_nil _ _ _ _, Below.refl _ _⟩
  case round =>
    obtain ⟨k, hk, rfl, hown, hbw⟩ := hrel
    have hbs := hbw.size
    have hxl : (nb (xr a b)).length = n := by rw [nb_len, xr_len a b n ha.out hb.out]
    by_cases hlt : k < n
    · have q0 : (0 : Int) ≤ (k : Int) := by omega
      have q1 : (k : Int) < (n : Int) := by omega
      have hka : k < a.length := by rw [ha.out]; exact hlt
      have hkb : k < b.length := by rw [hb.out]; exact hlt
      have KA : Hid (∀ y, Below w.heap.size w y → y.cell? ⟨ga, oa + k, none⟩ = some (.int .i64 (a[k].toNat : Int))) := (fun y hy => by have := range_cell (range_keep hy hga hra) k (by rw [nb_len]; exact hka); rwa [nb_get a k hka] at this : ∀ y, Below w.heap.size w y → y.cell? ⟨ga, oa + k, none⟩ = some (.int .i64 (a[k].toNat : Int)))
      have KB : Hid (∀ y, Below w.heap.size w y → y.cell? ⟨gb, ob + k, none⟩ = some (.int .i64 (b[k].toNat : Int))) := (fun y hy => by have := range_cell (range_keep hy hgb hrb) k (by rw [nb_len]; exact hkb); rwa [nb_get b k hkb] at this : ∀ y, Below w.heap.size w y → y.cell? ⟨gb, ob + k, none⟩ = some (.int .i64 (b[k].toNat : Int)))
      have c1 := KA.out wr hbw
      have c2 := KB.out wr hbw
      have u1 := sum_bit a[k] b[k]
      have l1 := toNat_le a[k]
      have l2 := toNat_le b[k]
      have i1 : (a[k].toNat : Int) ≤ 1 := by omega
      have i2 : (b[k].toNat : Int) ≤ 1 := by omega
      have i3 : (0 : Int) ≤ (a[k].toNat : Int) := by omega
      have i4 : (0 : Int) ≤ (b[k].toNat : Int) := by omega
      have HN : Hid (nv ((nb (xr a b)).take (k + 1)) = nv ((nb (xr a b)).take k) ++ [.int .i64 (((Bool.xor a[k] b[k]).toNat : Nat) : Int)]) := (by
        rw [nv_take _ k (by rw [hxl]; exact hlt), nb_get _ k (by rw [xr_len a b n ha.out hb.out]; exact hlt)]
        simp [xr] : nv ((nb (xr a b)).take (k + 1)) = nv ((nb (xr a b)).take k) ++ [.int .i64 (((Bool.xor a[k] b[k]).toNat : Nat) : Int)])
      generalize (Bool.xor a[k] b[k]).toNat = z at *
      generalize a[k].toNat = x at *
      generalize b[k].toNat = y at *
      have u2 : (IntKind.i64.wrap ((x : Int) + (y : Int))).tmod 2 = (z : Int) := by rw [show IntKind.i64.wrap ((x : Int) + (y : Int)) = (x : Int) + (y : Int) by rw [IntKind.wrap_i64]; omega, Int.tmod_eq_emod_of_nonneg (by omega), u1]
      clear ha hb hra hrb hka hkb hxl l1 l2
      go_wp2_with fail
      go_region_held3 (fun w' => w'.cell? ⟨ga, oa + k, none⟩ = some (.int .i64 (x : Int)) ∧ w'.cell? ⟨gb, ob + k, none⟩ = some (.int .i64 (y : Int))) (first | (refine ⟨?_, ?_⟩ <;> assumption) | go_keep)
        ((refine step_append_lies _ (by rfl) _ _ _ (by rfl) w.heap.size 3 i0 _ 1 8 Try.underlying58 hi hz0 hz1 hz2 rfl (by omega) u5 (k) _ (by rfl) ((hown.alloc _).drew) ⟨wr.heap.size, 0, none⟩ 1 1 _ (by rfl) (by rfl) (World.news_of_block (heap_alloc_new wr _)) (by simp [Value.oneCell']) (by omega) (by unfold maxLen; omega) (by omega) (by simp; omega) (wr.heap.size + 1) (by simp) ?_; intro gg cap w1 hown1 hgrow hat hlt1; have bw1 := below_app hbw hbs hown hgrow; have d1 := KA.out w1 bw1; have d2 := KB.out w1 bw1))
      all_goals
        go_wp2
        go_roundw
        case rel => exact ⟨k + 1, by omega, by go_num, owns_len hown1 rfl (by omega) HN.out.symm, below_app hbw hbs hown hgrow⟩
        case measure => simp [intOf]; omega
    · obtain rfl : k = n := by omega
      rw [List.take_of_length_le (by omega)] at hown
      obtain ⟨g, cap, rfl, hB, hg, hcap, hr⟩ := own_range hown h0
      clear ha hb hra hrb hxl
      go_wp2
      go_ret
      exact ⟨g, cap, rfl, hB, hg, hcap, hr, hbw⟩
theorem rot_get (l : List Bool) (n k : Nat) (hn : n ≤ l.length) (hk : k < l.length) : (rot l n)[k]? = l[(k + n) % l.length]? := by
  unfold rot
  by_cases h : k + n < l.length
  · rw [List.getElem?_append_left (by rw [List.length_drop]; omega), List.getElem?_drop, Nat.mod_eq_of_lt h, Nat.add_comm]
  · rw [List.getElem?_append_right (by rw [List.length_drop]; omega), List.length_drop, List.getElem?_take_of_lt (by omega), show (k + n) % l.length = k - (l.length - n) by rw [Nat.mod_eq_sub_mod (by omega), Nat.mod_eq_of_lt (by omega)]; omega]
set_option maxRecDepth 100000 in
set_option maxHeartbeats 1600000 in
theorem left_ref (l : List Bool) (m gl ol n cl : Nat) (hl : Hid (l.length = n)) (h0 : 0 < n) (h1 : n ≤ 100) (hm : m ≤ 2) (hmn : m ≤ n) (w : World) (hgl : gl < w.heap.size) (hrl : w.rangeAt gl ol (nv (nb l))) :
    Calls Try.prog 111 #[.slice (some ⟨gl, ol, none⟩) n cl, .int .i64 (m : Int)] w (New w (nb (rot l m)) n) := by
  obtain ⟨i0, hi, hz0, hz1, hz2⟩ := info_parts infoI
  have hz : ((n : Int) == 0) = false := beq_eq_false_iff_ne.mpr (by omega)
  have hz' : ((n : Int) == -1) = false := beq_eq_false_iff_ne.mpr (by omega)
  have m0 : (0 : Int) ≤ (m : Int) := by omega
  have m1 : (m : Int) ≤ 2 := by omega
  have n1 : (n : Int) ≤ 100 := by omega
  go_enter Try.func111, Try.ntmps111
  go_wp2
  go_loopw [5, 6] (fun v c wr => ∃ k : Nat, k ≤ n ∧ c = .int .i64 (k : Int) ∧ wr.ownsRow w.heap.size 3 1 v k (nv ((nb (rot l m)).take k)) ∧ Below w.heap.size w wr) (fun _ c _ => n + 1 - (intOf c).toNat)
  case atStart => exact ⟨0, Nat.zero_le _, rfl, World.ownsRow_nil _ _ _ _, Below.refl _ _⟩
  case round =>
    obtain ⟨k, hk, rfl, hown, hbw⟩ := hrel
    have hbs := hbw.size
    have hxl : (nb (rot l m)).length = n := by rw [nb_len, rot_len l m (by rw [hl.out]; exact hmn), hl.out]
    by_cases hlt : k < n
    · have q0 : (0 : Int) ≤ (k : Int) := by omega
      have q1 : (k : Int) < (n : Int) := by omega
      have hj : (k + m) % n < l.length := by rw [hl.out]; exact Nat.mod_lt _ h0
      have c1 := range_cell (range_keep hbw hgl hrl) ((k + m) % n) (by rw [nb_len]; exact hj)
      rw [nb_get l _ hj] at c1
      have HN : Hid (nv ((nb (rot l m)).take (k + 1)) = nv ((nb (rot l m)).take k) ++ [.int .i64 ((l[(k + m) % n].toNat : Nat) : Int)]) := (by
        have hk1 : k < (rot l m).length := by rw [nb_len] at hxl; omega
        rw [nv_take _ k (by rw [hxl]; exact hlt), nb_get _ k hk1]
        have e := rot_get l m k (by rw [hl.out]; exact hmn) (by rw [hl.out]; exact hlt)
        rw [hl.out, List.getElem?_eq_getElem hk1, List.getElem?_eq_getElem hj] at e
        rw [Option.some.inj e] : nv ((nb (rot l m)).take (k + 1)) = nv ((nb (rot l m)).take k) ++ [.int .i64 ((l[(k + m) % n].toNat : Nat) : Int)])
      generalize l[(k + m) % n].toNat = x at *
      have e1 : ((k : Int) + (m : Int)) % (n : Int) = (((k + m) % n : Nat) : Int) := by simp
      have e2 : ((k : Int) + (m : Int)).tmod (n : Int) = (((k + m) % n : Nat) : Int) := by rw [Int.tmod_eq_emod_of_nonneg (by omega), e1]
      have e3 : (((k + m) % n : Nat) : Int) < (n : Int) := by have := Nat.mod_lt (k + m) h0; omega
      generalize (k + m) % n = r at *
      have e4 : (0 : Int) ≤ (r : Int) := by omega
      clear hl hrl hj hxl
      go_wp2_with (at_builtin; refine wpList_append_lies _ rfl _ _ _ rfl w.heap.size 3 i0 _ 1 8 Try.underlying58 hi hz0 hz1 hz2 rfl (by omega) _ (k) _ rfl (hown.alloc _) ⟨wr.heap.size, 0, none⟩ 1 1 _ rfl (by rfl) (World.news_of_block (heap_alloc_new wr _)) (by simp [Value.oneCell']) (by omega) (by unfold maxLen; omega) (by omega) (by first | omega | (simp <;> omega)) (wr.heap.size + 1) (by simp) ?_; intro gg cap w1 hown1 hgrow hat hlt1)
      exact ⟨⟨k + 1, hlt, by simp, owns_len hown1 rfl rfl HN.out.symm, below_app0 hbw hbs hown hgrow⟩, by simp only [intOf]; omega⟩
    · obtain rfl : k = n := by omega
      rw [List.take_of_length_le (by omega)] at hown
      obtain ⟨g, cap, rfl, hB, hg, hcap, hr⟩ := own_range hown h0
      clear hl hrl hxl
      go_wp2
      go_ret
      exact ⟨g, cap, rfl, hB, hg, hcap, hr, hbw⟩
end Go.Proofs.Ytciblmdpngnakaa.Rb
