/- the law's made: a journal of entries, and how many bytes there are behind each. -/
import Derived.Test.YtabmpngliphdpaaDoorLb
namespace Go.Proofs.YtabmpngliphdpaaDoor.Lc
set_option linter.unusedVariables false
set_option linter.unusedSimpArgs false
open Go.RowKit Go.Shelf Go.Conc Lib0 Kb Ja Bj Ji Jj Ka Jn Kd Ke Kf Kg Km Ko La Lb
attribute [local go_sem] Oper.semAt_some
abbrev tI : TypeId := 3
def posV (xs : List En) (n : Nat) : List Value := (List.range n).map fun k => Value.int .i64 (pos xs k : Int)
theorem posV_succ (xs : List En) (n : Nat) : posV xs (n + 1) = posV xs n ++ [.int .i64 (pos xs n : Int)] := by
  unfold posV; rw [List.range_succ, List.map_append]; rfl
theorem posV_len (xs : List En) (n : Nat) : (posV xs n).length = n := by simp [posV]
theorem pos_zero (xs : List En) : pos xs 0 = 0 := by simp [pos, jbF]
theorem pos_le {xs : List En} (hg : ∀ x ∈ xs, Ko.Good x) : ∀ K, K ≤ xs.length → pos xs K ≤ K * 10000012
  | 0, _ => Nat.le_trans (Nat.le_of_eq (pos_zero xs)) (Nat.zero_le _)
  | K + 1, h => by
    have h1 := pos_le hg K (by omega)
    have h2 : xs[K].body.size ≤ 10000000 := (hg _ (List.getElem_mem (by omega))).2
    rw [pos_succ xs K (by omega)]
    omega
theorem row_ne {w : World} {B B' e e' s s' n n' : Nat} {v v' : Value} {xs xs' : List Value} (h : w.ownsRow B e s v n xs) (h' : w.ownsRowF B' e' s' v' n' xs') (he : e ≠ e') : ∀ p, v.ownBlock = some p → v'.ownBlock ≠ some p := by
  intro p hp hp'
  rcases h.2 with ⟨rfl, _⟩ | ⟨g, cap, cur, rfl, _, hg, _⟩
  · cases hp
  · rcases h'.2 with ⟨rfl, _⟩ | ⟨g', cap', cur', fz, rfl, _, hg', _⟩
    · cases hp'
    · cases hp
      cases hp'
      rw [hg] at hg'
      cases hg'
      exact he rfl
theorem row_at {w : World} {B e s n : Nat} {v : Value} {xs : List Value} (h : w.ownsRow B e s v n xs) {g : Nat} {c : Array Value} {t : TypeId} (hg : w.heap[g]? = some (.cells c t (0, 0))) (he : e ≠ t) : v.ownBlock ≠ some g := by
  intro hp
  rcases h.2 with ⟨rfl, _⟩ | ⟨g', cap, cur, rfl, _, hg', _⟩
  · cases hp
  · cases hp
    rw [hg] at hg'
    cases hg'
    exact he rfl
theorem ends_fj {a b : World} {B B' jg n : Nat} {pj vj ev : Value} {l : List UInt8} {m : Int} {xs : List Value} (h : a.ownsRow B' tI 1 ev n xs) (hj : Jo a B jg pj vj l m) (f : Fj jg vj a b) : b.ownsRow B' tI 1 ev n xs :=
  Bd.owns_keep h fun p hp => f.block p (h.lt p hp).2 (fun e => row_at h hj.row (by decide) (e ▸ hp)) (row_ne h hj.own (by decide) p hp)
theorem jo_grown {a b : World} {B B' jg n : Nat} {pj vj ev : Value} {l : List UInt8} {m : Int} {xs : List Value} (h : a.ownsRow B' tI 1 ev n xs) (hj : Jo a B jg pj vj l m) (f : a.grownBy b ev.ownBlock) : Jo b B jg pj vj l m :=
  ⟨(f.block jg hj.lt (fun e => row_at h hj.row (by decide) e.symm)).trans hj.row, hj.addr, ownF_keep hj.own fun p hp => f.block p (hj.own.lt p hp).2 (fun e => row_ne h hj.own (by decide) p e.symm hp), hj.base, hj.empty⟩
theorem infoI3 : (Tryd.prog.info? tI).map (fun i => (i.zero, i.size, i.bytes)) = some (some (.int .i64 0), 1, 8) := by kernel_rfl
theorem cell_one (w : World) (t : TypeId) (x : Value) : ∀ j u, [x][j]? = some u → (w.alloc (.cells #[x] t)).cell? ((⟨w.heap.size, 0, none⟩ : Addr).add j) = some u := by
  intro j u hu
  cases j with
  | zero =>
    have h1 := h1_0 w (.cells #[x] t)
    simp only [List.getElem?_cons_zero, Option.some.injEq] at hu
    subst hu
    show (match (w.alloc (.cells #[x] t)).heap[w.heap.size]? with | some (.cells c _ _) => c[0]? | _ => none) = some x
    rw [h1]; rfl
  | succ j => simp at hu
set_option maxRecDepth 100000 in
set_option maxHeartbeats 1600000 in
theorem made_any (w : World) (hL : Hal w) (v : Value) (Es : List EV) (xs : List En) (hxs : Es.map (·.1) = xs) (hv : RowE w v Es) (hg : ∀ e ∈ Es, Ko.Good e.1) (hN : Es.length ≤ 40) :
    Calls Tryd.prog 29 #[v] w fun e w' => ∃ ev pj vj, e = .returned (.tuple #[.pointer (some ⟨w.heap.size, 0, none⟩), ev, .bool true]) ∧ Jo w' w.heap.size w.heap.size pj vj (jbF 0 xs) (xs.length : Int) ∧ w'.ownsRow w.heap.size tI 1 ev (xs.length + 1) (posV xs (xs.length + 1)) ∧ Below w.heap.size w w' := by
  obtain ⟨iI, hiI, hI0, hI1, hI2⟩ := info_parts infoI3
  obtain ⟨o, cap, rfl, hc⟩ := hv
  have hxl : xs.length = Es.length := by rw [← hxs, List.length_map]
  have hgx : ∀ x ∈ xs, Ko.Good x := fun x hx => by rw [← hxs] at hx; obtain ⟨e, he, rfl⟩ := List.mem_map.1 hx; exact hg e he
  have hxi : ∀ i (h : i < Es.length), ∃ h' : i < xs.length, xs[i] = Es[i].1 := fun i h => ⟨by omega, by subst hxs; rw [List.getElem_map]⟩
  have HXI : Hid (∀ i (h : i < Es.length), ∃ h' : i < xs.length, xs[i] = Es[i].1) := hxi
  have HGX : Hid ((∀ x ∈ xs, Ko.Good x) ∧ ∀ e ∈ Es, Ko.Good e.1) := ⟨hgx, hg⟩
  obtain ⟨N, HN⟩ : ∃ N, Hid (Es.length = N) := ⟨_, rfl⟩
  rw [HN.out] at hxl hN ⊢
  rw [hxl]
  have HXL : Hid (xs.length = N) := hxl
  have HC : Hid (∀ i (h : i < Es.length), (∃ a : Addr, o = some a ∧ ∀ j u, (ecs Es[i])[j]? = some u → w.cell? ((a.add (i * 5)).add j) = some u) ∧ RowO w Es[i].2 Es[i].1.L) := hc
  have HNB : Hid (N ≤ 40) := hN
  have HL : Hid (Hal w) := hL
  clear hc hN hL hxs hg hxi hgx hxl
  obtain ⟨J, hJ⟩ : ∃ J, w.heap.size = J := ⟨_, rfl⟩
  have HJJ : Hid (w.heap.size = J) := hJ
  go_enter Tryd.func29, Tryd.ntmps29
  go_wp2_with fail
  refine (new_any w).mono ?_
  rintro e y0 ⟨rfl, hj0, hb0⟩
  rw [hJ] at hj0 hb0 ⊢
  have HJ0 : Hid (Jo y0 J J (.pointer none) (.slice none 0 0) [] ((0 : Nat) : Int)) := hj0
  have HB0 : Hid (Below J w y0) := hb0
  obtain ⟨y1, hy1⟩ : ∃ y1, y0.alloc (.cells #[.int .i64 0] tI) = y1 := ⟨_, rfl⟩
  have HY1 : Hid (y0.alloc (.cells #[.int .i64 0] tI) = y1) := hy1
  clear hJ hj0 hb0 hy1
  go_wp2_with (first | (rw [HY1.out]) | fail)
  have HO1 : Hid (y1.ownsRow J tI 1 (.slice (some ⟨y0.heap.size, 0, none⟩) 1 1) 1 (posV xs 1)) := by
    rw [show posV xs 1 = [Value.int .i64 0] by simp [posV, pos_zero]]
    refine ⟨rfl, .inr ⟨y0.heap.size, 1, #[.int .i64 0], rfl, ?_, HY1.out ▸ h1_0 _ _, by omega, by decide, rfl, rfl⟩⟩
    have := HB0.out.size; have := HJJ.out; omega
  have hb0' : Below w.heap.size w y0 := by rw [HJJ.out]; exact HB0.out
  have HB1 : Hid (Below J w y1) := HJJ.out ▸ keepB hb0' (HY1.out ▸ below_one _ _)
  have HJ1 : Hid (Jo y1 J J (.pointer none) (.slice none 0 0) [] ((0 : Nat) : Int)) := HJ0.out.below (HY1.out ▸ below_one _ _)
  clear HJ0 HB0 HY1 hb0'
  go_wp2_with fail
  go_loopw [6, 7] (fun ev iv wr => ∃ i : Nat, iv = .int .i64 (i : Int) ∧ Hid (i ≤ N) ∧ Hid (Below J w wr) ∧ Hid (wr.ownsRow J tI 1 ev (i + 1) (posV xs (i + 1))) ∧ Hid (∃ pj vj, Jo wr J J pj vj (jbF 0 (xs.take i)) (i : Int))) (fun _ iv _ => 41 - (intOf iv).toNat)
  case atStart => exact ⟨0, rfl, Nat.zero_le _, HB1, HO1, ⟨_, _, by rw [List.take_zero]; exact HJ1.out⟩⟩
  case round =>
    obtain ⟨i, rfl, HI, HB, HO, HJ⟩ := hrel
    clear HB1 HO1 HJ1
    by_cases hin : i < N
    · have hiE : i < Es.length := by rw [HN.out]; exact hin
      obtain ⟨⟨a, rfl, hce⟩, hro⟩ := HC.out i hiE
      have hgd := HGX.out.2 _ (List.getElem_mem hiE)
      obtain ⟨hix, hxe⟩ := HXI.out i hiE
      obtain ⟨⟨x, vo⟩, hx⟩ : ∃ e, Es[i] = e := ⟨_, rfl⟩
      rw [hx] at hce hro hgd hxe
      dsimp only at hro hgd hxe
      obtain ⟨ap, hap⟩ : ∃ ap, a.add (i * 5) = ap := ⟨_, rfl⟩
      rw [hap] at hce
      have hcw : ∀ j u, [Value.int .i64 x.k, .int .i64 x.l, .int .i64 x.n, .string x.t, vo][j]? = some u → wr.cell? (ap.add j) = some u := fun j u hu => by
        have h9 := hce j u hu
        have h8 := World.block_lt_of_cell? _ _ h9
        exact (HB.out.cell (by rw [← HJJ.out]; exact h8)).trans h9
      obtain ⟨pj, vj, hj⟩ := HJ.out
      have hbw : Below w.heap.size w wr := by rw [HJJ.out]; exact HB.out
      have hpl := pos_le HGX.out.1 i (by omega)
      have hpl1 := pos_le HGX.out.1 (i + 1) (by omega)
      have hnb := HNB.out
      have hl0 : (jbF 0 (xs.take i)).length = pos xs i := rfl
      have HAPP : Hid (Calls _ _ _ _ _) := append_any hj (Jr.hal_next HL.out hbw) x vo (rowo_below hro hbw) hgd.1 (by omega) (by omega)
      have HJO : Hid (Jo wr J J pj vj (jbF 0 (xs.take i)) (i : Int)) := hj
      have HFT : Hid (x.body.size ≤ 10000000) := hgd.2
      have HST : Hid (jbF 0 (xs.take i) ++ (recB (i + 1) x.body).data.toList = jbF 0 (xs.take (i + 1))) := by
        show _ = _
        rw [List.take_succ_eq_append_getElem hix, jbF_app, List.length_take, Nat.min_eq_left (by omega), hxe, Nat.zero_add]
        simp only [jbF, List.append_nil]; rfl
      have HPL : Hid (pos xs (i + 1) ≤ 400000480 ∧ i < 40) := ⟨by omega, by omega⟩
      have ze : (Tryd.prog.info? tEn).map (·.size) = some [Value.int .i64 x.k, .int .i64 x.l, .int .i64 x.n, .string x.t, vo].length := by show _ = some 5; exact infoEn
      have q1 : (i : Int) < (N : Int) := by omega
      have q3 : (0 : Int) ≤ (i : Int) := by omega
      have HIN : Hid (i < N) := hin
      clear hce hro hgd hxe hx hj hbw hpl hpl1 hnb hl0 hin HJ
      go_wp2_with (first
        | (refine wpList_load_at rfl tEn _ rfl _ rfl [.int .i64 x.k, .int .i64 x.l, .int .i64 x.n, .string x.t, vo] hcw _ Tryd.underlying40 rfl ze ?_)
        | fail)
      refine HAPP.out.mono ?_
      rintro e w2 ⟨-, h2⟩
      obtain ⟨rfl, v2, hj2, hf2, hn2⟩ := h2 HFT.out
      rw [HST.out] at hj2
      have HO2 : Hid (w2.ownsRow J tI 1 u6 (i + 1) (posV xs (i + 1))) := ends_fj HO.out HJO.out hf2
      have HB2 : Hid (Below J w w2) := HB.out.trans (hf2.below HJO.out.base (fun q hq => (HJO.out.own.lt q hq).1) (by have := HB.out.size; have := HJJ.out; omega))
      have HBY : Hid (Calls _ _ _ _ _) := bytes_any hj2 (by have h1 := HPL.out.1; show pos xs (i + 1) ≤ _; omega)
      have hlow : ∀ q, v2.ownBlock = some q → J ≤ q := fun q hq => (hj2.own.lt q hq).1
      have HJ2 : Hid (Jo w2 J J (.pointer (some ⟨J, 0, none⟩)) v2 (jbF 0 (xs.take (i + 1))) ((i + 1 : Nat) : Int) ∧ ∀ q, v2.ownBlock = some q → J ≤ q) := ⟨hj2, hlow⟩
      clear h2 hj2 hf2 hn2 hlow hcw
      go_wp2_with fail
      refine HBY.out.mono ?_
      rintro e w3 ⟨rfl, hj3, hf3⟩
      have HO3 : Hid (w3.ownsRow J tI 1 u6 (i + 1) (posV xs (i + 1))) := ends_fj HO2.out HJ2.out.1 hf3
      have HB3 : Hid (Below J w w3) := HB2.out.trans (hf3.below HJ2.out.1.base HJ2.out.2 (by have := HB2.out.size; have := HJJ.out; omega))
      have HJ3 : Hid (Jo w3 J J (.pointer (some ⟨J, 0, none⟩)) v2 (jbF 0 (xs.take (i + 1))) ((i + 1 : Nat) : Int)) := hj3
      obtain ⟨T, hT⟩ : ∃ T, (⟨(jbF 0 (xs.take (i + 1))).toArray⟩ : ByteArray) = T := ⟨_, rfl⟩
      have hTs : T.size = pos xs (i + 1) := by rw [← hT]; exact string_size
      rw [hT]
      obtain ⟨Z, hZ⟩ : ∃ Z, pos xs (i + 1) = Z := ⟨_, rfl⟩
      rw [hZ] at hTs
      have q4 : (T.size : Int) = (Z : Int) := by omega
      have HZ : Hid (pos xs (i + 1) = Z) := hZ
      have hpl := HPL.out.2
      clear hj3 hf3 hT hTs hZ
      go_wp2_with (first
        | (at_builtin; refine wpList_append_own _ rfl _ _ 69 rfl J tI iI _ 1 8 Tryd.underlying69 hiI hI0 hI1 hI2 rfl (by decide) _ _ _ rfl (HO3.out.alloc _) ⟨w3.heap.size, 0, none⟩ 1 1 [.int .i64 (Z : Int)] rfl rfl (cell_one _ _ _) (by intro u hu; simp at hu; rw [hu]; rfl) (by unfold maxLen; omega) (by omega) (by have := HB3.out.size; have := HJJ.out; simp; omega) ?_; intro v' w4 hown' hg4 hnil4)
        | fail)
      have hfin : w4.ownsRow J tI 1 v' (i + 1 + 1) (posV xs (i + 1 + 1)) := by
        rw [posV_succ xs (i + 1), HZ.out]; exact hown'
      have hj4 : Jo w4 J J (.pointer (some ⟨J, 0, none⟩)) v2 (jbF 0 (xs.take (i + 1))) ((i + 1 : Nat) : Int) := jo_grown (HO3.out.alloc _) (HJ3.out.below (below_one _ _)) hg4
      have hbel : Below J w w4 := by
        have h1 : Below w3.heap.size w3 (w3.alloc (.cells #[.int .i64 (Z : Int)] tI)) := below_one _ _
        have h2 := HB3.out
        have h3 : J ≤ w3.heap.size := by have := h2.size; have := HJJ.out; omega
        have h4 := h2.trans (h1.mono h3)
        exact h4.trans ⟨hg4.os, hg4.tape, hg4.output, hg4.size, fun k hk => hg4.block k (Nat.lt_of_lt_of_le hk (Nat.le_trans h3 h1.size)) (fun e => by have := (HO3.out.lt k e.symm).1; omega)⟩
      refine ⟨⟨i + 1, by push_cast; rfl, HIN.out, hbel, hfin, ⟨_, _, hj4⟩⟩, by simp only [intOf]; omega⟩
    · have q1 : (N : Int) ≤ (i : Int) := by omega
      have hiN : i = N := by have := HI.out; omega
      subst hiN
      obtain ⟨pj, vj, hj⟩ := HJ.out
      have HF : Hid (Jo wr J J pj vj (jbF 0 xs) (i : Int)) := by
        have h1 : xs.take i = xs := List.take_of_length_le (by have := HXL.out; omega)
        rw [h1] at hj
        exact hj
      clear hj hin
      go_wp2_with fail
      go_ret3
      exact ⟨_, pj, vj, by rw [HJJ.out]; rfl, by rw [HJJ.out]; exact HF.out, by rw [HJJ.out]; exact HO.out, by rw [HJJ.out]; exact HB.out⟩
end Go.Proofs.YtabmpngliphdpaaDoor.Lc
