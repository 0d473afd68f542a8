import Derived.Test.YtciblmdpngnakaaQv20
import Derived.Deep.RegionWith
import Derived.Test.YtciblmdpngnakaaQv19
import Derived.Test.YtciblmdpngnakaaQv00
/- PINs: the program's Value. -/
namespace Go.Proofs.Ytciblmdpngnakaa.Vb
set_option linter.unusedVariables false
set_option linter.unusedSimpArgs false
open Go.RowKit Lib0 Six Pp Cb Wa Va
open Pq (Post mk_list)
open Bk (Key key_kept)
open Et (mapB Enc_good)
open Pf (ret_bool worth_any isPAN_any isPIN_any left_any)
open Pg (ba_ext ext_list spread_any)
open Ph (gb_eq pack_any)
open Pz (three_cells)
def idxB (s : ByteArray) : Bool := decide (s.size = 1) && decide (49 ≤ (s.data.toList.getD 0 0).toNat) && decide ((s.data.toList.getD 0 0).toNat ≤ 54)
theorem idxB_iff (s : ByteArray) : idxB s = true ↔ s.size = 1 ∧ 49 ≤ (s.data.toList.getD 0 0).toNat ∧ (s.data.toList.getD 0 0).toNat ≤ 54 := by simp [idxB, and_assoc]
theorem idx_any (s : ByteArray) (w : World) (hs : s.size ≤ maxLen) :
    Calls Try.prog 43 #[.string s] w fun e w' => e = .returned (.bool (idxB s)) ∧ w' = w := by
  unfold maxLen at hs
  by_cases h1 : s.size = 1
  · have x1 : ((s.size : Int) == 1) = true := by rw [h1]; rfl
    have x0 : (0 : Int) < (s.size : Int) := by omega
    have x00 : 0 < s.size := by omega
    have g0 := gb_eq s 0 x00
    have E : idxB s = (decide (49 ≤ (s[0]'x00).toNat) && decide ((s[0]'x00).toNat ≤ 54)) := by unfold idxB; rw [← g0]; simp [h1]
    rw [E]
    clear E g0 h1
    by_cases h2 : (49 : Int) ≤ ((s[0]'x00).toNat : Int)
    · by_cases h3 : ((s[0]'x00).toNat : Int) ≤ 54
      · rw [show decide (49 ≤ (s[0]'x00).toNat) = true by simp; omega, show decide ((s[0]'x00).toNat ≤ 54) = true by simp; omega]
        go_enter Try.func43, Try.ntmps43
        go_wp2
        go_ret
        exact ⟨by simp, rfl⟩
      · rw [show decide (49 ≤ (s[0]'x00).toNat) = true by simp; omega, show decide ((s[0]'x00).toNat ≤ 54) = false by simp; omega]
        go_enter Try.func43, Try.ntmps43
        go_wp2
        go_ret
        exact ⟨by simp, rfl⟩
    · rw [show decide (49 ≤ (s[0]'x00).toNat) = false by simp; omega, Bool.false_and]
      go_enter Try.func43, Try.ntmps43
      go_wp2
      go_ret
      exact ⟨by simp, rfl⟩
  · have x1 : ((s.size : Int) == 1) = false := by rw [beq_eq_false_iff_ne]; omega
    have E : idxB s = false := by unfold idxB; simp [h1]
    rw [E]
    go_enter Try.func43, Try.ntmps43
    go_wp2
    go_ret
    exact ⟨by simp, rfl⟩
/-- what is hidden -/
def vl (q i p : ByteArray) : List UInt8 := (q.data.toList.drop (q.size - 12)).take 11 ++ i.data.toList ++ p.data.toList.take 4
theorem vl_len (q i p : ByteArray) (hq : panB q = true) (hi : idxB i = true) (hp : pinB p = true) : (vl q i p).length = 16 := by
  have h1 := (panB_iff q).1 hq
  have h2 := (idxB_iff i).1 hi
  have h3 := (pinB_iff p).1 hp
  unfold vl
  simp only [List.length_append, List.length_take, List.length_drop, sz]
  omega
theorem vl_dg (q i p : ByteArray) (hq : panB q = true) (hi : idxB i = true) (hp : pinB p = true) : (vl q i p).all dg = true := by
  have h1 := (panB_iff q).1 hq
  have h2 := (idxB_iff i).1 hi
  have h3 := (pinB_iff p).1 hp
  have e : i.data.toList = [i.data.toList.getD 0 0] := by
    have hl : i.data.toList.length = 1 := by rw [sz]; exact h2.1
    match hh : i.data.toList, hl with
    | [a], _ => rfl
  unfold vl
  rw [List.all_append, List.all_append, all_sub dg _ _ _ h1.2.2, e]
  have h4 : (p.data.toList.take 4).all dg = true := by have := all_sub dg p.data.toList 0 4 h3.2.2; rwa [List.drop_zero] at this
  rw [h4]
  have h5 : dg (i.data.toList.getD 0 0) = true := by rw [dg_iff]; omega
  simp only [List.all_cons, List.all_nil, h5, Bool.and_self]
/-- the halves that are hidden -/
def vh (k q i p : ByteArray) : List Nat := nb (eK k ⟨(pk (dvL (vl q i p))).toArray⟩).data.toList
theorem vb_size (q i p : ByteArray) (hq : panB q = true) (hi : idxB i = true) (hp : pinB p = true) : (⟨(pk (dvL (vl q i p))).toArray⟩ : ByteArray).size = 8 := by
  rw [← sz, mk_list, pk_len, dv_len, vl_len q i p hq hi hp]
theorem vh_len (k q i p : ByteArray) (hq : panB q = true) (hi : idxB i = true) (hp : pinB p = true) : (vh k q i p).length = 16 := by
  unfold vh
  rw [nb_len, sz, eK_size _ _ (vb_size q i p hq hi hp)]
theorem vh_lt (k q i p : ByteArray) : ∀ n ∈ vh k q i p, n < 16 := nb_lt _
def valR (k q i p : ByteArray) : ByteArray × Int :=
  if k.size ≠ 16 then (none8, 30) else if panB q = false then (none8, 50) else if pinB p = false then (none8, 60) else if idxB i = false then (none8, 1)
  else (⟨((da (vh k q i p) ++ db (vh k q i p)).take 4).toArray⟩, 0)
def q11 (q : ByteArray) : ByteArray := q.extract (q.size - 1 - 11) (q.size - 1)
def p4 (p : ByteArray) : ByteArray := p.extract 0 4
theorem ext4 (A : List UInt8) (h : 4 ≤ A.length) : (⟨A.toArray⟩ : ByteArray).extract 0 4 = ⟨(A.take 4).toArray⟩ := by
  apply ba_ext
  rw [ext_list _ _ _ (by rw [← sz]; exact h)]
  rfl
set_option maxRecDepth 100000 in
set_option maxHeartbeats 1600000 in
theorem value_good (k q i p : ByteArray) (h16 : Hid (k.size = 16)) (sq : q.size ≤ maxLen) (si : i.size ≤ maxLen) (sp : p.size ≤ maxLen) (hq : panB q = true) (hp : pinB p = true) (hi : idxB i = true) (w : World) :
    Calls Try.prog 12 #[.string k, .string q, .string i, .string p] w fun e w' => e = .returned (.tuple #[.string ⟨((da (vh k q i p) ++ db (vh k q i p)).take 4).toArray⟩, .int .i64 0]) ∧ Below w.heap.size w w' := by
  have RG := fun u => ready_good k h16 u
  have IQ := fun u => isPAN_any q u sq
  have IP := fun u => isPIN_any p u sp
  have II := fun u => idx_any i u si
  have hq' := (panB_iff q).1 hq
  have hp' := (pinB_iff p).1 hp
  have LE := fun u => left_any q 11 u hq'.1 hq'.2.1 (by omega)
  rw [show q.extract (q.size - 1 - 11) (q.size - 1) = q11 q from rfl] at LE
  have l1 : (q11 q).data.toList = (q.data.toList.drop (q.size - 12)).take 11 := by
    unfold q11
    rw [ext_list _ _ _ (by omega), show q.size - 1 - 11 = q.size - 12 by omega, show q.size - 1 - (q.size - 12) = 11 by omega]
  have l2 : (p4 p).data.toList = p.data.toList.take 4 := by
    unfold p4
    rw [ext_list _ _ _ (by omega), List.drop_zero]
  have vd := vl_dg q i p hq hi hp
  obtain ⟨D, HD⟩ : ∃ D : ByteArray, D.data.toList = vl q i p := ⟨⟨(vl q i p).toArray⟩, rfl⟩
  have PA := fun bk u hbk hcs => pack_any [q11 q, i, p4 p] 3 bk 3 8 D (by show D.data.toList = _; rw [HD]; simp only [List.map_cons, List.map_nil, List.flatten_cons, List.flatten_nil, List.append_nil, l1, l2, vl, List.append_assoc])
    (by show D.size = _; rw [← sz, HD, vl_len q i p hq hi hp]) (by show asx D = true; unfold asx; rw [HD]; exact all_six_dg _ vd) (by decide) rfl (by decide) (by decide) u hbk hcs
  rw [HD, sv_dv _ vd] at PA
  have v8 := vb_size q i p hq hi hp
  have vhl := vh_len k q i p hq hi hp
  have vht := vh_lt k q i p
  have e8 := eK_size k _ v8
  unfold vh at *
  obtain ⟨X, HX⟩ : ∃ X : ByteArray, Hid ((⟨(pk (dvL (vl q i p))).toArray⟩ : ByteArray) = X) := ⟨_, rfl⟩
  rw [HX.out] at PA v8 vhl vht e8 ⊢
  have EN0 := fun g u hk => Enc_good X g 2 1 k.data.toList u (by show X.size = 8 * 1; rw [v8]) (by rw [v8]; decide) (kind16 k h16.out) hk
  have EN : ∀ g u, Key u g 2 k.data.toList → Calls Try.prog 22 #[.pointer (some ⟨g, 0, none⟩), .string X] u fun e w' => e = .returned (.tuple #[.string (eK k X), .int .i64 0]) ∧ Below u.heap.size u w' := EN0
  clear EN0
  generalize eK k X = Y at *
  have SP := fun u => spread_any Y u (by rw [e8]; decide)
  rw [hexL_nb] at SP
  generalize nb Y.data.toList = H at *
  have AD := fun u => asDigits_any H ⟨(H.map hx).toArray⟩ rfl vht vhl u
  have al : 4 ≤ (da H ++ db H).length := by rw [List.length_append, both_len, vhl]; decide
  have EX := ext4 _ al
  have es : (4 : Int) ≤ ((⟨(da H ++ db H).toArray⟩ : ByteArray).size : Int) := by rw [← sz, mk_list]; omega
  obtain ⟨Z, HZ⟩ : ∃ Z : ByteArray, Hid ((⟨(H.map hx).toArray⟩ : ByteArray) = Z) := ⟨_, rfl⟩
  rw [HZ.out] at SP AD
  generalize (⟨(da H ++ db H).toArray⟩ : ByteArray) = A at *
  generalize (⟨((da H ++ db H).take 4).toArray⟩ : ByteArray) = R at *
  rw [hq] at IQ
  rw [hp] at IP
  rw [hi] at II
  have p4' : (4 : Int) ≤ (p.size : Int) := by omega
  have EP : p.extract 0 4 = p4 p := rfl
  generalize q11 q = Q at *
  generalize p4 p = P at *
  clear vd HD l1 l2 v8 vhl vht e8 al hq hp hi hq' hp' HX HZ
  go_enter Try.func12, Try.ntmps12
  go_wp2_with fail
  refine (RG _).mono ?_
  rintro e x ⟨g, rfl, hg, hx⟩
  go_wp2_with fail
  refine (IQ _).mono ?_
  rintro e u ⟨rfl, hu⟩
  rw [hu]
  clear hu u IQ
  go_wp2_with fail
  refine (IP _).mono ?_
  rintro e u ⟨rfl, hu⟩
  rw [hu]
  clear hu u IP
  go_wp2_with fail
  refine (II _).mono ?_
  rintro e u ⟨rfl, hu⟩
  rw [hu]
  clear hu u II RG
  go_wp2_with fail
  have N1 : (x.alloc (.cells #[.string Q, .string i, .string P] 9)).drew.heap[x.heap.size]? = some (.cells #[.string Q, .string i, .string P] 9) := Cb.h1_0 x _
  have PA1 := PA x.heap.size _ (Array.getElem?_eq_some_iff.1 N1).1 (three_cells N1)
  have B1 : Below x.heap.size x (x.alloc (.cells #[.string Q, .string i, .string P] 9)).drew := (Cb.below_one x _).drew
  go_region_with (first
    | (go_at_call 44; refine (LE _).mono ?_; rintro e u ⟨rfl, hu⟩; rw [hu]; clear hu u)
    | (go_at_call 28; refine PA1.mono ?_; rintro e y ⟨rfl, hy⟩; have hg2 := key_kept (Cb.keepB B1 hy) hg)
    | (go_at_call 22; refine (EN g _ hg2).mono ?_; rintro e z ⟨rfl, hz⟩))
  all_goals
    go_wp2_with fail
    refine (SP _).mono ?_
    rintro e y1 ⟨rfl, hy1⟩
    go_wp2_with fail
    refine (AD _).mono ?_
    rintro e y2 ⟨rfl, hy2⟩
    go_wp2
    exact bodyPost_ret (v := .tuple #[.string R, .int .i64 0]) (by simp [results, Try.results12, go_sem]) rfl ⟨rfl, Cb.keepB (Cb.keepB (Cb.keepB (Cb.keepB hx (Cb.keepB B1 hy)) hz) hy1) hy2⟩
set_option maxRecDepth 100000 in
set_option maxHeartbeats 800000 in
theorem bad_pan (k q i p : ByteArray) (h16 : Hid (k.size = 16)) (sq : q.size ≤ maxLen) (si : i.size ≤ maxLen) (sp : p.size ≤ maxLen) (hq : panB q = false) (w : World) :
    Calls Try.prog 12 #[.string k, .string q, .string i, .string p] w fun e w' => e = .returned (.tuple #[.string none8, .int .i64 50]) ∧ Below w.heap.size w w' := by
  have RG := fun u => ready_good k h16 u
  have IQ := fun u => isPAN_any q u sq
  have IP := fun u => isPIN_any p u sp
  have II := fun u => idx_any i u si
  rw [hq] at IQ
  go_enter Try.func12, Try.ntmps12
  go_wp2_with fail
  refine (RG _).mono ?_
  rintro e x ⟨g, rfl, hg, hx⟩
  go_wp2_with fail
  refine (IQ _).mono ?_
  rintro e u ⟨rfl, hu⟩
  rw [hu]
  clear hu u
  go_wp2
  exact bodyPost_ret (v := .tuple #[.string none8, .int .i64 50]) (by simp [results, Try.results12, go_sem, none8]) rfl ⟨by simp, hx⟩
set_option maxRecDepth 100000 in
set_option maxHeartbeats 800000 in
theorem bad_pin (k q i p : ByteArray) (h16 : Hid (k.size = 16)) (sq : q.size ≤ maxLen) (si : i.size ≤ maxLen) (sp : p.size ≤ maxLen) (hq : panB q = true) (hp : pinB p = false) (w : World) :
    Calls Try.prog 12 #[.string k, .string q, .string i, .string p] w fun e w' => e = .returned (.tuple #[.string none8, .int .i64 60]) ∧ Below w.heap.size w w' := by
  have RG := fun u => ready_good k h16 u
  have IQ := fun u => isPAN_any q u sq
  have IP := fun u => isPIN_any p u sp
  have II := fun u => idx_any i u si
  rw [hq] at IQ
  rw [hp] at IP
  go_enter Try.func12, Try.ntmps12
  go_wp2_with fail
  refine (RG _).mono ?_
  rintro e x ⟨g, rfl, hg, hx⟩
  go_wp2_with fail
  refine (IQ _).mono ?_
  rintro e u ⟨rfl, hu⟩
  rw [hu]
  clear hu u
  go_wp2_with fail
  refine (IP _).mono ?_
  rintro e u ⟨rfl, hu⟩
  rw [hu]
  clear hu u
  go_wp2
  exact bodyPost_ret (v := .tuple #[.string none8, .int .i64 60]) (by simp [results, Try.results12, go_sem, none8]) rfl ⟨by simp, hx⟩
set_option maxRecDepth 100000 in
set_option maxHeartbeats 800000 in
theorem bad_idx (k q i p : ByteArray) (h16 : Hid (k.size = 16)) (sq : q.size ≤ maxLen) (si : i.size ≤ maxLen) (sp : p.size ≤ maxLen) (hq : panB q = true) (hp : pinB p = true) (hi : idxB i = false) (w : World) :
    Calls Try.prog 12 #[.string k, .string q, .string i, .string p] w fun e w' => e = .returned (.tuple #[.string none8, .int .i64 1]) ∧ Below w.heap.size w w' := by
  have RG := fun u => ready_good k h16 u
  have IQ := fun u => isPAN_any q u sq
  have IP := fun u => isPIN_any p u sp
  have II := fun u => idx_any i u si
  rw [hq] at IQ
  rw [hp] at IP
  rw [hi] at II
  go_enter Try.func12, Try.ntmps12
  go_wp2_with fail
  refine (RG _).mono ?_
  rintro e x ⟨g, rfl, hg, hx⟩
  go_wp2_with fail
  refine (IQ _).mono ?_
  rintro e u ⟨rfl, hu⟩
  rw [hu]
  clear hu u
  go_wp2_with fail
  refine (IP _).mono ?_
  rintro e u ⟨rfl, hu⟩
  rw [hu]
  clear hu u
  go_wp2_with fail
  refine (II _).mono ?_
  rintro e u ⟨rfl, hu⟩
  rw [hu]
  clear hu u
  go_wp2
  exact bodyPost_ret (v := .tuple #[.string none8, .int .i64 1]) (by simp [results, Try.results12, go_sem, none8]) rfl ⟨by simp, hx⟩
set_option maxRecDepth 100000 in
theorem value_any (k q i p : ByteArray) (sk : k.size ≤ maxLen) (sq : q.size ≤ maxLen) (si : i.size ≤ maxLen) (sp : p.size ≤ maxLen) (w : World) :
    Calls Try.prog 12 #[.string k, .string q, .string i, .string p] w (Post (valR k q i p) w) := by
  by_cases h16 : k.size = 16
  · cases hq : panB q
    · have e : valR k q i p = (none8, 50) := by unfold valR; rw [if_neg (by simpa using h16), if_pos hq]
      rw [e]
      exact bad_pan k q i p h16 sq si sp hq w
    · cases hp : pinB p
      · have e : valR k q i p = (none8, 60) := by unfold valR; rw [if_neg (by simpa using h16), if_neg (by simp [hq]), if_pos hp]
        rw [e]
        exact bad_pin k q i p h16 sq si sp hq hp w
      · cases hi : idxB i
        · have e : valR k q i p = (none8, 1) := by unfold valR; rw [if_neg (by simpa using h16), if_neg (by simp [hq]), if_neg (by simp [hp]), if_pos hi]
          rw [e]
          exact bad_idx k q i p h16 sq si sp hq hp hi w
        · have e : valR k q i p = (⟨((da (vh k q i p) ++ db (vh k q i p)).take 4).toArray⟩, 0) := by unfold valR; rw [if_neg (by simpa using h16), if_neg (by simp [hq]), if_neg (by simp [hp]), if_neg (by simp [hi])]
          rw [e]
          exact value_good k q i p h16 sq si sp hq hp hi w
  · have RB := fun u => ready_bad k (by rw [bne_iff_ne]; omega) u
    have e1 : valR k q i p = (none8, 30) := by unfold valR; rw [if_pos (by simpa using h16)]
    rw [e1]
    go_enter Try.func12, Try.ntmps12
    go_wp2_with fail
    refine (RB _).mono ?_
    rintro e x ⟨rfl, hx⟩
    rw [hx]
    go_wp2
    exact bodyPost_ret (v := .tuple #[.string none8, .int .i64 30]) (by simp [results, Try.results12, go_sem, none8]) rfl ⟨rfl, Below.refl _ _⟩
theorem val_bd (k q i p : ByteArray) : 0 ≤ (valR k q i p).2 ∧ (valR k q i p).2 ≤ 100 := by
  unfold valR
  repeat' split
  all_goals simp
end Go.Proofs.Ytciblmdpngnakaa.Vb
/- The document's rows of bits: take, sum, left. -/
namespace Go.Proofs.Ytciblmdpngnakaa.Rb
set_option linter.unusedVariables false
open Go.RowKit Pla Cb Sm
open Lib0 (owns_len own_ge below_app below_app0)
theorem infoI : (Try.prog.info? 3).map (fun i => (i.zero, i.size, i.bytes)) = some (some (.int .i64 0), 1, 8) := by kernel_rfl
/-- numbers as cells -/
def nv (l : List Nat) : List Value := l.map fun n : Nat => Value.int .i64 ((n : Nat) : Int)
theorem nv_len (l : List Nat) : (nv l).length = l.length := by simp [nv]
theorem nv_get (l : List Nat) (i : Nat) (h : i < l.length) : (nv l)[i]? = some (.int .i64 ((l[i] : Nat) : Int)) := by simp [nv, h]
theorem nv_snoc (l : List Nat) (n : Nat) : nv (l ++ [n]) = nv l ++ [.int .i64 ((n : Nat) : Int)] := by simp [nv]
theorem nv_take (l : List Nat) (k : Nat) (h : k < l.length) : nv (l.take (k + 1)) = nv (l.take k) ++ [.int .i64 ((l[k] : Nat) : Int)] := by
  rw [List.take_succ_eq_append_getElem h, nv_snoc]
theorem range_cell {w : World} {g o : Nat} {l : List Nat} (h : w.rangeAt g o (nv l)) (i : Nat) (hi : i < l.length) : w.cell? ⟨g, o + i, none⟩ = some (.int .i64 ((l[i] : Nat) : Int)) := h i _ (nv_get l i hi)
theorem own_range {w : World} {B e n : Nat} {v : Value} {l : List Nat} (h : w.ownsRow B e 1 v n (nv l)) (hn : 0 < n) : ∃ g cap, v = .slice (some ⟨g, 0, none⟩) n cap ∧ B ≤ g ∧ g < w.heap.size ∧ n ≤ cap ∧ w.rangeAt g 0 (nv l) := by
  rcases h.2 with ⟨rfl, h0⟩ | ⟨g, cap, cur, rfl, hb, hg, hc, hc2, hsz, htk⟩
  · omega
  · refine ⟨g, cap, rfl, hb, (Array.getElem?_eq_some_iff.1 hg).1, hc, ?_⟩
    intro j v hv
    rw [cell_of_row w g _ _ _ (0, 0) hg, Nat.zero_add]
    rw [← htk] at hv
    rw [List.getElem?_take] at hv
    split at hv
    · rw [← Array.getElem?_toList]; exact hv
    · cases hv
/-- what comes back: a new row -/
def New (w : World) (l : List Nat) (n : Nat) : Ending → World → Prop := fun e w' => ∃ g cap, e = .returned (.slice (some ⟨g, 0, none⟩) n cap) ∧ w.heap.size ≤ g ∧ g < w'.heap.size ∧ n ≤ cap ∧ w'.rangeAt g 0 (nv l) ∧ Below w.heap.size w w'
def tkN (t l : List Nat) : List Nat := t.map fun n => l.getD (n - 1) 0
set_option maxRecDepth 100000 in
set_option maxHeartbeats 1600000 in
theorem take_ref (t l : List Nat) (gt gl ol nt nl ct cl : Nat) (hnt : Hid (t.length = nt)) (hnl : Hid (l.length = nl)) (h0 : 0 < nt) (h1 : nt ≤ 100) (h2 : nl ≤ 100) (ht : Hid (∀ n ∈ t, 1 ≤ n ∧ n ≤ nl)) (w : World) (hgt : gt < w.heap.size) (hgl : gl < w.heap.size) (hrt : w.rangeAt gt 0 (nv t)) (hrl : w.rangeAt gl ol (nv l)) :
    Calls Try.prog 97 #[.slice (some ⟨gt, 0, none⟩) nt ct, .slice (some ⟨gl, ol, none⟩) nl cl] w (New w (tkN t l) nt) := by
  obtain ⟨i0, hi, hz0, hz1, hz2⟩ := info_parts infoI
  go_enter Try.func97, Try.ntmps97
  go_wp2
  go_loopw [5, 6] (fun v c wr => ∃ k : Nat, k ≤ nt ∧ c = .int .i64 (k : Int) ∧ wr.ownsRow w.heap.size 3 1 v k (nv ((tkN t l).take k)) ∧ Below w.heap.size w wr) (fun _ c _ => nt + 1 - (intOf c).toNat)
  case atStart => exact ⟨0, Nat.zero_le _, rfl, World.ownsRow_nil _ _ _ _, Below.refl _ _⟩
  case round =>
    obtain ⟨k, hk, rfl, hown, hbw⟩ := hrel
    have hbs := hbw.size
    by_cases hlt : k < nt
    · have q0 : (0 : Int) ≤ (k : Int) := by omega
      have q1 : (k : Int) < (nt : Int) := by omega
      have hkt : k < t.length := by rw [hnt.out]; exact hlt
      have hm := ht.out t[k] (List.getElem_mem hkt)
      have hml : t[k] - 1 < l.length := by rw [hnl.out]; omega
      have c1 := range_cell (range_keep hbw hgt hrt) k hkt
      rw [Nat.zero_add] at c1
      have c2 := range_cell (range_keep hbw hgl hrl) (t[k] - 1) hml
      have HN : Hid (nv ((tkN t l).take (k + 1)) = nv ((tkN t l).take k) ++ [.int .i64 ((l[t[k] - 1] : Nat) : Int)]) := (by
        rw [nv_take _ k (by simp [tkN]; exact hkt)]
        simp [tkN, hml] : nv ((tkN t l).take (k + 1)) = nv ((tkN t l).take k) ++ [.int .i64 ((l[t[k] - 1] : Nat) : Int)])
      generalize l[t[k] - 1] = x at *
      generalize hmm : t[k] = m at *
      have i1 : (1 : Int) ≤ (m : Int) := by omega
      have i2 : (m : Int) - 1 < (nl : Int) := by omega
      have i3 : (0 : Int) ≤ (m : Int) - 1 := by omega
      have i4 : (m : Int) ≤ 100 := by omega
      have t1 : ((m : Int) - 1).toNat = m - 1 := by omega
      clear hnt hnl ht hrt hrl hkt hmm hml hm
      go_wp2_with (at_builtin; refine wpList_append_lies _ rfl _ _ _ rfl w.heap.size 3 i0 _ 1 8 Try.underlying58 hi hz0 hz1 hz2 rfl (by omega) _ k _ rfl (hown.alloc _) ⟨wr.heap.size, 0, none⟩ 1 1 _ rfl (by rfl) (World.news_of_block (heap_alloc_new wr _)) (by simp [Value.oneCell']) (by omega) (by unfold maxLen; omega) (by omega) (by first | omega | (simp <;> omega)) (wr.heap.size + 1) (by simp) ?_; intro gg cap w1 hown1 hgrow hat hlt1)
      exact ⟨⟨k + 1, hlt, by simp, owns_len hown1 rfl rfl HN.out.symm, below_app0 hbw hbs hown hgrow⟩, by simp only [intOf]; omega⟩
    · obtain rfl : k = nt := by omega
      have q1 : ¬ (k : Int) < (k : Int) := by omega
      rw [List.take_of_length_le (by simp [tkN]; exact Nat.le_of_eq hnt.out)] at hown
      obtain ⟨g, cap, rfl, hB, hg, hcap, hr⟩ := own_range hown h0
      clear hnt hnl ht hrt hrl
      go_wp2
      go_ret
      exact ⟨g, cap, rfl, hB, hg, hcap, hr, hbw⟩
/-- bits as numbers -/
def nb (b : List Bool) : List Nat := b.map Bool.toNat
theorem nb_len (b : List Bool) : (nb b).length = b.length := by simp [nb]
theorem nb_get (b : List Bool) (i : Nat) (h : i < b.length) : (nb b)[i]'(by rw [nb_len]; exact h) = b[i].toNat := by simp [nb]
theorem tkN_nb (t : List Nat) (x : List Bool) : tkN t (nb x) = nb (tk t x) := by
  simp only [tkN, nb, tk, List.map_map]
  apply List.map_congr_left
  intro n _
  simp only [Function.comp, List.getD_eq_getElem?_getD, List.getElem?_map]
  cases x[n - 1]? <;> rfl
theorem toNat_le (b : Bool) : b.toNat ≤ 1 := by cases b <;> decide
theorem sum_bit (x y : Bool) : ((x.toNat : Int) + (y.toNat : Int)) % 2 = ((Bool.xor x y).toNat : Int) := by cases x <;> cases y <;> rfl
set_option maxRecDepth 100000 in
set_option maxHeartbeats 1600000 in
theorem sum_ref (a b : List Bool) (ga oa gb ob n ca cb : Nat) (ha : Hid (a.length = n)) (hb : Hid (b.length = n)) (h0 : 0 < n) (h1 : n ≤ 100) (w : World) (hga : ga < w.heap.size) (hgb : gb < w.heap.size) (hra : w.rangeAt ga oa (nv (nb a))) (hrb : w.rangeAt gb ob (nv (nb b))) :
    Calls Try.prog 101 #[.slice (some ⟨ga, oa, none⟩) n ca, .slice (some ⟨gb, ob, none⟩) n cb] w (New w (nb (xr a b)) n) := by
  obtain ⟨i0, hi, hz0, hz1, hz2⟩ := info_parts infoI
  go_enter Try.func101, Try.ntmps101
  go_wp2
  go_loopw [5, 6] (fun v c wr => ∃ k : Nat, k ≤ n ∧ c = .int .i64 (k : Int) ∧ wr.ownsRow w.heap.size 3 1 v k (nv ((nb (xr a b)).take k)) ∧ Below w.heap.size w wr) (fun _ c _ => n + 1 - (intOf c).toNat)
  case atStart => exact ⟨0, Nat.zero_le _, rfl, World.ownsRow_nil _ _ _ _, Below.refl _ _⟩
  case round =>
    obtain ⟨k, hk, rfl, hown, hbw⟩ := hrel
    have hbs := hbw.size
    have hxl : (nb (xr a b)).length = n := by rw [nb_len, xr_len a b n ha.out hb.out]
    by_cases hlt : k < n
    · have q0 : (0 : Int) ≤ (k : Int) := by omega
      have q1 : (k : Int) < (n : Int) := by omega
      have hka : k < a.length := by rw [ha.out]; exact hlt
      have hkb : k < b.length := by rw [hb.out]; exact hlt
      have KA : Hid (∀ y, Below w.heap.size w y → y.cell? ⟨ga, oa + k, none⟩ = some (.int .i64 (a[k].toNat : Int))) := (fun y hy => by have := range_cell (range_keep hy hga hra) k (by rw [nb_len]; exact hka); rwa [nb_get a k hka] at this : ∀ y, Below w.heap.size w y → y.cell? ⟨ga, oa + k, none⟩ = some (.int .i64 (a[k].toNat : Int)))
      have KB : Hid (∀ y, Below w.heap.size w y → y.cell? ⟨gb, ob + k, none⟩ = some (.int .i64 (b[k].toNat : Int))) := (fun y hy => by have := range_cell (range_keep hy hgb hrb) k (by rw [nb_len]; exact hkb); rwa [nb_get b k hkb] at this : ∀ y, Below w.heap.size w y → y.cell? ⟨gb, ob + k, none⟩ = some (.int .i64 (b[k].toNat : Int)))
      have c1 := KA.out wr hbw
      have c2 := KB.out wr hbw
      have u1 := sum_bit a[k] b[k]
      have l1 := toNat_le a[k]
      have l2 := toNat_le b[k]
      have i1 : (a[k].toNat : Int) ≤ 1 := by omega
      have i2 : (b[k].toNat : Int) ≤ 1 := by omega
      have i3 : (0 : Int) ≤ (a[k].toNat : Int) := by omega
      have i4 : (0 : Int) ≤ (b[k].toNat : Int) := by omega
      have HN : Hid (nv ((nb (xr a b)).take (k + 1)) = nv ((nb (xr a b)).take k) ++ [.int .i64 (((Bool.xor a[k] b[k]).toNat : Nat) : Int)]) := (by
        rw [nv_take _ k (by rw [hxl]; exact hlt), nb_get _ k (by rw [xr_len a b n ha.out hb.out]; exact hlt)]
        simp [xr] : nv ((nb (xr a b)).take (k + 1)) = nv ((nb (xr a b)).take k) ++ [.int .i64 (((Bool.xor a[k] b[k]).toNat : Nat) : Int)])
      generalize (Bool.xor a[k] b[k]).toNat = z at *
      generalize a[k].toNat = x at *
      generalize b[k].toNat = y at *
      have u2 : (IntKind.i64.wrap ((x : Int) + (y : Int))).tmod 2 = (z : Int) := by rw [show IntKind.i64.wrap ((x : Int) + (y : Int)) = (x : Int) + (y : Int) by rw [IntKind.wrap_i64]; omega, Int.tmod_eq_emod_of_nonneg (by omega), u1]
      clear ha hb hra hrb hka hkb hxl l1 l2
      go_wp2_with fail
      go_region_held3 (fun w' => w'.cell? ⟨ga, oa + k, none⟩ = some (.int .i64 (x : Int)) ∧ w'.cell? ⟨gb, ob + k, none⟩ = some (.int .i64 (y : Int))) (first | (refine ⟨?_, ?_⟩ <;> assumption) | go_keep)
        ((refine step_append_lies _ (by rfl) _ _ _ (by rfl) w.heap.size 3 i0 _ 1 8 Try.underlying58 hi hz0 hz1 hz2 rfl (by omega) u5 (k) _ (by rfl) ((hown.alloc _).drew) ⟨wr.heap.size, 0, none⟩ 1 1 _ (by rfl) (by rfl) (World.news_of_block (heap_alloc_new wr _)) (by simp [Value.oneCell']) (by omega) (by unfold maxLen; omega) (by omega) (by simp; omega) (wr.heap.size + 1) (by simp) ?_; intro gg cap w1 hown1 hgrow hat hlt1; have bw1 := below_app hbw hbs hown hgrow; have d1 := KA.out w1 bw1; have d2 := KB.out w1 bw1))
      all_goals
        go_wp2
        go_roundw
        case rel => exact ⟨k + 1, by omega, by go_num, owns_len hown1 rfl (by omega) HN.out.symm, below_app hbw hbs hown hgrow⟩
        case measure => simp [intOf]; omega
    · obtain rfl : k = n := by omega
      rw [List.take_of_length_le (by omega)] at hown
      obtain ⟨g, cap, rfl, hB, hg, hcap, hr⟩ := own_range hown h0
      clear ha hb hra hrb hxl
      go_wp2
      go_ret
      exact ⟨g, cap, rfl, hB, hg, hcap, hr, hbw⟩
theorem rot_get (l : List Bool) (n k : Nat) (hn : n ≤ l.length) (hk : k < l.length) : (rot l n)[k]? = l[(k + n) % l.length]? := by
  unfold rot
  by_cases h : k + n < l.length
  · rw [List.getElem?_append_left (by rw [List.length_drop]; omega), List.getElem?_drop, Nat.mod_eq_of_lt h, Nat.add_comm]
  · rw [List.getElem?_append_right (by rw [List.length_drop]; omega), List.length_drop, List.getElem?_take_of_lt (by omega), show (k + n) % l.length = k - (l.length - n) by rw [Nat.mod_eq_sub_mod (by omega), Nat.mod_eq_of_lt (by omega)]; omega]
set_option maxRecDepth 100000 in
set_option maxHeartbeats 1600000 in
theorem left_ref (l : List Bool) (m gl ol n cl : Nat) (hl : Hid (l.length = n)) (h0 : 0 < n) (h1 : n ≤ 100) (hm : m ≤ 2) (hmn : m ≤ n) (w : World) (hgl : gl < w.heap.size) (hrl : w.rangeAt gl ol (nv (nb l))) :
    Calls Try.prog 111 #[.slice (some ⟨gl, ol, none⟩) n cl, .int .i64 (m : Int)] w (New w (nb (rot l m)) n) := by
  obtain ⟨i0, hi, hz0, hz1, hz2⟩ := info_parts infoI
  have hz : ((n : Int) == 0) = false := beq_eq_false_iff_ne.mpr (by omega)
  have hz' : ((n : Int) == -1) = false := beq_eq_false_iff_ne.mpr (by omega)
  have m0 : (0 : Int) ≤ (m : Int) := by omega
  have m1 : (m : Int) ≤ 2 := by omega
  have n1 : (n : Int) ≤ 100 := by omega
  go_enter Try.func111, Try.ntmps111
  go_wp2
  go_loopw [5, 6] (fun v c wr => ∃ k : Nat, k ≤ n ∧ c = .int .i64 (k : Int) ∧ wr.ownsRow w.heap.size 3 1 v k (nv ((nb (rot l m)).take k)) ∧ Below w.heap.size w wr) (fun _ c _ => n + 1 - (intOf c).toNat)
  case atStart => exact ⟨0, Nat.zero_le _, rfl, World.ownsRow_nil _ _ _ _, Below.refl _ _⟩
  case round =>
    obtain ⟨k, hk, rfl, hown, hbw⟩ := hrel
    have hbs := hbw.size
    have hxl : (nb (rot l m)).length = n := by rw [nb_len, rot_len l m (by rw [hl.out]; exact hmn), hl.out]
    by_cases hlt : k < n
    · have q0 : (0 : Int) ≤ (k : Int) := by omega
      have q1 : (k : Int) < (n : Int) := by omega
      have hj : (k + m) % n < l.length := by rw [hl.out]; exact Nat.mod_lt _ h0
      have c1 := range_cell (range_keep hbw hgl hrl) ((k + m) % n) (by rw [nb_len]; exact hj)
      rw [nb_get l _ hj] at c1
      have HN : Hid (nv ((nb (rot l m)).take (k + 1)) = nv ((nb (rot l m)).take k) ++ [.int .i64 ((l[(k + m) % n].toNat : Nat) : Int)]) := (by
        have hk1 : k < (rot l m).length := by rw [nb_len] at hxl; omega
        rw [nv_take _ k (by rw [hxl]; exact hlt), nb_get _ k hk1]
        have e := rot_get l m k (by rw [hl.out]; exact hmn) (by rw [hl.out]; exact hlt)
        rw [hl.out, List.getElem?_eq_getElem hk1, List.getElem?_eq_getElem hj] at e
        rw [Option.some.inj e] : nv ((nb (rot l m)).take (k + 1)) = nv ((nb (rot l m)).take k) ++ [.int .i64 ((l[(k + m) % n].toNat : Nat) : Int)])
      generalize l[(k + m) % n].toNat = x at *
      have e1 : ((k : Int) + (m : Int)) % (n : Int) = (((k + m) % n : Nat) : Int) := by simp
      have e2 : ((k : Int) + (m : Int)).tmod (n : Int) = (((k + m) % n : Nat) : Int) := by rw [Int.tmod_eq_emod_of_nonneg (by omega), e1]
      have e3 : (((k + m) % n : Nat) : Int) < (n : Int) := by have := Nat.mod_lt (k + m) h0; omega
      generalize (k + m) % n = r at *
      have e4 : (0 : Int) ≤ (r : Int) := by omega
      clear hl hrl hj hxl
      go_wp2_with (at_builtin; refine wpList_append_lies _ rfl _ _ _ rfl w.heap.size 3 i0 _ 1 8 Try.underlying58 hi hz0 hz1 hz2 rfl (by omega) _ (k) _ rfl (hown.alloc _) ⟨wr.heap.size, 0, none⟩ 1 1 _ rfl (by rfl) (World.news_of_block (heap_alloc_new wr _)) (by simp [Value.oneCell']) (by omega) (by unfold maxLen; omega) (by omega) (by first | omega | (simp <;> omega)) (wr.heap.size + 1) (by simp) ?_; intro gg cap w1 hown1 hgrow hat hlt1)
      exact ⟨⟨k + 1, hlt, by simp, owns_len hown1 rfl rfl HN.out.symm, below_app0 hbw hbs hown hgrow⟩, by simp only [intOf]; omega⟩
    · obtain rfl : k = n := by omega
      rw [List.take_of_length_le (by omega)] at hown
      obtain ⟨g, cap, rfl, hB, hg, hcap, hr⟩ := own_range hown h0
      clear hl hrl hxl
      go_wp2
      go_ret
      exact ⟨g, cap, rfl, hB, hg, hcap, hr, hbw⟩
end Go.Proofs.Ytciblmdpngnakaa.Rb
