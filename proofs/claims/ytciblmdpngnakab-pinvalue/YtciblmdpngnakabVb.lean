/- PINs: the program's Value. -/
import Derived.Test.YtciblmdpngnakabVa
import Derived.Deep.RegionWith
namespace Go.Proofs.Ytciblmdpngnakab.Vb
set_option linter.unusedVariables false
set_option linter.unusedSimpArgs false
open Go.RowKit Lib0 Six Pp Cb Wa Va
open Pq (Post mk_list)
open Bk (Key key_kept)
open Et (mapB Enc_good)
open Pf (ret_bool worth_any isPAN_any isPIN_any left_any)
open Pg (ba_ext ext_list spread_any)
open Ph (gb_eq pack_any)
open Pz (three_cells)
def idxB (s : ByteArray) : Bool := decide (s.size = 1) && decide (49 ≤ (s.data.toList.getD 0 0).toNat) && decide ((s.data.toList.getD 0 0).toNat ≤ 54)
theorem idxB_iff (s : ByteArray) : idxB s = true ↔ s.size = 1 ∧ 49 ≤ (s.data.toList.getD 0 0).toNat ∧ (s.data.toList.getD 0 0).toNat ≤ 54 := by simp [idxB, and_assoc]
theorem idx_any (s : ByteArray) (w : World) (hs : s.size ≤ maxLen) :
    Calls Try.prog 26 #[.string s] w fun e w' => e = .returned (.bool (idxB s)) ∧ w' = w := by
  unfold maxLen at hs
  by_cases h1 : s.size = 1
  · have x1 : ((s.size : Int) == 1) = true := by rw [h1]; rfl
    have x0 : (0 : Int) < (s.size : Int) := by omega
    have x00 : 0 < s.size := by omega
    have g0 := gb_eq s 0 x00
    have E : idxB s = (decide (49 ≤ (s[0]'x00).toNat) && decide ((s[0]'x00).toNat ≤ 54)) := by unfold idxB; rw [← g0]; simp [h1]
    rw [E]
    clear E g0 h1
    by_cases h2 : (49 : Int) ≤ ((s[0]'x00).toNat : Int)
    · by_cases h3 : ((s[0]'x00).toNat : Int) ≤ 54
      · rw [show decide (49 ≤ (s[0]'x00).toNat) = true by simp; omega, show decide ((s[0]'x00).toNat ≤ 54) = true by simp; omega]
        go_enter Try.func26, Try.ntmps26
        go_wp2
        go_ret
        exact ⟨by simp, rfl⟩
      · rw [show decide (49 ≤ (s[0]'x00).toNat) = true by simp; omega, show decide ((s[0]'x00).toNat ≤ 54) = false by simp; omega]
        go_enter Try.func26, Try.ntmps26
        go_wp2
        go_ret
        exact ⟨by simp, rfl⟩
    · rw [show decide (49 ≤ (s[0]'x00).toNat) = false by simp; omega, Bool.false_and]
      go_enter Try.func26, Try.ntmps26
      go_wp2
      go_ret
      exact ⟨by simp, rfl⟩
  · have x1 : ((s.size : Int) == 1) = false := by rw [beq_eq_false_iff_ne]; omega
    have E : idxB s = false := by unfold idxB; simp [h1]
    rw [E]
    go_enter Try.func26, Try.ntmps26
    go_wp2
    go_ret
    exact ⟨by simp, rfl⟩
/-- what is hidden -/
def vl (q i p : ByteArray) : List UInt8 := (q.data.toList.drop (q.size - 12)).take 11 ++ i.data.toList ++ p.data.toList.take 4
theorem vl_len (q i p : ByteArray) (hq : panB q = true) (hi : idxB i = true) (hp : pinB p = true) : (vl q i p).length = 16 := by
  have h1 := (panB_iff q).1 hq
  have h2 := (idxB_iff i).1 hi
  have h3 := (pinB_iff p).1 hp
  unfold vl
  simp only [List.length_append, List.length_take, List.length_drop, sz]
  omega
theorem vl_dg (q i p : ByteArray) (hq : panB q = true) (hi : idxB i = true) (hp : pinB p = true) : (vl q i p).all dg = true := by
  have h1 := (panB_iff q).1 hq
  have h2 := (idxB_iff i).1 hi
  have h3 := (pinB_iff p).1 hp
  have e : i.data.toList = [i.data.toList.getD 0 0] := by
    have hl : i.data.toList.length = 1 := by rw [sz]; exact h2.1
    match hh : i.data.toList, hl with
    | [a], _ => rfl
  unfold vl
  rw [List.all_append, List.all_append, all_sub dg _ _ _ h1.2.2, e]
  have h4 : (p.data.toList.take 4).all dg = true := by have := all_sub dg p.data.toList 0 4 h3.2.2; rwa [List.drop_zero] at this
  rw [h4]
  have h5 : dg (i.data.toList.getD 0 0) = true := by rw [dg_iff]; omega
  simp only [List.all_cons, List.all_nil, h5, Bool.and_self]
/-- the halves that are hidden -/
def vh (k q i p : ByteArray) : List Nat := nb (eK k ⟨(pk (dvL (vl q i p))).toArray⟩).data.toList
theorem vb_size (q i p : ByteArray) (hq : panB q = true) (hi : idxB i = true) (hp : pinB p = true) : (⟨(pk (dvL (vl q i p))).toArray⟩ : ByteArray).size = 8 := by
  rw [← sz, mk_list, pk_len, dv_len, vl_len q i p hq hi hp]
theorem vh_len (k q i p : ByteArray) (hq : panB q = true) (hi : idxB i = true) (hp : pinB p = true) : (vh k q i p).length = 16 := by
  unfold vh
  rw [nb_len, sz, eK_size _ _ (vb_size q i p hq hi hp)]
theorem vh_lt (k q i p : ByteArray) : ∀ n ∈ vh k q i p, n < 16 := nb_lt _
def valR (k q i p : ByteArray) : ByteArray × Int :=
  if k.size ≠ 16 then (none8, 30) else if panB q = false then (none8, 50) else if pinB p = false then (none8, 60) else if idxB i = false then (none8, 1)
  else (⟨((da (vh k q i p) ++ db (vh k q i p)).take 4).toArray⟩, 0)
def q11 (q : ByteArray) : ByteArray := q.extract (q.size - 1 - 11) (q.size - 1)
def p4 (p : ByteArray) : ByteArray := p.extract 0 4
theorem ext4 (A : List UInt8) (h : 4 ≤ A.length) : (⟨A.toArray⟩ : ByteArray).extract 0 4 = ⟨(A.take 4).toArray⟩ := by
  apply ba_ext
  rw [ext_list _ _ _ (by rw [← sz]; exact h)]
  rfl
set_option maxRecDepth 100000 in
set_option maxHeartbeats 1600000 in
theorem value_good (k q i p : ByteArray) (h16 : Hid (k.size = 16)) (sq : q.size ≤ maxLen) (si : i.size ≤ maxLen) (sp : p.size ≤ maxLen) (hq : panB q = true) (hp : pinB p = true) (hi : idxB i = true) (w : World) :
    Calls Try.prog 14 #[.string k, .string q, .string i, .string p] w fun e w' => e = .returned (.tuple #[.string ⟨((da (vh k q i p) ++ db (vh k q i p)).take 4).toArray⟩, .int .i64 0]) ∧ Below w.heap.size w w' := by
  have RG := fun u => ready_good k h16 u
  have IQ := fun u => isPAN_any q u sq
  have IP := fun u => isPIN_any p u sp
  have II := fun u => idx_any i u si
  have hq' := (panB_iff q).1 hq
  have hp' := (pinB_iff p).1 hp
  have LE := fun u => left_any q 11 u hq'.1 hq'.2.1 (by omega)
  rw [show q.extract (q.size - 1 - 11) (q.size - 1) = q11 q from rfl] at LE
  have l1 : (q11 q).data.toList = (q.data.toList.drop (q.size - 12)).take 11 := by
    unfold q11
    rw [ext_list _ _ _ (by omega), show q.size - 1 - 11 = q.size - 12 by omega, show q.size - 1 - (q.size - 12) = 11 by omega]
  have l2 : (p4 p).data.toList = p.data.toList.take 4 := by
    unfold p4
    rw [ext_list _ _ _ (by omega), List.drop_zero]
  have vd := vl_dg q i p hq hi hp
  obtain ⟨D, HD⟩ : ∃ D : ByteArray, D.data.toList = vl q i p := ⟨⟨(vl q i p).toArray⟩, rfl⟩
  have PA := fun bk u hbk hcs => pack_any [q11 q, i, p4 p] 3 bk 3 8 D (by show D.data.toList = _; rw [HD]; simp only [List.map_cons, List.map_nil, List.flatten_cons, List.flatten_nil, List.append_nil, l1, l2, vl, List.append_assoc])
    (by show D.size = _; rw [← sz, HD, vl_len q i p hq hi hp]) (by show asx D = true; unfold asx; rw [HD]; exact all_six_dg _ vd) (by decide) rfl (by decide) (by decide) u hbk hcs
  rw [HD, sv_dv _ vd] at PA
  have v8 := vb_size q i p hq hi hp
  have vhl := vh_len k q i p hq hi hp
  have vht := vh_lt k q i p
  have e8 := eK_size k _ v8
  unfold vh at *
  obtain ⟨X, HX⟩ : ∃ X : ByteArray, Hid ((⟨(pk (dvL (vl q i p))).toArray⟩ : ByteArray) = X) := ⟨_, rfl⟩
  rw [HX.out] at PA v8 vhl vht e8 ⊢
  have EN0 := fun g u hk => Enc_good X g 2 1 k.data.toList u (by show X.size = 8 * 1; rw [v8]) (by rw [v8]; decide) (kind16 k h16.out) hk
  have EN : ∀ g u, Key u g 2 k.data.toList → Calls Try.prog 27 #[.pointer (some ⟨g, 0, none⟩), .string X] u fun e w' => e = .returned (.tuple #[.string (eK k X), .int .i64 0]) ∧ Below u.heap.size u w' := EN0
  clear EN0
  generalize eK k X = Y at *
  have SP := fun u => spread_any Y u (by rw [e8]; decide)
  rw [hexL_nb] at SP
  generalize nb Y.data.toList = H at *
  have AD := fun u => asDigits_any H ⟨(H.map hx).toArray⟩ rfl vht vhl u
  have al : 4 ≤ (da H ++ db H).length := by rw [List.length_append, both_len, vhl]; decide
  have EX := ext4 _ al
  have es : (4 : Int) ≤ ((⟨(da H ++ db H).toArray⟩ : ByteArray).size : Int) := by rw [← sz, mk_list]; omega
  obtain ⟨Z, HZ⟩ : ∃ Z : ByteArray, Hid ((⟨(H.map hx).toArray⟩ : ByteArray) = Z) := ⟨_, rfl⟩
  rw [HZ.out] at SP AD
  generalize (⟨(da H ++ db H).toArray⟩ : ByteArray) = A at *
  generalize (⟨((da H ++ db H).take 4).toArray⟩ : ByteArray) = R at *
  rw [hq] at IQ
  rw [hp] at IP
  rw [hi] at II
  have p4' : (4 : Int) ≤ (p.size : Int) := by omega
  have EP : p.extract 0 4 = p4 p := rfl
  generalize q11 q = Q at *
  generalize p4 p = P at *
  clear vd HD l1 l2 v8 vhl vht e8 al hq hp hi hq' hp' HX HZ
  go_enter Try.func14, Try.ntmps14
  go_wp2_with fail
  refine (RG _).mono ?_
  rintro e x ⟨g, rfl, hg, hx⟩
  go_wp2_with fail
  refine (IQ _).mono ?_
  rintro e u ⟨rfl, hu⟩
  rw [hu]
  clear hu u IQ
  go_wp2_with fail
  refine (IP _).mono ?_
  rintro e u ⟨rfl, hu⟩
  rw [hu]
  clear hu u IP
  go_wp2_with fail
  refine (II _).mono ?_
  rintro e u ⟨rfl, hu⟩
  rw [hu]
  clear hu u II RG
  go_wp2_with fail
  have N1 : (x.alloc (.cells #[.string Q, .string i, .string P] 9)).drew.heap[x.heap.size]? = some (.cells #[.string Q, .string i, .string P] 9) := Cb.h1_0 x _
  have PA1 := PA x.heap.size _ (Array.getElem?_eq_some_iff.1 N1).1 (three_cells N1)
  have B1 : Below x.heap.size x (x.alloc (.cells #[.string Q, .string i, .string P] 9)).drew := (Cb.below_one x _).drew
  go_region_with (first
    | (go_at_call 28; refine (LE _).mono ?_; rintro e u ⟨rfl, hu⟩; rw [hu]; clear hu u)
    | (go_at_call 22; refine PA1.mono ?_; rintro e y ⟨rfl, hy⟩; have hg2 := key_kept (Cb.keepB B1 hy) hg)
    | (go_at_call 27; refine (EN g _ hg2).mono ?_; rintro e z ⟨rfl, hz⟩))
  all_goals
    go_wp2_with fail
    refine (SP _).mono ?_
    rintro e y1 ⟨rfl, hy1⟩
    go_wp2_with fail
    refine (AD _).mono ?_
    rintro e y2 ⟨rfl, hy2⟩
    go_wp2
    exact bodyPost_ret (v := .tuple #[.string R, .int .i64 0]) (by simp [results, Try.results14, go_sem]) rfl ⟨rfl, Cb.keepB (Cb.keepB (Cb.keepB (Cb.keepB hx (Cb.keepB B1 hy)) hz) hy1) hy2⟩
set_option maxRecDepth 100000 in
set_option maxHeartbeats 800000 in
theorem bad_pan (k q i p : ByteArray) (h16 : Hid (k.size = 16)) (sq : q.size ≤ maxLen) (si : i.size ≤ maxLen) (sp : p.size ≤ maxLen) (hq : panB q = false) (w : World) :
    Calls Try.prog 14 #[.string k, .string q, .string i, .string p] w fun e w' => e = .returned (.tuple #[.string none8, .int .i64 50]) ∧ Below w.heap.size w w' := by
  have RG := fun u => ready_good k h16 u
  have IQ := fun u => isPAN_any q u sq
  have IP := fun u => isPIN_any p u sp
  have II := fun u => idx_any i u si
  rw [hq] at IQ
  go_enter Try.func14, Try.ntmps14
  go_wp2_with fail
  refine (RG _).mono ?_
  rintro e x ⟨g, rfl, hg, hx⟩
  go_wp2_with fail
  refine (IQ _).mono ?_
  rintro e u ⟨rfl, hu⟩
  rw [hu]
  clear hu u
  go_wp2
  exact bodyPost_ret (v := .tuple #[.string none8, .int .i64 50]) (by simp [results, Try.results14, go_sem, none8]) rfl ⟨by simp, hx⟩
set_option maxRecDepth 100000 in
set_option maxHeartbeats 800000 in
theorem bad_pin (k q i p : ByteArray) (h16 : Hid (k.size = 16)) (sq : q.size ≤ maxLen) (si : i.size ≤ maxLen) (sp : p.size ≤ maxLen) (hq : panB q = true) (hp : pinB p = false) (w : World) :
    Calls Try.prog 14 #[.string k, .string q, .string i, .string p] w fun e w' => e = .returned (.tuple #[.string none8, .int .i64 60]) ∧ Below w.heap.size w w' := by
  have RG := fun u => ready_good k h16 u
  have IQ := fun u => isPAN_any q u sq
  have IP := fun u => isPIN_any p u sp
  have II := fun u => idx_any i u si
  rw [hq] at IQ
  rw [hp] at IP
  go_enter Try.func14, Try.ntmps14
  go_wp2_with fail
  refine (RG _).mono ?_
  rintro e x ⟨g, rfl, hg, hx⟩
  go_wp2_with fail
  refine (IQ _).mono ?_
  rintro e u ⟨rfl, hu⟩
  rw [hu]
  clear hu u
  go_wp2_with fail
  refine (IP _).mono ?_
  rintro e u ⟨rfl, hu⟩
  rw [hu]
  clear hu u
  go_wp2
  exact bodyPost_ret (v := .tuple #[.string none8, .int .i64 60]) (by simp [results, Try.results14, go_sem, none8]) rfl ⟨by simp, hx⟩
set_option maxRecDepth 100000 in
set_option maxHeartbeats 800000 in
theorem bad_idx (k q i p : ByteArray) (h16 : Hid (k.size = 16)) (sq : q.size ≤ maxLen) (si : i.size ≤ maxLen) (sp : p.size ≤ maxLen) (hq : panB q = true) (hp : pinB p = true) (hi : idxB i = false) (w : World) :
    Calls Try.prog 14 #[.string k, .string q, .string i, .string p] w fun e w' => e = .returned (.tuple #[.string none8, .int .i64 1]) ∧ Below w.heap.size w w' := by
  have RG := fun u => ready_good k h16 u
  have IQ := fun u => isPAN_any q u sq
  have IP := fun u => isPIN_any p u sp
  have II := fun u => idx_any i u si
  rw [hq] at IQ
  rw [hp] at IP
  rw [hi] at II
  go_enter Try.func14, Try.ntmps14
  go_wp2_with fail
  refine (RG _).mono ?_
  rintro e x ⟨g, rfl, hg, hx⟩
  go_wp2_with fail
  refine (IQ _).mono ?_
  rintro e u ⟨rfl, hu⟩
  rw [hu]
  clear hu u
  go_wp2_with fail
  refine (IP _).mono ?_
  rintro e u ⟨rfl, hu⟩
  rw [hu]
  clear hu u
  go_wp2_with fail
  refine (II _).mono ?_
  rintro e u ⟨rfl, hu⟩
  rw [hu]
  clear hu u
  go_wp2
  exact bodyPost_ret (v := .tuple #[.string none8, .int .i64 1]) (by simp [results, Try.results14, go_sem, none8]) rfl ⟨by simp, hx⟩
set_option maxRecDepth 100000 in
theorem value_any (k q i p : ByteArray) (sk : k.size ≤ maxLen) (sq : q.size ≤ maxLen) (si : i.size ≤ maxLen) (sp : p.size ≤ maxLen) (w : World) :
    Calls Try.prog 14 #[.string k, .string q, .string i, .string p] w (Post (valR k q i p) w) := by
  by_cases h16 : k.size = 16
  · cases hq : panB q
    · have e : valR k q i p = (none8, 50) := by unfold valR; rw [if_neg (by simpa using h16), if_pos hq]
      rw [e]
      exact bad_pan k q i p h16 sq si sp hq w
    · cases hp : pinB p
      · have e : valR k q i p = (none8, 60) := by unfold valR; rw [if_neg (by simpa using h16), if_neg (by simp [hq]), if_pos hp]
        rw [e]
        exact bad_pin k q i p h16 sq si sp hq hp w
      · cases hi : idxB i
        · have e : valR k q i p = (none8, 1) := by unfold valR; rw [if_neg (by simpa using h16), if_neg (by simp [hq]), if_neg (by simp [hp]), if_pos hi]
          rw [e]
          exact bad_idx k q i p h16 sq si sp hq hp hi w
        · have e : valR k q i p = (⟨((da (vh k q i p) ++ db (vh k q i p)).take 4).toArray⟩, 0) := by unfold valR; rw [if_neg (by simpa using h16), if_neg (by simp [hq]), if_neg (by simp [hp]), if_neg (by simp [hi])]
          rw [e]
          exact value_good k q i p h16 sq si sp hq hp hi w
  · have RB := fun u => ready_bad k (by rw [bne_iff_ne]; omega) u
    have e1 : valR k q i p = (none8, 30) := by unfold valR; rw [if_pos (by simpa using h16)]
    rw [e1]
    go_enter Try.func14, Try.ntmps14
    go_wp2_with fail
    refine (RB _).mono ?_
    rintro e x ⟨rfl, hx⟩
    rw [hx]
    go_wp2
    exact bodyPost_ret (v := .tuple #[.string none8, .int .i64 30]) (by simp [results, Try.results14, go_sem, none8]) rfl ⟨rfl, Below.refl _ _⟩
theorem val_bd (k q i p : ByteArray) : 0 ≤ (valR k q i p).2 ∧ (valR k q i p).2 ≤ 100 := by
  unfold valR
  repeat' split
  all_goals simp
end Go.Proofs.Ytciblmdpngnakab.Vb
