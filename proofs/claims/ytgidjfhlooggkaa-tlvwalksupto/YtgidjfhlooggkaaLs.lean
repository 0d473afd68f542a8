/- Nodes: what fits, how many bytes they are. -/
import Derived.Test.YtgidjfhlooggkaaNt
import Derived.Test.YtgidjfhlooggkaaGc
import Derived.Test.YtgidjfhlooggkaaQl
import Derived.Test.YtgidjfhlooggkaaGj
import Derived.BigQuiet
namespace Go.Proofs.Ytgidjfhlooggkaa.Ls
set_option linter.unusedVariables false
set_option linter.unusedSimpArgs false
open Go.RowKit Kb Ga Gb Gc Nt
/-- does a tag stand for what a node has? -/
def ftB (t : Int) (v : ByteArray) (kl : Nat) : Bool := if mkd t then decide (v.size = 0) else decide (0 < tgS t) && decide (kl = 0)
theorem size0 {v : ByteArray} (h : v.size = 0) : v = ⟨#[]⟩ := by
  apply ByteArray.ext
  exact Array.eq_empty_of_size_eq_zero h
set_option maxRecDepth 100000 in
theorem fits_any (t : Int) (v : ByteArray) (o : Option Addr) (kl kc : Nat) (w : World) (ht : t ≤ 9223372036854775807) (hk : kl ≤ 1048576) :
    Calls Try.prog 72 #[.agg #[.int .i64 t, .string v, .slice o kl kc]] w fun e w' => e = .returned (.bool (ftB t v kl)) ∧ Below w.heap.size w w' := by
  obtain ⟨R, HR⟩ : ∃ R, Hid (ftB t v kl = R) := ⟨_, rfl⟩
  rw [HR.out]
  have h0 := h1_0 w (.cells #[.int .i64 t, .string v, .slice o kl kc] 40)
  have B0 := below_one w (.cells #[.int .i64 t, .string v, .slice o kl kc] 40)
  go_enter Try.func72, Try.ntmps72
  go_wp2_with fail
  refine (marked_any t _ ht).mono ?_
  rintro _ x ⟨rfl, hx⟩
  have hb := keepB B0 hx
  have hn := kept hx h0
  generalize w.alloc (.cells #[.int .i64 t, .string v, .slice o kl kc] 40) = W at *
  have c0 : x.cell? ⟨w.heap.size, 0, none⟩ = some (.int .i64 t) := by simp [World.cell?, hn]
  have c1 : x.cell? ⟨w.heap.size, 1, none⟩ = some (.string v) := by simp [World.cell?, hn]
  have c2 : x.cell? ⟨w.heap.size, 2, none⟩ = some (.slice o kl kc) := by simp [World.cell?, hn]
  clear h0 B0 hx hn
  by_cases hm : mkd t = true
  · rw [hm]
    by_cases hv : v.size = 0
    · have HE : Hid (R = true) := by show _ = _; rw [← HR.out]; unfold ftB; rw [hm, if_pos rfl]; simpa using hv
      obtain rfl := size0 hv
      clear hv
      go_wp2
      go_ret
      exact ⟨by rw [HE.out]; rfl, hb⟩
    · have HE : Hid (R = false) := by show _ = _; rw [← HR.out]; unfold ftB; rw [hm, if_pos rfl]; simpa using hv
      have hne : v.toList.isEmpty = false := by rw [ByteArray.toList_eq, List.isEmpty_eq_false_iff]; exact fun h => hv (by have := congrArg List.length h; simpa using this)
      go_wp2
      go_ret
      exact ⟨by rw [HE.out]; rfl, hb⟩
  · have hm' : mkd t = false := by simpa using hm
    rw [hm']
    by_cases h1 : 0 < tgS t
    · have HE : Hid (R = decide (kl = 0)) := by show _ = _; rw [← HR.out]; unfold ftB; rw [if_neg hm]; simp [h1]
      have ts := fun y => tagSize_any t y ht
      obtain ⟨S, HS⟩ : ∃ S, Hid (tgS t = S) := ⟨_, rfl⟩
      simp only [HS.out] at ts
      rw [HS.out] at h1
      go_wp2_with fail
      refine (ts _).mono ?_
      rintro _ y ⟨rfl, rfl⟩
      go_wp2
      go_ret
      refine ⟨?_, hb⟩
      rw [HE.out]
      by_cases hk0 : kl = 0
      · subst hk0; rfl
      · simp [hk0]
    · have HE : Hid (R = false) := by show _ = _; rw [← HR.out]; unfold ftB; rw [if_neg hm]; simp; intro h; exact absurd h h1
      have ts := fun y => tagSize_any t y ht
      obtain ⟨S, HS⟩ : ∃ S, Hid (tgS t = S) := ⟨_, rfl⟩
      simp only [HS.out] at ts
      rw [HS.out] at h1
      go_wp2_with fail
      refine (ts _).mono ?_
      rintro _ y ⟨rfl, rfl⟩
      go_wp2
      go_ret
      exact ⟨by rw [HE.out]; rfl, hb⟩
/-- how many bytes nodes are -/
def lsz : List AT → Nat
  | [] => 0
  | .mk t v _ ks :: ts => (tgS t).toNat + (lnS ((v.size + lsz ks : Nat) : Int)).toNat + (v.size + lsz ks) + lsz ts
def csz (a : AT) : Nat := a.val.size + lsz a.kids
def osz (a : AT) : Nat := (tgS a.tag).toNat + (lnS (csz a : Int)).toNat + csz a
theorem lsz_append : ∀ a b : List AT, lsz (a ++ b) = lsz a + lsz b
  | [], b => by simp [lsz]
  | .mk t v kv ks :: a, b => by simp only [List.cons_append, lsz, lsz_append a b]; omega
theorem lsz_one (a : AT) : lsz [a] = osz a := by cases a; simp only [lsz, osz, csz, AT.tag, AT.val, AT.kids]; omega
theorem lsz_snoc (ts : List AT) (i : Nat) (h : i < ts.length) : lsz (ts.take (i + 1)) = lsz (ts.take i) + osz ts[i] := by
  rw [List.take_succ_eq_append_getElem h, lsz_append, lsz_one]
theorem lsz_take (ts : List AT) (i : Nat) : lsz (ts.take i) ≤ lsz ts := by
  have h1 : ts = ts.take i ++ ts.drop i := (List.take_append_drop _ _).symm
  have : lsz ts = lsz (ts.take i) + lsz (ts.drop i) := by conv => lhs; rw [h1, lsz_append]
  omega
theorem lsz_at {ts : List AT} {i : Nat} (h : i < ts.length) : lsz (ts.take i) + osz ts[i] ≤ lsz ts := by
  have := lsz_snoc ts i h
  have := lsz_take ts (i + 1)
  omega
theorem tgS_bd (t : Int) : 0 ≤ tgS t ∧ tgS t ≤ 3 := by
  unfold tgS
  repeat' split
  all_goals omega
theorem lnS_bd (n : Int) : 1 ≤ lnS n ∧ lnS n ≤ 3 := by
  unfold lnS
  repeat' split
  all_goals omega
def SizeC (m : Nat) : Prop := ∀ (ts : List AT), SizeOf.sizeOf ts ≤ m → ∀ (v : Value) (w : World), Rdn w v ts → lsz ts ≤ 1099511627776 →
  Calls Try.prog 41 #[v] w fun e w' => e = .returned (.int .i64 (lsz ts : Int)) ∧ Below w.heap.size w w'
set_option maxRecDepth 100000 in
theorem content_any {m : Nat} (ih : SizeC m) (t : Int) (v : ByteArray) (kv : Value) (ks : List AT) (hm : SizeOf.sizeOf ks ≤ m) (w : World) (hr : Rdn w kv ks) (hl : v.size + lsz ks ≤ 1099511627776) :
    Calls Try.prog 73 #[.agg #[.int .i64 t, .string v, kv]] w fun e w' => e = .returned (.int .i64 ((v.size + lsz ks : Nat) : Int)) ∧ Below w.heap.size w w' := by
  obtain ⟨o, cap, hkv, -⟩ := hr.row
  obtain ⟨KL, HKL⟩ : ∃ KL, Hid (ks.length = KL) := ⟨_, rfl⟩
  rw [HKL.out] at hkv
  subst hkv
  have IHK := fun (y : World) (hy : Rdn y (.slice o KL cap) ks) => ih ks hm (.slice o KL cap) y hy (by omega)
  obtain ⟨S, HS⟩ : ∃ S, Hid (lsz ks = S) := ⟨_, rfl⟩
  simp only [HS.out] at IHK
  rw [HS.out] at hl ⊢
  have h0 := h1_0 w (.cells #[.int .i64 t, .string v, .slice o KL cap] 40)
  have B0 := below_one w (.cells #[.int .i64 t, .string v, .slice o KL cap] 40)
  go_enter Try.func73, Try.ntmps73
  go_wp2_with fail
  have cl := fun (y : World) (hy : Below (w.alloc (.cells #[.int .i64 t, .string v, .slice o KL cap] 40)).heap.size (w.alloc (.cells #[.int .i64 t, .string v, .slice o KL cap] 40)) y) => IHK y (hr.below (keepB B0 hy))
  have hsz : (w.alloc (.cells #[.int .i64 t, .string v, .slice o KL cap] 40)).heap.size = w.heap.size + 1 := by simp
  generalize w.alloc (.cells #[.int .i64 t, .string v, .slice o KL cap] 40) = W at *
  have c1 : W.cell? ⟨w.heap.size, 1, none⟩ = some (.string v) := by simp [World.cell?, h0]
  have c2 : W.cell? ⟨w.heap.size, 2, none⟩ = some (.slice o KL cap) := by simp [World.cell?, h0]
  have lt : w.heap.size < W.heap.size := by omega
  clear hr h0 hsz ih
  refine Ql.region_cl (by kernel_rfl) (by kernel_rfl) ?_
  repeat (first | go_big_quiet_skip | (go_big_quiet_want; go_big_quiet_op; first | go_big_quiet_on | (refine ⟨_, fun _ _ => rfl, ?_⟩; go_big_quiet_on) | (refine ⟨_, fun _ _ => ⟨rfl, rfl⟩, ?_⟩; go_big_quiet_on)) | (refine wpQuiet_step (fun K hK => ?_); first
    | (refine Ql.q_cell (by rfl) 9 _ rfl w.heap.size 1 rfl _ c1 lt (fun y => Try.isAgg9 y) (hK _ ?_); clear hK K; simp only [Act.put, List.setIfInBounds_toArray, List.set_cons_succ, List.set_cons_zero])
    | (refine Ql.q_cell (by rfl) 23 _ rfl w.heap.size 2 rfl _ c2 lt (fun y => Try.isAgg23 y) (hK _ ?_); clear hK K; simp only [Act.put, List.setIfInBounds_toArray, List.set_cons_succ, List.set_cons_zero])
    | (go_simp; apply Exists.intro; refine ⟨fun y hy => ?_, hK _ ?_⟩; (go_at_call 41; exact Ql.cl_of hy (cl y hy)); clear hK K)))
  refine wpQuiet_nil ?_
  intro y hy
  have b2 := keepB B0 hy
  go_wp2_with fail
  go_ret
  exact ⟨by rfl, b2⟩
set_option maxRecDepth 100000 in
set_option maxHeartbeats 1600000 in
theorem size_step {m : Nat} (ih : SizeC m) : SizeC (m + 1) := by
  intro ts hm v w hr hl
  have HR : Hid (Rdn w v ts) := hr
  obtain ⟨o, cap, e, hN, -⟩ := hr.row
  obtain ⟨N, HN, hN2⟩ : ∃ N : Nat, Hid (ts.length = N) ∧ N ≤ 1048576 := ⟨_, rfl, hN⟩
  rw [HN.out] at e
  subst e
  have HM : Hid (SizeOf.sizeOf ts ≤ m + 1) := hm
  have HL : Hid (lsz ts ≤ 1099511627776) := hl
  clear hr hm hl hN
  go_enter Try.func41, Try.ntmps41
  go_wp2
  go_loopw [3, 9] (fun va vi wr => ∃ (i S : Nat), i ≤ N ∧ vi = .int .i64 (i : Int) ∧ va = .int .i64 (S : Int) ∧ Hid (lsz (ts.take i) = S) ∧ S ≤ 1099511627776 ∧ Below w.heap.size w wr) (fun _ vi _ => N - (intOf vi).toNat)
  case atStart => exact ⟨0, 0, Nat.zero_le _, rfl, rfl, by show _ = _; simp [lsz], by omega, Below.refl _ _⟩
  case round =>
    obtain ⟨i, S, hi, rfl, rfl, HS, hS, hwr⟩ := hrel
    rename World => wr
    by_cases hlt : i < N
    · have hlt' : (i : Int) < (N : Int) := by omega
      have hit : i < ts.length := by rw [HN.out]; exact hlt
      obtain ⟨o', cap', e', _, hc⟩ := (HR.out.below hwr).row
      obtain ⟨a, ea, d0, d1, d2⟩ := hc i hit
      rw [HN.out] at e'
      obtain ⟨rfl, rfl⟩ : o = o' ∧ cap = cap' := by simpa using e'
      subst ea
      have hk := rdL_at ts i hit HR.out.kids
      have hkl := kids_lt hit
      have HS2 := lsz_snoc ts i hit
      have HA := lsz_at hit
      clear hc e'
      obtain ⟨nd, hnd⟩ : ∃ nd, nd = ts[i] := ⟨_, rfl⟩
      rw [← hnd] at d0 d1 d2 hk hkl HS2 HA
      clear hnd
      cases nd with
      | mk tag val kv ks =>
      simp only [AT.tag, AT.val, AT.kv, AT.kids, osz, csz] at d0 d1 d2 hk hkl HS2 HA
      obtain ⟨ko, kc, hkv, -⟩ := hk.1.row
      obtain ⟨KL, HKL⟩ : ∃ KL, Hid (ks.length = KL) := ⟨_, rfl⟩
      rw [HKL.out] at hkv
      subst hkv
      have hM := HM.out
      have hL := HL.out
      have hr1 := fun (y : World) (hy : Below w.heap.size w y) => hk.1.below hy
      obtain ⟨C, HC, hC⟩ : ∃ C, Hid (val.size + lsz ks = C) ∧ C ≤ 1099511627776 := ⟨_, rfl, by omega⟩
      have cc := fun (y : World) (hy : Below w.heap.size w y) => content_any ih tag val (.slice ko KL kc) ks (by omega) y (hr1 y hy) (by rw [HC.out]; omega)
      simp only [HC.out] at cc
      rw [HC.out] at HS2 HA
      have ts1 := fun y => tagSize_any tag y hk.2.2.2
      have ls1 := fun y => lengthSize_any (C : Int) y
      have tb := tgS_bd tag
      have lb := lnS_bd (C : Int)
      obtain ⟨T, HT⟩ : ∃ T : Nat, Hid (tgS tag = (T : Int)) := ⟨(tgS tag).toNat, by show _ = _; omega⟩
      obtain ⟨M, HMl⟩ : ∃ M : Nat, Hid (lnS (C : Int) = (M : Int)) := ⟨(lnS (C : Int)).toNat, by show _ = _; omega⟩
      simp only [HT.out] at ts1
      simp only [HMl.out] at ls1
      rw [HT.out] at HS2 HA tb
      rw [HMl.out] at HS2 HA lb
      simp only [Int.toNat_natCast] at HS2 HA
      rw [HS.out] at HS2 HA
      have HS3 : Hid (lsz (ts.take (i + 1)) = S + (T + M + C)) := HS2
      have hA2 : S + (T + M + C) ≤ 1099511627776 := by omega
      have hn1 := h1_0 wr (.cells #[.int .i64 tag, .string val, .slice ko KL kc] 40)
      have hb1 := hwr.trans ((below_one wr (.cells #[.int .i64 tag, .string val, .slice ko KL kc] 40)).mono hwr.size)
      clear hk hkl hM hL hr1 HS2 HA HS HM HL HC HT HMl
      go_wp2_with fail
      clear d0 d1 d2
      generalize wr.alloc (.cells #[.int .i64 tag, .string val, .slice ko KL kc] 40) = W1 at *
      refine (cc W1 hb1).mono ?_
      rintro _ x ⟨rfl, hx⟩
      have hn2 := kept hx hn1
      have c0 : x.cell? ⟨wr.heap.size, 0, none⟩ = some (.int .i64 tag) := by simp [World.cell?, hn2]
      have hb2 := keepB hb1 hx
      clear cc hn1 hn2 hx
      go_wp2_with fail
      refine (ts1 _).mono ?_
      rintro _ y ⟨rfl, rfl⟩
      go_wp2_with fail
      refine (ls1 _).mono ?_
      rintro _ y2 ⟨rfl, rfl⟩
      clear ts1 ls1 c0
      go_wp2_with fail
      go_round
      case rel => exact ⟨i + 1, S + (T + M + C), by omega, by go_num, by go_num, HS3, hA2, hb2⟩
      case measure => simp [intOf]; omega
    · have HE : Hid (lsz ts = S) := by
        have := HS.out
        rw [List.take_of_length_le (by rw [HN.out]; omega)] at this
        exact this
      have hlt' : ¬ (i : Int) < (N : Int) := by omega
      go_wp2
      go_ret
      exact ⟨by rw [HE.out]; rfl, hwr⟩
theorem size_all : ∀ m, SizeC m
  | 0 => fun ts hm => by cases ts <;> simp at hm
  | m + 1 => size_step (size_all m)
theorem listSize_any (ts : List AT) (v : Value) (w : World) (hr : Rdn w v ts) (hl : lsz ts ≤ 1099511627776) :
    Calls Try.prog 41 #[v] w fun e w' => e = .returned (.int .i64 (lsz ts : Int)) ∧ Below w.heap.size w w' := size_all _ ts (Nat.le_refl _) v w hr hl
theorem contentSize_any (t : Int) (v : ByteArray) (kv : Value) (ks : List AT) (w : World) (hr : Rdn w kv ks) (hl : v.size + lsz ks ≤ 1099511627776) :
    Calls Try.prog 73 #[.agg #[.int .i64 t, .string v, kv]] w fun e w' => e = .returned (.int .i64 ((v.size + lsz ks : Nat) : Int)) ∧ Below w.heap.size w w' := content_any (size_all _) t v kv ks (Nat.le_refl _) w hr hl
end Go.Proofs.Ytgidjfhlooggkaa.Ls
