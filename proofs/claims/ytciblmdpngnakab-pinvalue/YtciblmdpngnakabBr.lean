/- PINs, plain: what is opened is laid again; values. -/
import Derived.Test.YtciblmdpngnakabFx
import Derived.Test.YtciblmdpngnakabVb
namespace Go.Proofs.Ytciblmdpngnakab.Br
set_option linter.unusedVariables false
set_option linter.unusedSimpArgs false
open Go.RowKit Lib0 Six Pp Cb Wa Bp La Va Vb
open Pq (mk_list)
open Pg (ba_ext ext_list)
open Pf (ret_bool all_no)
theorem dv_map_hx : ∀ L : List Nat, (∀ n ∈ L, n ≤ 9) → dvL (L.map hx) = L
  | [], _ => rfl
  | a :: L, h => by
    have ih := dv_map_hx L (fun n hn => h n (by simp [hn]))
    have ha := h a (by simp)
    have : ∀ x : Fin 10, (hx x.val).toNat - 48 = x.val := by decide +kernel
    simp only [dvL, List.map_cons] at *
    rw [ih, this ⟨a, by omega⟩]
theorem eq_rep : ∀ (L : List Nat) (c : Nat), (∀ n ∈ L, n = c) → L = List.replicate L.length c
  | [], _, _ => rfl
  | a :: L, c, h => by rw [List.length_cons, List.replicate_succ, ← eq_rep L c (fun n hn => h n (by simp [hn])), h a (by simp)]
theorem two_and (M : List Nat) (n : Nat) (h : 2 ≤ M.length) : M = [M.getD 0 0, M.getD 1 0] ++ (M.drop 2).take n ++ M.drop (2 + n) := by
  match M, h with
  | a :: b :: L, _ =>
    show a :: b :: L = [a, b] ++ L.take n ++ (a :: b :: L).drop (2 + n)
    rw [← List.drop_drop]
    show a :: b :: L = [a, b] ++ L.take n ++ L.drop n
    rw [List.append_assoc, List.take_append_drop]
    rfl
theorem opened (f : Int) (b q : ByteArray) (h8 : b.size = 8) (hk : kn f = true) (hq : panB q = true) :
    (openR f b q = (none8, 61) ∧ (((b.data.toList.getD 0 0).toNat / 16 : Nat) : Int) ≠ f) ∨
    ((((b.data.toList.getD 0 0).toNat / 16 : Nat) : Int) = f ∧ (openR f b q = (none8, 60) ∨
      ∃ A : ByteArray, openR f b q = (A, 0) ∧ pinB A = true ∧ A.size = (b.data.toList.getD 0 0).toNat % 16 ∧ (f = 0 → ∀ s, (blockR f A q (filS f s A.size)).1 = b))) := by
  by_cases hh : (((b.data.toList.getD 0 0).toNat / 16 : Nat) : Int) = f
  · refine Or.inr ⟨hh, ?_⟩
    have q1 : qB f q = true := by simp [qB, hq]
    have n1 : ¬ (kn f = false ∨ b.size ≠ 8 ∨ (((b.data.toList.getD 0 0).toNat / 16 : Nat) : Int) ≠ f) := by
      rintro (h | h | h)
      · rw [hk] at h; cases h
      · exact h h8
      · exact h hh
    have e : openR f b q = readR f (mix f (nb b.data.toList) q) := by unfold openR; rw [if_neg n1, if_neg (by simp [q1])]
    rw [e]
    have nl : (nb b.data.toList).length = 16 := by rw [nb_len, sz, h8]
    have nt := nb_lt b.data.toList
    have ml := mix_len f _ q q1 nl
    have mt := mix_lt f _ q q1 nt
    have mm := mix_mix f _ q q1 nl
    have hd := head_nb b (by omega)
    have m0 := mix_head f _ q q1 nl 0 (by decide)
    have m1 := mix_head f _ q q1 nl 1 (by decide)
    rw [← hd.1] at m0
    rw [← hd.2] at m1
    generalize mix f (nb b.data.toList) q = M at *
    unfold readR
    split
    · exact Or.inl rfl
    · rename_i hn
      split
      · rename_i hg
        rw [m1] at hn hg ⊢
        have hl : ((M.drop 2).take ((b.data.toList.getD 0 0).toNat % 16)).length = (b.data.toList.getD 0 0).toNat % 16 := by rw [List.length_take, List.length_drop, ml]; omega
        have h9 : ∀ n ∈ (M.drop 2).take ((b.data.toList.getD 0 0).toNat % 16), n ≤ 9 := fun n h => by simpa using List.all_eq_true.1 hg.1 n h
        have sA : (⟨(((M.drop 2).take ((b.data.toList.getD 0 0).toNat % 16)).map hx).toArray⟩ : ByteArray).size = (b.data.toList.getD 0 0).toNat % 16 := by
          rw [← sz, mk_list, List.length_map, hl]
        have aA : adg (⟨(((M.drop 2).take ((b.data.toList.getD 0 0).toNat % 16)).map hx).toArray⟩ : ByteArray) = true := by
          unfold adg
          rw [mk_list, Pg.all_hx dg (fun n => decide (n ≤ 9)) _ (fun m hm => Pg.dg_hx m (by have := h9 m hm; omega))]
          exact hg.1
        have pA := (pinB_iff (⟨(((M.drop 2).take ((b.data.toList.getD 0 0).toNat % 16)).map hx).toArray⟩ : ByteArray)).2 ⟨by rw [sA]; omega, by rw [sA]; omega, aA⟩
        refine Or.inr ⟨_, rfl, pA, sA, fun f0 s => ?_⟩
        have hf := fil_ok f s (⟨(((M.drop 2).take ((b.data.toList.getD 0 0).toNat % 16)).map hx).toArray⟩ : ByteArray).size (by rw [sA]; omega)
        rw [block_eq f _ q _ hk pA q1 hf]
        have el : lay f (⟨(((M.drop 2).take ((b.data.toList.getD 0 0).toNat % 16)).map hx).toArray⟩ : ByteArray) (filS f s (⟨(((M.drop 2).take ((b.data.toList.getD 0 0).toNat % 16)).map hx).toArray⟩ : ByteArray).size) = M := by
          unfold lay
          rw [if_pos f0, mk_list, dv_map_hx _ h9, sA]
          have t := two_and M ((b.data.toList.getD 0 0).toNat % 16) (by omega)
          have r : M.drop (2 + (b.data.toList.getD 0 0).toNat % 16) = List.replicate (14 - (b.data.toList.getD 0 0).toNat % 16) 15 := by
            have := eq_rep (M.drop (2 + (b.data.toList.getD 0 0).toNat % 16)) 15 (fun n hn' => by
              have h1 := List.all_eq_true.1 hg.2 n hn'
              have h2 := mt n (List.mem_of_mem_drop hn')
              simp only [flr, f0, if_pos, decide_eq_true_eq] at h1
              omega)
            rw [this, List.length_drop, ml]
            congr 1
            omega
          rw [← r]
          have z0 : f.toNat = M.getD 0 0 := by rw [m0]; omega
          rw [z0, ← m1]
          rw [m1]
          conv => rhs; rw [t]
          rw [m1]
        rw [el, mm]
        exact ba_ext (by rw [mk_list, pk_nb])
      · exact Or.inl rfl
  · refine Or.inl ⟨?_, hh⟩
    unfold openR; rw [if_pos (Or.inr (Or.inr hh))]
set_option maxRecDepth 100000 in
theorem number_any (s : ByteArray) (w : World) (hs : s.size ≤ maxLen) :
    Calls Try.prog 11 #[.string s] w fun e w' => e = .returned (.bool (adg s)) ∧ w' = w := by
  unfold maxLen at hs
  go_enter Try.func11, Try.ntmps11
  go_wp2
  go_loop [3] (fun i => ∃ k : Nat, k ≤ s.size ∧ i = .int .i64 k ∧ (s.data.toList.take k).all dg = true) (fun i => s.size - (intOf i).toNat)
  case atStart => exact ⟨0, Nat.zero_le _, rfl, rfl⟩
  case round =>
    obtain ⟨k, hk, rfl, hal⟩ := hrel
    have Hal : Hid ((s.data.toList.take k).all dg = true) := hal
    clear hal
    by_cases hlt : k < s.size
    · by_cases h1 : ((s[k].toNat : Nat) : Int) < 48
      · have hp : dg s[k] = false := by rw [Bool.eq_false_iff, Ne, dg_iff]; omega
        go_wp2
        go_ret
        exact ⟨ret_bool (show false = s.data.toList.all dg from (all_no dg s k hlt hp).symm), rfl⟩
      · by_cases h2 : (57 : Int) < ((s[k].toNat : Nat) : Int)
        · have hp : dg s[k] = false := by rw [Bool.eq_false_iff, Ne, dg_iff]; omega
          go_wp2
          go_ret
          exact ⟨ret_bool (show false = s.data.toList.all dg from (all_no dg s k hlt hp).symm), rfl⟩
        · have hp : dg s[k] = true := by rw [dg_iff]; omega
          have h1' : (48 : Int) ≤ ((s[k].toNat : Nat) : Int) := by omega
          have h2' : ((s[k].toNat : Nat) : Int) ≤ 57 := by omega
          go_wp2
          go_round
          case rel => exact ⟨k + 1, by omega, by go_num, all_snoc dg s k hlt Hal.out hp⟩
          case measure => simp [intOf]; omega
    · go_wp2
      go_ret
      exact ⟨ret_bool (by have := Hal.out; rw [take_all s k (by omega)] at this; exact this.symm), rfl⟩
/-- values -/
theorem val_eq (k q i p : ByteArray) (h16 : k.size = 16) (hq : panB q = true) (hp : pinB p = true) (hi : idxB i = true) : valR k q i p = (⟨((da (vh k q i p) ++ db (vh k q i p)).take 4).toArray⟩, 0) := by
  unfold valR; rw [if_neg (by simpa using h16), if_neg (by simp [hq]), if_neg (by simp [hp]), if_neg (by simp [hi])]
theorem val_same (k q q' i p p' : ByteArray) (h16 : k.size = 16) (hq : panB q = true) (hq' : panB q' = true) (hp : pinB p = true) (hp' : pinB p' = true) (hi : idxB i = true) (hv : vl q' i p' = vl q i p) : valR k q' i p' = valR k q i p := by
  rw [val_eq k q i p h16 hq hp hi, val_eq k q' i p' h16 hq' hp' hi]
  unfold vh
  rw [hv]
theorem val_dg (k q i p : ByteArray) (hq : panB q = true) (hp : pinB p = true) (hi : idxB i = true) : (((da (vh k q i p) ++ db (vh k q i p)).take 4).all dg = true) ∧ ((da (vh k q i p) ++ db (vh k q i p)).take 4).length = 4 := by
  have hl := vh_len k q i p hq hi hp
  have ht := vh_lt k q i p
  constructor
  · rw [List.all_eq_true]
    intro c hc
    have hc := List.mem_of_mem_take hc
    rcases List.mem_append.1 hc with h | h
    · simp only [da, List.mem_map, List.mem_filter, decide_eq_true_eq] at h
      obtain ⟨n, ⟨_, h10⟩, rfl⟩ := h
      rw [Pg.dg_hx n (by omega)]; simp; omega
    · simp only [db, List.mem_map, List.mem_filter, decide_eq_true_eq] at h
      obtain ⟨n, ⟨hm, h10⟩, rfl⟩ := h
      have := ht n hm
      rw [Pg.dg_hx (n - 10) (by omega)]; simp; omega
  · rw [List.length_take, List.length_append, both_len, hl]; decide
end Go.Proofs.Ytciblmdpngnakab.Br
