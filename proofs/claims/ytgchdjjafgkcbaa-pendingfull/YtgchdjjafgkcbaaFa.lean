/- PendingFull, plain: requests n = 0, 1, .. in a table whose time does not go on. -/
import Derived.Test.YtgchdjjafgkcbaaSa
import Derived.Test.YtgchdjjafgkcbaaVh
namespace Go.Proofs.Ytgchdjjafgkcbaa.Fa
set_option linter.unusedVariables false
set_option linter.unusedSimpArgs false
open Go.RowKit Go.Maps Go.Shelf Lib0 Kb Xp Za Ze Pa Pb Pc Pe Pf Pg Px Pl Pw Py Ra Sa Vh Fh
def vd (l : List UInt8) : Nat := l.foldl (fun a c => a * 10 + (c.toNat - 48)) 0
theorem vd_dec (n : Nat) : vd (dec n) = n := by
  induction n using Nat.strongRecOn with
  | ind n ih =>
    rw [dec]
    by_cases h : n = 0
    · simp [h, vd]
    · have h1 := ih (n / 10) (by omega)
      simp only [h, dif_neg, not_false_eq_true]
      unfold vd at h1 ⊢
      rw [List.foldl_append, h1]
      have : (UInt8.ofNat (48 + n % 10)).toNat = 48 + n % 10 := by
        rw [UInt8.toNat_ofNat']
        omega
      simp only [List.foldl_cons, List.foldl_nil, this]
      omega
theorem ks_inj {a b : Nat} (h : ks a = ks b) : a = b := by
  have h1 : dec a = dec b := by
    unfold ks at h
    injection h with h
    exact congrArg Array.toList h
  rw [← vd_dec a, h1, vd_dec b]
theorem dec_len (n : Nat) : (dec n).length ≤ n := by
  induction n using Nat.strongRecOn with
  | ind n ih =>
    rw [dec]
    by_cases h : n = 0
    · simp [h]
    · have h1 := ih (n / 10) (by omega)
      simp only [h, dif_neg, not_false_eq_true, List.length_append, List.length_singleton]
      omega
theorem ks_size (n : Nat) : (ks n).size ≤ n := by
  have := dec_len n
  show (dec n).toArray.size ≤ n
  simpa using this
theorem ro_req {n : Nat} (hn : n ≤ 1000000) : Ro (req n) := by
  have h1 := ks_size n
  refine ⟨?_, ?_, ?_, ?_, ?_, ?_, ?_, ?_, ?_, ⟨?_, ?_, ?_⟩, ⟨?_, ?_, ?_⟩⟩
  · show I64 ((n : Int) % 3); unfold I64; omega
  · show I64 0; unfold I64; omega
  · show (ks n).size ≤ _; omega
  · show (1 : Nat) ≤ _; omega
  · show (0 : Nat) ≤ _; omega
  · show I64 ((n : Int) % 4); unfold I64; omega
  · show I64 (n : Int); unfold I64; omega
  · show (4 : Nat) ≤ _; omega
  · show (4 : Nat) ≤ _; omega
  · show (1 : Nat) ≤ _; omega
  · intro x hx
    rw [List.mem_singleton.1 hx]
    show -9223372036854775808 ≤ (11 : Int) ∧ (11 : Int) ≤ 9223372036854775807
    omega
  · intro x hx
    rw [List.mem_singleton.1 hx]
    show (ks n).size ≤ _
    omega
  · show (0 : Nat) ≤ _; omega
  · intro x hx; cases hx
  · intro x hx; cases hx
theorem map_erase {α β : Type} (f : α → β) : ∀ (L : List α) (k : Nat), (L.eraseIdx k).map f = (L.map f).eraseIdx k
  | [], k => by simp
  | x :: L, 0 => by simp
  | x :: L, k + 1 => by simp [map_erase f L k]
/-- one is taken out by its timer: the others stay in their order -/
theorem off_idx : ∀ (L : List XQ) (k : Nat) (h : k < L.length), L.Pairwise (fun x y => x.1 ≠ y.1) → offT L (L[k]).1 = L.eraseIdx k
  | [], k, h, _ => by simp at h
  | x :: L, 0, h, hp => by
    obtain ⟨h1, -⟩ := List.pairwise_cons.1 hp
    simp only [List.getElem_cons_zero, List.eraseIdx_cons_zero, offT]
    rw [List.filter_cons_of_neg (by simp)]
    exact List.filter_eq_self.2 fun y hy => by simpa using (h1 y hy).symm
  | x :: L, k + 1, h, hp => by
    obtain ⟨h1, h2⟩ := List.pairwise_cons.1 hp
    have ih := off_idx L k (by simpa using h) h2
    have hk : k < L.length := by simpa using h
    have hne : x.1 ≠ (L[k]).1 := h1 _ (List.getElem_mem hk)
    simp only [List.getElem_cons_succ, List.eraseIdx_cons_succ]
    unfold offT at ih ⊢
    rw [List.filter_cons_of_pos (by simpa using hne), ih]
/-- what the table holds: the requests of l, in that order -/
structure Fs (l : List Nat) (S : St) : Prop where
  lw : S.LW.map (·.2.2.2) = l.map req
  lr : S.LR = []
  now : S.now = 0
  tick : ∀ x ∈ S.LW, x.2.1 = 5
  small : ∀ n ∈ l, n ≤ 1000000
theorem Fs.ticks {l : List Nat} {S : St} (h : Fs l S) : S.LW.Pairwise fun x y => x.2.1 ≤ y.2.1 := by
  rw [List.pairwise_iff_forall_sublist]
  intro a b hs
  have h1 := h.tick a (hs.subset (by simp))
  have h2 := h.tick b (hs.subset (by simp))
  omega
theorem Fs.len {l : List Nat} {S : St} (h : Fs l S) : S.LW.length = l.length := by have := congrArg List.length h.lw; simpa using this
theorem Fs.mem {l : List Nat} {S : St} (h : Fs l S) {x : XQ} (hx : x ∈ S.LW) : ∃ n ∈ l, x.2.2.2 = req n := by
  have : x.2.2.2 ∈ l.map req := h.lw ▸ List.mem_map.2 ⟨x, hx, rfl⟩
  obtain ⟨n, h1, h2⟩ := List.mem_map.1 this
  exact ⟨n, h1, h2.symm⟩
theorem Fs.newK {l : List Nat} {S : St} (h : Fs l S) {n : Nat} (hr : Ro (req n)) (ha : ∀ k ∈ l, Ro (req k)) (hn : n ∉ l) : ¬ ∃ x ∈ S.LW, kl x.2.2.2 = kl (req n) := by
  rintro ⟨x, hx, e⟩
  obtain ⟨k, hk, e2⟩ := h.mem hx
  rw [e2] at e
  exact hn (ks_inj ((Eqk.key_inj (ha k hk) hr).1 e).2.2.1 ▸ hk)
theorem Fs.newN {l : List Nat} {S : St} (h : Fs l S) {n : Nat} (hr : Ro (req n)) (ha : ∀ k ∈ l, Ro (req k)) (hn : n ∉ l) : ¬ ∃ x ∈ S.LW ++ S.LR, nl x.2.2.2 = nl (req n) := by
  rintro ⟨x, hx, e⟩
  rw [h.lr, List.append_nil] at hx
  obtain ⟨k, hk, e2⟩ := h.mem hx
  rw [e2] at e
  have h3 : ((k : Nat) : Int) = (n : Int) := ((Eqk.nm_inj (ha k hk) hr).1 e).2
  have h4 : k = n := by omega
  exact hn (h4 ▸ hk)
theorem Fs.add {l : List Nat} {S : St} (h : Fs l S) {C : Cf} (hC : C.timeout = 5) (g n : Nat) (hn : n ≤ 1000000) : Fs (l ++ [n]) (addS S C g (req n)) := by
  refine ⟨?_, h.lr, h.now, fun x hx => ?_, fun k hk => ?_⟩
  · show (S.LW ++ [_]).map _ = _
    rw [List.map_append, List.map_append, h.lw]; rfl
  · rcases List.mem_append.1 hx with hx | hx
    · exact h.tick x hx
    · rw [List.mem_singleton.1 hx]
      show S.now + C.timeout = 5
      rw [h.now, hC]; rfl
  · rcases List.mem_append.1 hk with hk | hk
    · exact h.small k hk
    · rw [List.mem_singleton.1 hk]; exact hn
theorem Fs.off {l : List Nat} {S : St} (h : Fs l S) {n : Nat} {now last : Int} (ok : Ok n (S.LW.map tx) now last) (k : Nat) (hk : k < S.LW.length) : Fs (l.eraseIdx k) { S with LW := offT S.LW (S.LW[k]).1 } := by
  have hi : Vd.Inc3 (S.LW.map t3) := Vd.inc_emb (by rw [t3_emb]; exact ok.inc)
  have hp : S.LW.Pairwise fun x y => x.1 ≠ y.1 := by
    have := hi.ne
    rw [List.pairwise_map] at this
    exact this
  have e := off_idx S.LW k hk hp
  refine ⟨?_, h.lr, h.now, fun x hx => ?_, fun m hm => h.small m (List.mem_of_mem_eraseIdx hm)⟩
  · show (offT S.LW (S.LW[k]).1).map _ = _
    rw [e, map_erase, h.lw, ← map_erase]
  · have hx2 : x ∈ offT S.LW (S.LW[k]).1 := hx
    rw [e] at hx2
    exact h.tick x (List.mem_of_mem_eraseIdx hx2)
end Go.Proofs.Ytgchdjjafgkcbaa.Fa
