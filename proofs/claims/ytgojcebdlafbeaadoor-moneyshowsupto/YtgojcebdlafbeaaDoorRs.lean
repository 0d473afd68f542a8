/- Show and Read: the document's. -/
import Derived.Test.YtgojcebdlafbeaaDoorSh
import Derived.Test.YtgojcebdlafbeaaDoorPr
namespace Go.Proofs.YtgojcebdlafbeaaDoor.Rs
set_option linter.unusedVariables false
open Go.RowKit Kb Cp Np Mp Pp Pc Ms Sw Sh Pr
theorem one_app (c : UInt8) (l : List UInt8) : (⟨#[c]⟩ : ByteArray) ++ ⟨l.toArray⟩ = ⟨(c :: l).toArray⟩ := by
  apply ByteArray.ext
  rw [ByteArray.data_append]
  simp
theorem conv_one {P : Program} {w : World} {src dst e : TypeId} {g : Nat} {c : Nat} {t : TypeId} {fr : Nat × Nat} (hc : c < 256) (hs : P.underlying src = some (.slice e)) (he : P.underlying e = some (.int .u8)) (hd : P.underlying dst = some .string)
    (hg : w.heap[g]? = some (.cells #[.int .u8 (c : Int)] t fr)) : (convert src dst (.slice (some ⟨g, 0, none⟩) 1 1)).run P w = .ok (.string ⟨#[UInt8.ofNat c]⟩) w := by
  have h := run_convert_bytes_back (P := P) w src dst e ⟨g, 0, none⟩ 1 [UInt8.ofNat c] hs he hd (fun j hj => by
    obtain rfl : j = 0 := by simpa using hj
    rw [show (⟨g, 0, none⟩ : Addr).add 0 = ⟨g, 0, none⟩ by unfold Addr.add; split <;> simp_all, show w.cell? ⟨g, 0, none⟩ = some (.int .u8 (c : Int)) by simp [World.cell?, hg]]
    simp; omega)
  exact h
theorem conv_new (w : World) (m : Nat) (hm : m < 10) :
    (convert 45 9 (.slice (some ⟨w.heap.size, 0, none⟩) 1 1)).run Tryd.prog (w.alloc (Obj.cells #[.int .u8 (48 + (m : Int))] 5)) = .ok (.string ⟨#[UInt8.ofNat (48 + m)]⟩) (w.alloc (Obj.cells #[.int .u8 (48 + (m : Int))] 5)) :=
  conv_one (c := 48 + m) (by omega) Tryd.underlying45 Tryd.underlying5 Tryd.underlying9 (h1_0 w _)
set_option maxRecDepth 100000 in
set_option maxHeartbeats 400000 in
theorem digits_any (n : Int) (k : Nat) (n0 : 0 ≤ n) (n1 : n ≤ 999999999999) (hk : 1 ≤ k) (hk2 : k ≤ 4) (w : World) : Calls Tryd.prog 17 #[.int .i64 n, .int .i64 (k : Int)] w fun e w' => e = .returned (.string ⟨(pd n.toNat k).toArray⟩) ∧ Below w.heap.size w w' := by
  go_enter Tryd.func17, Tryd.ntmps17
  go_wp2_with fail
  go_loopw [0, 5] (fun nn ss wr => ∃ (i : Nat) (N : Int) (S : ByteArray), nn = .int .i64 N ∧ ss = .string S ∧ i ≤ max k (Lib.nDigits n.toNat) ∧ Hid (S = ⟨(dz i n.toNat).toArray⟩ ∧ N = ((n.toNat / 10 ^ i : Nat) : Int)) ∧ Below w.heap.size w wr) (fun nn ss _ => max k (Lib.nDigits n.toNat) + 1 - (match ss with | .string b => b.size | _ => 0))
  case atStart => exact ⟨0, n, _, rfl, rfl, Nat.zero_le _, ⟨rfl, by simp; omega⟩, Below.refl _ _⟩
  case round =>
    obtain ⟨i, N, S, rfl, rfl, hi, HR, hb⟩ := hrel
    have SZ : S.size = i := by
      rw [HR.out.1]
      show (dz i n.toNat).toArray.size = i
      rw [List.size_toArray, dz_length]
    have h12 : Lib.nDigits n.toNat ≤ 12 := nd_13 _ (by omega)
    have hi12 : i ≤ 12 := by omega
    have N0 : 0 ≤ N := by rw [HR.out.2]; exact Int.natCast_nonneg _
    have N1 : N ≤ 999999999999 := by
      have := Nat.div_le_self n.toNat (10 ^ i)
      have := HR.out.2
      omega
    by_cases hc : i < max k (Lib.nDigits n.toNat)
    · obtain ⟨d, hd⟩ : ∃ d : Nat, N.tmod 10 = (d : Int) := ⟨(N.tmod 10).toNat, by have := Int.tmod_nonneg 10 N0; omega⟩
      have hd2 : N.tmod 10 = N % 10 := Int.tmod_eq_emod_of_nonneg N0
      have d1 : d < 10 := by omega
      have e10 : N % 10 = (d : Int) := by omega
      have q10 : N.tdiv 10 = N / 10 := Int.tdiv_eq_ediv_of_nonneg N0
      have HS : Hid ((⟨#[UInt8.ofNat (48 + d)]⟩ : ByteArray) ++ S = ⟨(dz (i + 1) n.toNat).toArray⟩ ∧ N / 10 = ((n.toNat / 10 ^ (i + 1) : Nat) : Int)) := by
        obtain ⟨h1, h2⟩ := HR.out
        constructor
        · rw [h1, one_app, dz, show n.toNat / 10 ^ i % 10 = d by omega]
        · rw [h2, Nat.pow_succ, ← Nat.div_div_eq_div_mul]; rfl
      have HC : N ≤ 0 → i < k := fun h => by
        rcases Nat.lt_or_ge i k with x | x
        · exact x
        · exfalso
          have h2 := HR.out.2
          have h3 : n.toNat / 10 ^ i = 0 := by omega
          have h4 : n.toNat < 10 ^ i := by
            rcases Nat.div_eq_zero_iff.1 h3 with h5 | h5
            · have := Nat.pow_pos (n := i) (show 0 < 10 by decide); omega
            · exact h5
          have := nd_le n.toNat i (by omega) h4
          omega
      have cv := conv_new wr d d1
      obtain ⟨ch, hch⟩ : ∃ ch, UInt8.ofNat (48 + d) = ch := ⟨_, rfl⟩
      rw [hch] at cv HS
      clear hch
      have s1 : ¬ 9223372036854775807 < 1 + i := by omega
      have hb2 := keepB hb (below_one wr (Obj.cells #[.int .u8 (48 + (d : Int))] 5))
      have HM : Hid (i < max k (Lib.nDigits n.toNat) ∧ S.size = i) := ⟨hc, SZ⟩
      by_cases hN : 0 < N
      · clear HC hd2 HR hc hi
        go_wp2
        refine ⟨⟨i + 1, _, _, rfl, rfl, by have := HM.out; omega, HS, hb2⟩, ?_⟩
        obtain ⟨h1, h2⟩ := HM.out
        show max k (Lib.nDigits n.toNat) + 1 - ((⟨#[ch]⟩ : ByteArray) ++ S).size < max k (Lib.nDigits n.toNat) + 1 - S.size
        rw [ByteArray.size_append, h2, show (⟨#[ch]⟩ : ByteArray).size = 1 from rfl]
        omega
      · have hik : (i : Int) < (k : Int) := by have := HC (by omega); omega
        clear HC hd2 HR hc hi
        go_wp2
        refine ⟨⟨i + 1, _, _, rfl, rfl, by have := HM.out; omega, HS, hb2⟩, ?_⟩
        obtain ⟨h1, h2⟩ := HM.out
        show max k (Lib.nDigits n.toNat) + 1 - ((⟨#[ch]⟩ : ByteArray) ++ S).size < max k (Lib.nDigits n.toNat) + 1 - S.size
        rw [ByteArray.size_append, h2, show (⟨#[ch]⟩ : ByteArray).size = 1 from rfl]
        omega
    · have hik : ¬ (i : Int) < (k : Int) := by omega
      have hN : ¬ 0 < N := by
        intro h
        have := nd_pos (n := n.toNat) (i := i) (by have := HR.out.2; omega)
        omega
      have HF : Hid (S = ⟨(pd n.toNat k).toArray⟩) := by show _ = _; rw [HR.out.1, pd, show i = max k (Lib.nDigits n.toNat) by omega]
      clear HR hc hi
      go_wp2
      go_ret
      exact ⟨by rw [← HF.out]; rfl, hb⟩
set_option maxRecDepth 100000 in
set_option maxHeartbeats 400000 in
theorem showr_ok (n : Nat) (hn : n ≤ 999999999999) (s : ByteArray) (hE : plE s.data.toList = 0) (w : World) : Calls Tryd.prog 6 #[.int .i64 (n : Int), .string s] w fun e w' => e = .returned (.tuple #[.string ⟨(showL n (plV s.data.toList).toNat).toArray⟩, .int .i64 0]) ∧ Below w.heap.size w w' := by
  have pa := fun w => placesr_any s w
  have pi := fun w => amount_any (n : Int) w
  rw [(isA_iff (n : Int)).2 (by omega)] at pi
  rw [hE] at pa
  have vb := plV_bounds s.data.toList
  obtain ⟨p, hp⟩ : ∃ p : Nat, plV s.data.toList = (p : Int) := ⟨(plV s.data.toList).toNat, by omega⟩
  rw [hp] at pa vb ⊢
  rw [Int.toNat_natCast]
  have pd1 := fun w => digits_any (n : Int) (p + 1) (by omega) (by omega) (by omega) (by omega) w
  rw [Int.toNat_natCast, show ((p + 1 : Nat) : Int) = (p : Int) + 1 by omega] at pd1
  obtain ⟨L, hL⟩ : ∃ L, (⟨(pd n (p + 1)).toArray⟩ : ByteArray) = L := ⟨_, rfl⟩
  rw [hL] at pd1
  obtain ⟨N, hN⟩ : ∃ N, N = max (p + 1) (Lib.nDigits n) := ⟨_, rfl⟩
  have hLs : L.size = N := by rw [← hL, hN, ← pd_length]; simp [ByteArray.size]
  have h13 := nd_13 n hn
  have hnp := Lib.nDigits_pos n
  have N1 : (N : Int) ≤ 12 := by omega
  have N2 : (p : Int) + 1 ≤ (N : Int) := by omega
  obtain ⟨U, hU⟩ : ∃ U : Int, (n : Int) = U := ⟨_, rfl⟩
  rw [hU] at pi pd1 ⊢
  by_cases h0 : p = 0
  · subst h0
    have HF : Hid (L = ⟨(showL n 0).toArray⟩) := by show _ = _; rw [showL, if_pos rfl, ← hL]
    generalize (⟨(showL n 0).toArray⟩ : ByteArray) = R at *
    clear hE vb hU hn hp hL hN h13 hnp
    go_enter Tryd.func6, Tryd.ntmps6
    go_wp2_with fail
    refine (pa _).mono ?_
    rintro e y1 ⟨rfl, b1⟩
    go_wp2_with fail
    refine (pi _).mono ?_
    rintro e y2 ⟨rfl, hy⟩
    have b2 := keepB b1 (same hy)
    clear hy b1
    go_wp2_with fail
    refine (pd1 _).mono ?_
    rintro e y3 ⟨rfl, hy⟩
    have b3 := keepB b2 hy
    clear hy b2
    go_wp2_with fail
    go_ret2
    exact ⟨by rw [← HF.out]; rfl, b3⟩
  · have z : ((p : Int) == 0) = false := by rw [beq_eq_false_iff_ne]; omega
    obtain ⟨A, hA⟩ : ∃ A : Nat, (N : Int) - (p : Int) = (A : Int) := ⟨N - p, by omega⟩
    have HF : Hid (L.extract 0 A ++ ⟨#[46]⟩ ++ L.extract A N = ⟨(showL n p).toArray⟩) := by
      show _ = _
      rw [showL, if_neg h0, pd_length, ← hN, ← hL, show N - p = A by omega]
      apply ByteArray.ext
      rw [ByteArray.data_append, ByteArray.data_append, ByteArray.data_extract, ByteArray.data_extract]
      apply Array.toList_inj.1
      have hpl : (pd n (p + 1)).length = N := by rw [pd_length, hN]
      simp [List.extract_eq_take_drop]
      exact List.take_of_length_le (by rw [List.length_drop]; omega)
    have A1 : (A : Int) ≤ (N : Int) := by omega
    have A2 : A ≤ N := by omega
    have A3 : A ≤ 12 := by omega
    have s1 : ¬ 9223372036854775807 < A + 1 := by omega
    have s2 : ¬ 9223372036854775807 < A + 1 + (N - A) := by omega
    have p1 : (p : Int) ≤ 3 := vb.2
    have wA : IntKind.i64.wrap (A : Int) = (A : Int) := by simp [IntKind.wrap, IntKind.signed, IntKind.bits]; omega
    generalize (⟨(showL n p).toArray⟩ : ByteArray) = R at *
    clear hE vb hU hn hp hL hN h13 hnp h0
    go_enter Tryd.func6, Tryd.ntmps6
    go_wp2_with fail
    refine (pa _).mono ?_
    rintro e y1 ⟨rfl, b1⟩
    go_wp2_with fail
    refine (pi _).mono ?_
    rintro e y2 ⟨rfl, hy⟩
    have b2 := keepB b1 (same hy)
    clear hy b1
    go_wp2_with fail
    refine (pd1 _).mono ?_
    rintro e y3 ⟨rfl, hy⟩
    have b3 := keepB b2 hy
    clear hy b2
    go_wp2_with fail
    go_quiet (fail)
    go_wp2_with fail
    go_ret2
    exact ⟨by rw [← HF.out]; rfl, below_dr b3 _⟩
set_option maxRecDepth 100000 in
set_option maxHeartbeats 400000 in
theorem showr_any (u : Int) (s : ByteArray) (w : World) : Calls Tryd.prog 6 #[.int .i64 u, .string s] w fun e w' => e = .returned (.tuple #[.string (swT u s.data.toList), .int .i64 (swE u s.data.toList)]) ∧ Below w.heap.size w w' := by
  have pa := fun w => placesr_any s w
  have pi := fun w => amount_any u w
  rcases plE_cases s.data.toList with e0 | ⟨e0, v0⟩
  · cases hA : isA u
    · have hT : swT u s.data.toList = ⟨#[]⟩ := by rw [swT, if_neg (by rw [hA]; simp)]
      have hE : swE u s.data.toList = 71 := by rw [swE, if_pos e0, if_neg (by rw [hA]; simp)]
      rw [hT, hE]
      rw [e0] at pa
      rw [hA] at pi
      generalize plV s.data.toList = p at *
      clear hT hE e0 hA
      go_enter Tryd.func6, Tryd.ntmps6
      go_wp2_with fail
      refine (pa _).mono ?_
      rintro e y1 ⟨rfl, b1⟩
      go_wp2_with fail
      refine (pi _).mono ?_
      rintro e y2 ⟨rfl, hy⟩
      have b2 := keepB b1 (same hy)
      clear hy b1
      go_wp2_with fail
      go_ret2
      exact ⟨rfl, b2⟩
    · have hu := (isA_iff u).1 hA
      obtain ⟨n, rfl⟩ : ∃ n : Nat, u = (n : Int) := ⟨u.toNat, by omega⟩
      have hT : swT n s.data.toList = ⟨(showL n (plV s.data.toList).toNat).toArray⟩ := by rw [swT, if_pos ⟨e0, hA⟩, Int.toNat_natCast]
      have hE : swE n s.data.toList = 0 := by rw [swE, if_pos e0, if_pos hA]
      rw [hT, hE]
      exact showr_ok n (by omega) s e0 w
  · have hT : swT u s.data.toList = ⟨#[]⟩ := by rw [swT, if_neg (by rw [e0]; simp)]
    have hE : swE u s.data.toList = 70 := by rw [swE, if_neg (by rw [e0]; decide)]
    rw [hT, hE]
    rw [e0] at pa
    generalize plV s.data.toList = p at *
    clear hT hE e0
    go_enter Tryd.func6, Tryd.ntmps6
    go_wp2_with fail
    refine (pa _).mono ?_
    rintro e y1 ⟨rfl, b1⟩
    go_wp2_with fail
    go_ret2
    exact ⟨rfl, b1⟩
end Go.Proofs.YtgojcebdlafbeaaDoor.Rs
