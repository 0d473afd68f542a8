import Derived.Test.YtpifebapodfeaaaGreatQ06
import Derived.Deep.OwnRows
import Derived.Test.YtpifebapodfeaaaGreatQ05
import Derived.Test.YtpifebapodfeaaaGreatQ00
/- Xor: the program's and the document's. -/
namespace Go.Proofs.YtpifebapodfeaaaGreat.Xo
set_option linter.unusedVariables false
open Go.RowKit Pla Cb Tk Wd Nw Bk Aw Eb Et
open Lib0 (bs bs_length bs_append owns_len run_str own_ge below_app ret_str)
def xorL (a b : List UInt8) : List UInt8 := List.zipWith (· ^^^ ·) a b
theorem xorL_len (a b : List UInt8) (h : a.length = b.length) : (xorL a b).length = a.length := by simp [xorL, h]
def xv (a b : ByteArray) (i : Nat) : Nat := ((xorL a.data.toList b.data.toList).getD i 0).toNat
theorem xv_at (a b : ByteArray) (i : Nat) (ha : i < a.size) (hb : i < b.size) : xv a b i = (a[i] ^^^ b[i]).toNat := by
  have h : i < (xorL a.data.toList b.data.toList).length := by simp [xorL]; exact Nat.lt_min.2 ⟨ha, hb⟩
  rw [xv, List.getD_eq_getElem?_getD, List.getElem?_eq_getElem h]
  simp [xorL]; rfl
theorem xor8 (x y : UInt8) : bits .xor .u8 (x.toNat : Int) (y.toNat : Int) = ((x ^^^ y).toNat : Int) := by
  rw [u8_xor_nat _ _ x.toNat_lt y.toNat_lt, UInt8.toNat_xor]
theorem made_zero (n : Nat) : madeCells #[.int .u8 0] n = byC n fun _ => 0 := by
  apply Array.ext_getElem?
  intro i
  by_cases hi : i < n
  · rw [byC_get n _ i hi]; simp [madeCells, hi, Nat.mod_one]
  · rw [Array.getElem?_eq_none (by simp [madeCells]; omega), Array.getElem?_eq_none (by rw [byC_size]; omega)]
theorem xv_list (a b : ByteArray) (n : Nat) (ha : a.size = n) (hb : b.size = n) : (List.range n).map (fun i => UInt8.ofNat (xv a b i)) = xorL a.data.toList b.data.toList := by
  have hl : (xorL a.data.toList b.data.toList).length = n := by simp [xorL]; omega
  apply List.ext_getElem?
  intro i
  by_cases hi : i < n
  · rw [List.getElem?_map, List.getElem?_range hi, List.getElem?_eq_getElem (by rw [hl]; exact hi)]
    simp only [Option.map_some, xv, List.getD_eq_getElem?_getD, List.getElem?_eq_getElem (show i < (xorL a.data.toList b.data.toList).length by rw [hl]; exact hi), Option.getD_some]
    simp
  · rw [List.getElem?_eq_none (by simp; omega), List.getElem?_eq_none (by rw [hl]; omega)]
theorem conv_by {P : Program} {w : World} {src dst e : TypeId} {g n : Nat} {v : Nat → Nat} {t : TypeId} {fr : Nat × Nat} (hv : ∀ i, i < n → v i < 256) (hs : P.underlying src = some (.slice e)) (he : P.underlying e = some (.int .u8)) (hd : P.underlying dst = some .string)
    (hg : w.heap[g]? = some (.cells (byC n v) t fr)) : (convert src dst (.slice (some ⟨g, 0, none⟩) n n)).run P w = .ok (.string ⟨((List.range n).map (fun i => UInt8.ofNat (v i))).toArray⟩) w := by
  have hl : ((List.range n).map (fun i => UInt8.ofNat (v i))).length = n := by simp
  have h := run_convert_bytes_back (P := P) w src dst e ⟨g, 0, none⟩ n ((List.range n).map (fun i => UInt8.ofNat (v i))) hs he hd (fun j hj => by
    rw [hl] at hj
    rw [show (⟨g, 0, none⟩ : Addr).add j = ⟨g, j, none⟩ by unfold Addr.add; split <;> simp_all, cell_of_row w g j _ t fr hg, byC_get _ _ _ hj]
    have := hv j hj
    simp; omega)
  rw [hl] at h
  exact h
set_option maxRecDepth 100000 in
set_option maxHeartbeats 1600000 in
theorem xorr_bad (a b : ByteArray) (q : ((a.size : Int) != (b.size : Int)) = true) (w : World) :
    Calls Tryz.prog 66 #[.string a, .string b] w fun e w' => e = .returned (.tuple #[.string ⟨#[]⟩, .int .i64 1]) ∧ w' = w := by
  go_enter Tryz.func66, Tryz.ntmps66
  go_wp2
  exact bodyPost_ret (v := .tuple #[.string ⟨#[]⟩, .int .i64 1]) (by simp [results, Tryz.results66, go_sem]) rfl ⟨rfl, rfl⟩
theorem xor_snoc (a b : ByteArray) (k : Nat) (ha : k < a.size) (hb : k < b.size) : bs ((xorL a.data.toList b.data.toList).take (k + 1)) = bs ((xorL a.data.toList b.data.toList).take k) ++ [.int .u8 ((a[k] ^^^ b[k]).toNat : Int)] := by
  have h : k < (xorL a.data.toList b.data.toList).length := by simp [xorL]; exact Nat.lt_min.2 ⟨ha, hb⟩
  rw [List.take_succ_eq_append_getElem h, bs_append]
  congr 1
  simp [xorL, bs]; rfl
set_option maxRecDepth 100000 in
set_option maxHeartbeats 1600000 in
theorem xor_ref (a b : ByteArray) (n : Nat) (ha : Hid (a.size = n)) (hb : Hid (b.size = n)) (hn : n ≤ 1099511627776) (w : World) :
    Calls Tryz.prog 66 #[.string a, .string b] w fun e w' => e = .returned (.tuple #[.string ⟨(xorL a.data.toList b.data.toList).toArray⟩, .int .i64 0]) ∧ Below w.heap.size w w' := by
  obtain ⟨i0, hi, hz0, hz1, hz2⟩ := info_parts info
  have q : ((a.size : Int) != (b.size : Int)) = false := by have := ha.out; have := hb.out; simp only [bne_eq_false_iff_eq]; omega
  go_enter Tryz.func66, Tryz.ntmps66
  go_wp2
  go_loopw [6, 7] (fun v c wr => ∃ k : Nat, k ≤ n ∧ c = .int .i64 (k : Int) ∧ wr.ownsRow w.heap.size 5 1 v k (bs ((xorL a.data.toList b.data.toList).take k)) ∧ Below w.heap.size w wr) (fun _ c _ => n + 1 - (intOf c).toNat)
  case atStart => exact ⟨0, Nat.zero_le _, rfl, World.ownsRow_nil _ _ _ _, Below.refl _ _⟩
  case round =>
    obtain ⟨k, hk, rfl, hown, hbw⟩ := hrel
    have ea := ha.out
    have eb := hb.out
    by_cases hlt : k < n
    · have hka : k < a.size := by omega
      have hkb : k < b.size := by omega
      have h1 : (0 : Int) ≤ (k : Int) := by omega
      have h2 : (k : Int) < (a.size : Int) := by omega
      have h3 : (k : Int) < (b.size : Int) := by omega
      have u1 := xor8 a[k] b[k]
      have HN : Hid (bs ((xorL a.data.toList b.data.toList).take (k + 1)) = bs ((xorL a.data.toList b.data.toList).take k) ++ [.int .u8 ((a[k] ^^^ b[k]).toNat : Int)]) := xor_snoc a b k hka hkb
      have hbs := hbw.size
      clear ea eb ha hb
      go_wp2_with fail
      go_region_held3 (fun _ => True) (trivial)
        ((refine step_append_lies _ (by rfl) _ _ _ (by rfl) w.heap.size 5 i0 _ 1 1 Tryz.underlying75 hi hz0 hz1 hz2 rfl (by omega) u6 k _ (by rfl) ((hown.alloc _).drew) ⟨wr.heap.size, 0, none⟩ 1 1 _ (by rfl) (by rfl) (World.news_of_block (heap_alloc_new wr _)) (by simp [Value.oneCell']) (by omega) (by unfold maxLen; omega) (by omega) (by simp; omega) (wr.heap.size + 1) (by simp) ?_; intro gg cap w1 hown1 hgrow hat hlt1))
      all_goals
        go_wp2
        go_roundw
        case rel => exact ⟨k + 1, by omega, by go_num, owns_len hown1 rfl (by omega) HN.out.symm, below_app hbw hbs hown hgrow⟩
        case measure => simp [intOf]; omega
    · obtain rfl : k = n := by omega
      have hcv := run_str (P := Tryz.prog) (src := 75) (dst := 9) Tryz.underlying75 Tryz.underlying5 Tryz.underlying9 hown
      have h3 : ¬ (k : Int) < (a.size : Int) := by omega
      rw [List.take_of_length_le (by simp [xorL]; omega)] at hcv
      clear ea eb ha hb
      go_wp2
      exact bodyPost_ret (v := .tuple #[.string ⟨(xorL a.data.toList b.data.toList).toArray⟩, .int .i64 0]) (by simp [results, Tryz.results66, go_sem]) rfl ⟨rfl, hbw⟩
def someB (s : ByteArray) (m : Nat) : ByteArray := if m < s.size then s.extract 0 m else s
theorem someB_size (s : ByteArray) (m : Nat) : (someB s m).size ≤ m := by
  unfold someB; split
  · rw [ByteArray.size_extract]; omega
  · omega
end Go.Proofs.YtpifebapodfeaaaGreat.Xo
/- What CipherBack asks, out of the contracts. -/
namespace Go.Proofs.YtpifebapodfeaaaGreat.Bl
set_option linter.unusedVariables false
open Go.RowKit Pla Cb Wd Nw Bk Eb Et Cc Ch Pm
def Ret (s : ByteArray) (w : World) : Ending → World → Prop := fun e w' => e = .returned (.tuple #[.string s, .int .i64 0]) ∧ Below w.heap.size w w'
theorem mk_eq (s : ByteArray) : (⟨s.data.toList.toArray⟩ : ByteArray) = s := by cases s; simp
theorem len_size (s : ByteArray) : s.data.toList.length = s.size := by simp
theorem kind_p (r : ByteArray) (p : Nat) (h : r.size = 8 + 8 * p) (hp : p < 3) : kindN r.size = p + 1 := by
  have : p = 0 ∨ p = 1 ∨ p = 2 := by omega
  rcases this with rfl | rfl | rfl <;> rw [h] <;> rfl
theorem keyOf {s : ByteArray} {w : World} {g K : Nat} (h : w.heap[g]? = some (.cells (bkC K (Tk.up (bf s.data.toList) (128 * K))) 117)) : Key w g K s.data.toList := h
end Go.Proofs.YtpifebapodfeaaaGreat.Bl
/- Seal: filled up, plainly. -/
namespace Go.Proofs.YtpifebapodfeaaaGreat.Fp
set_option linter.unusedVariables false
theorem len_size (s : ByteArray) : s.data.toList.length = s.size := by simp
theorem mk_eq (s : ByteArray) : (⟨s.data.toList.toArray⟩ : ByteArray) = s := by cases s; simp
def nb (n : Nat) : Nat := (max n 1 + 7) / 8
theorem nb_ge (n : Nat) : n ≤ 8 * nb n := by unfold nb; omega
theorem nb_pos (n : Nat) : 1 ≤ nb n := by unfold nb; omega
theorem nb_le (n : Nat) : 8 * nb n ≤ n + 8 := by unfold nb; omega
theorem nb_self (n : Nat) : nb (8 * nb n) = nb n := by unfold nb; omega
theorem nb_same (n m : Nat) (h1 : n ≤ m) (h2 : m ≤ 8 * nb n) : nb m = nb n := by unfold nb at *; omega
def padL (l : List UInt8) : List UInt8 := l ++ List.replicate (8 * nb l.length - l.length) 0
theorem padL_len (l : List UInt8) : (padL l).length = 8 * nb l.length := by
  have := nb_ge l.length
  simp [padL]; omega
def fillL (m : Nat) (l : List UInt8) : List UInt8 := if m = 2 then padL (l ++ [128]) else padL l
def nbM (m n : Nat) : Nat := if m = 2 then nb (n + 1) else nb n
theorem fillL_len (m : Nat) (l : List UInt8) : (fillL m l).length = 8 * nbM m l.length := by
  unfold fillL nbM
  split
  · rw [padL_len]; simp
  · exact padL_len l
theorem nbM_pos (m n : Nat) : 1 ≤ nbM m n := by unfold nbM; split <;> exact nb_pos _
theorem nbM_le (m n : Nat) : 8 * nbM m n ≤ n + 9 := by
  unfold nbM
  split
  · have := nb_le (n + 1); omega
  · have := nb_le n; omega
/-- padded again it stays -/
theorem padL_padL (l : List UInt8) : padL (padL l) = padL l := by
  have h : padL (padL l) = padL l ++ List.replicate (8 * nb (padL l).length - (padL l).length) 0 := rfl
  rw [h, padL_len, nb_self, Nat.sub_self, List.replicate_zero, List.append_nil]
/-- noughts within the last block -/
theorem padL_noughts (l : List UInt8) (k : Nat) (h : k ≤ 8 * nb l.length - l.length) : padL (l ++ List.replicate k 0) = padL l := by
  have g := nb_ge l.length
  have e : nb (l.length + k) = nb l.length := nb_same _ _ (by omega) (by omega)
  have hl : (l ++ List.replicate k (0 : UInt8)).length = l.length + k := by simp
  rw [padL, hl, e, padL, List.append_assoc, List.replicate_append_replicate, show k + (8 * nb l.length - (l.length + k)) = 8 * nb l.length - l.length by omega]
/-- the mark tells where a text ends -/
theorem mark_inj : ∀ (a b : List UInt8) (i j : Nat), a ++ 128 :: List.replicate i 0 = b ++ 128 :: List.replicate j 0 → a.length + i = b.length + j → a = b := by
  intro a b i j h hl
  have hr := congrArg List.reverse h
  simp only [List.reverse_append, List.reverse_cons, List.reverse_replicate, List.append_assoc, List.singleton_append] at hr
  have key : ∀ (i j : Nat) (x y : List UInt8), List.replicate i (0 : UInt8) ++ 128 :: x = List.replicate j 0 ++ 128 :: y → x = y := by
    intro i
    induction i with
    | zero =>
      intro j x y h
      cases j with
      | zero => simpa using h
      | succ j => simp [List.replicate_succ] at h
    | succ i ih =>
      intro j x y h
      cases j with
      | zero => simp [List.replicate_succ] at h
      | succ j => exact ih j x y (by simpa [List.replicate_succ] using h)
  exact List.reverse_inj.1 (key _ _ _ _ hr)
theorem fill2 (a : List UInt8) : fillL 2 a = a ++ 128 :: List.replicate (8 * nb (a.length + 1) - (a.length + 1)) 0 := by simp [fillL, padL]
theorem fill2_inj (a b : List UInt8) (h : fillL 2 a = fillL 2 b) : a = b := by
  have hl := congrArg List.length h
  rw [fillL_len, fillL_len] at hl
  rw [fill2, fill2] at h
  have ga := nb_ge (a.length + 1)
  have gb := nb_ge (b.length + 1)
  have e1 : nbM 2 a.length = nb (a.length + 1) := rfl
  have e2 : nbM 2 b.length = nb (b.length + 1) := rfl
  rw [e1, e2] at hl
  exact mark_inj a b _ _ h (by omega)
def fillB (m : Nat) (s : ByteArray) : ByteArray := ⟨(fillL m s.data.toList).toArray⟩
theorem fillB_list (m : Nat) (s : ByteArray) : (fillB m s).data.toList = fillL m s.data.toList := by simp [fillB]
theorem fillB_size (m : Nat) (s : ByteArray) : (fillB m s).size = 8 * nbM m s.size := by
  rw [← len_size, fillB_list, fillL_len, len_size]
end Go.Proofs.YtpifebapodfeaaaGreat.Fp
/- Seal: the tag: plain functions. -/
namespace Go.Proofs.YtpifebapodfeaaaGreat.Sp
set_option linter.unusedVariables false
open Go.RowKit Pla Cb Wd Nw Bk Eb Et Cc Ch Pm Fp
open Ck (z64)
/-- the last block of the chain, and the tag -/
def lastC (k p : List UInt8) : List Bool := ahd k z64 p (p.length / 8)
theorem z64_len : z64.length = 64 := rfl
theorem lastC_len (k p : List UInt8) : (lastC k p).length = 64 := ahd_len k z64 z64_len p _
def tagC (alg : Nat) (key p : List UInt8) : List Bool := if alg = 3 then enc (key.take 8) (dec (key.drop 8) (lastC (key.take 8) p)) else lastC (key.take 8) p
theorem tagC_len (alg : Nat) (key p : List UInt8) : (tagC alg key p).length = 64 := by
  unfold tagC
  split
  · exact enc_len _ _
  · exact lastC_len _ _
def tagB (alg m : Nat) (key s : ByteArray) : ByteArray := ⟨(byW (tagC alg key.data.toList (fillL m s.data.toList))).toArray⟩
theorem tagB_size (alg m : Nat) (key s : ByteArray) : (tagB alg m key s).size = 8 := by
  show (byW _).toArray.size = 8
  simp [byW_len]
/-- the last eight bytes of the chain -/
theorem chain_last (k p : List UInt8) (N : Nat) (h : p.length = 8 * (N + 1)) : (chainL k z64 p).drop (8 * N) = byW (lastC k p) := by
  have e : p.length / 8 = N + 1 := by omega
  rw [chainL, lastC, e, outN_succ, List.drop_append, outN_len]
  simp [List.drop_of_length_le, outN_len]
theorem map_one (f : List Bool → List Bool) (x : List Bool) (hx : x.length = 64) : mapB f (byW x) = byW (f x) := by
  have e : (byW x).length / 8 = 1 := by rw [byW_len]
  rw [mapB, e, outN_succ]
  have b : blk (byW x) 0 = x := by
    rw [blk, show pt (byW x) 0 = byW x by rw [pt]; simp [List.take_of_length_le, byW_len], bits_byW x hx]
  rw [b]
  simp [outN]
theorem ahd_congr (k k' : List UInt8) (h : ∀ x, x.length = 64 → enc k x = enc k' x) (p : List UInt8) (N : Nat) (hp : p.length = 8 * N) : ∀ i, i ≤ N → ahd k z64 p i = ahd k' z64 p i
  | 0, _ => rfl
  | i + 1, hi => by
      have ih := ahd_congr k k' h p N hp i (by omega)
      show enc k (xr _ _) = enc k' (xr _ _)
      rw [ih]
      exact h _ (by first | exact xr_len _ _ 64 (blk_len8 p N i hp (by omega)) (ahd_len _ _ z64_len _ _) | exact xr_len _ _ 64 (ahd_len _ _ z64_len _ _) (blk_len8 p N i hp (by omega)))
end Go.Proofs.YtpifebapodfeaaaGreat.Sp
