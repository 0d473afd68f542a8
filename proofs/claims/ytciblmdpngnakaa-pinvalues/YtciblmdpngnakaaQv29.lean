import Derived.Test.YtciblmdpngnakaaQv28
/- PINs: the document's Block. -/
namespace Go.Proofs.Ytciblmdpngnakaa.Rp
set_option linter.unusedVariables false
set_option linter.unusedSimpArgs false
open Go.RowKit Lib0 Six Pp Cb Ra Rh
open Ph (gb_eq)
open Sm (range_keep)
open Rb (nv nv_len nv_get nv_snoc nv_take range_cell own_range New infoI)
def Post (r : ByteArray × Int) (w : World) : Ending → World → Prop := fun e w' => e = .returned (.tuple #[.string r.1, .int .i64 r.2]) ∧ Below w.heap.size w w'
theorem lay_low (f : Int) (p fill : ByteArray) (k : Nat) (h : k < p.size) (hl : 2 + k < (lay f p fill).length) : (lay f p fill)[2 + k] = p[k].toNat - 48 := by
  simp only [lay]
  rw [List.getElem_append_left (by simp only [List.length_append, dv_len, sz, List.length_cons, List.length_nil]; omega), List.getElem_append_right (by simp)]
  simp only [dvL, List.getElem_map, List.length_cons, List.length_nil]
  have e : 2 + k - (0 + 1 + 1) = k := by omega
  simp only [e]
  rfl
theorem lay_high0 (f : Int) (hf : f = 0) (p fill : ByteArray) (m : Nat) (h : 2 + p.size ≤ m) (hl : m < (lay f p fill).length) : (lay f p fill)[m] = 15 := by
  unfold lay
  simp only [if_pos hf]
  rw [List.getElem_append_right (by simp only [List.length_append, dv_len, sz, List.length_cons, List.length_nil]; omega)]
  simp
theorem lay_high (f : Int) (hf : f ≠ 0) (p fill : ByteArray) (m : Nat) (h : 2 + p.size ≤ m) (hl : m < (lay f p fill).length) (hm : m - 2 - p.size < fill.size) : (lay f p fill)[m] = (six fill[m - 2 - p.size]).toNat := by
  unfold lay
  simp only [if_neg hf]
  rw [List.getElem_append_right (by simp only [List.length_append, dv_len, sz, List.length_cons, List.length_nil]; omega)]
  simp only [svL, List.getElem_map, List.length_append, dv_len, sz, List.length_cons, List.length_nil]
  have e : m - (0 + 1 + 1 + p.size) = m - 2 - p.size := by omega
  simp only [e]
  rfl
set_option maxRecDepth 100000 in
set_option maxHeartbeats 3200000 in
theorem block_good00 (F : Nat) (hF : kn (F : Int) = true) (p q fill : ByteArray) (sp : p.size ≤ maxLen) (sq : q.size ≤ maxLen) (sf : fill.size ≤ maxLen) (hp : pinB p = true) (hq : qB (F : Int) q = true) (hf : fillB (F : Int) fill (14 - p.size) = true) (c1 : ((F : Int) != 1) = true) (c3 : ((F : Int) != 0) = false) (h2 : panB q = true) (w : World) :
    Calls Try.prog 9 #[.int .i64 (F : Int), .string p, .string q, .string fill] w fun e w' => e = .returned (.tuple #[.string ⟨(pk (mix (F : Int) (lay (F : Int) p fill) q)).toArray⟩, .int .i64 0]) ∧ Below w.heap.size w w' := by
  obtain ⟨i0, hi, hz0, hz1, hz2⟩ := info_parts infoI
  have KN := fun u => known_ref (F : Int) u
  have IP := fun u => isPINr_any p u sp
  have IQ := fun u => isPANr_any q u sq
  have FI := fun u => filled_ref (F : Int) fill (14 - p.size) u sf
  rw [hF] at KN
  rw [hp] at IP
  rw [hf] at FI
  have hpp := (pinB_iff p).1 hp
  have p4 : (4 : Int) ≤ (p.size : Int) := by omega
  have p12 : (p.size : Int) ≤ 12 := by omega
  have w1 : IntKind.i64.wrap (14 - (p.size : Int)) = 14 - (p.size : Int) := by rw [IntKind.wrap_i64]; omega
  obtain ⟨L, HL⟩ : ∃ L, Hid (lay (F : Int) p fill = L) := ⟨_, rfl⟩
  have ll : Hid (L.length = 16) := (by rw [← HL.out]; exact lay_len _ p fill hp hf : L.length = 16)
  have lt : Hid (∀ m ∈ L, m < 16) := (by rw [← HL.out]; exact lay_lt _ p fill hF hp : ∀ m ∈ L, m < 16)
  have AQ : Hid (∀ k, (h : k < p.size) → 48 ≤ (p[k]'h).toNat ∧ (p[k]'h).toNat ≤ 57 ∧ (L.take (2 + (k + 1)) = L.take (2 + k) ++ [(p[k]'h).toNat - 48])) := (fun k h => by
    have hd := (dg_iff (p[k]'h)).1 (List.all_eq_true.1 hpp.2.2 _ (List.getElem_mem (show k < p.data.toList.length from h)))
    refine ⟨hd.1, hd.2, ?_⟩
    have hl : 2 + k < (lay (F : Int) p fill).length := by rw [HL.out, ll.out]; omega
    rw [← HL.out, show 2 + (k + 1) = (2 + k) + 1 by omega, List.take_succ_eq_append_getElem hl, lay_low (F : Int) p fill k h hl] : ∀ k, (h : k < p.size) → 48 ≤ (p[k]'h).toNat ∧ (p[k]'h).toNat ≤ 57 ∧ (L.take (2 + (k + 1)) = L.take (2 + k) ++ [(p[k]'h).toNat - 48]))
  have AH : Hid (∀ m, m < 16 → 2 + p.size ≤ m → if (F : Int) = 0 then L.take (m + 1) = L.take m ++ [15] else ∃ (h : m - 2 - p.size < fill.size) (d : Nat), d < 16 ∧ six (fill[m - 2 - p.size]'h) = (d : Int) ∧ L.take (m + 1) = L.take m ++ [d]) := (fun m h1 h2 => by
    have hl : m < (lay (F : Int) p fill).length := by rw [HL.out, ll.out]; exact h1
    split
    · rename_i h0
      rw [← HL.out, List.take_succ_eq_append_getElem hl, lay_high0 (F : Int) h0 p fill m h2 hl]
    · rename_i h0
      unfold fillB at hf
      rw [if_neg h0, Bool.and_eq_true, decide_eq_true_eq] at hf
      have hm : m - 2 - p.size < fill.size := by have := hf.1; omega
      have hs := List.all_eq_true.1 hf.2 _ (List.getElem_mem (show m - 2 - p.size < fill.data.toList.length from hm))
      have h6 : 0 ≤ six (fill[m - 2 - p.size]'hm) := by
        unfold fc isSix at hs
        simp only [Bool.and_eq_true, decide_eq_true_eq] at hs
        exact hs.1
      have hb := (six_bd (fill[m - 2 - p.size]'hm)).2
      refine ⟨hm, (six (fill[m - 2 - p.size]'hm)).toNat, by omega, by omega, ?_⟩
      rw [← HL.out, List.take_succ_eq_append_getElem hl, lay_high (F : Int) h0 p fill m h2 hl hm] : ∀ m, m < 16 → 2 + p.size ≤ m → if (F : Int) = 0 then L.take (m + 1) = L.take m ++ [15] else ∃ (h : m - 2 - p.size < fill.size) (d : Nat), d < 16 ∧ six (fill[m - 2 - p.size]'h) = (d : Int) ∧ L.take (m + 1) = L.take m ++ [d])
  have L2 : Hid (L.take 2 = [F, p.size]) := (by rw [← HL.out]; rfl : L.take 2 = [F, p.size])
  have ML : Hid ((mix (F : Int) L q).length = 16) := mix_len _ L q hq ll.out
  have MT : Hid (∀ m ∈ mix (F : Int) L q, m < 16) := mix_lt _ L q hq lt.out
  have FQ : Hid (qB (F : Int) q = true) := hq
  rw [HL.out]
  rw [h2] at IQ
  have f0 : (F : Int) = 0 := by simpa using c3
  have F0 : Hid ((F : Int) = 0) := f0
  clear f0
  clear hp hf HL hF hpp hq
  go_enter Try.func9, Try.ntmps9
  go_wp2_with fail
  refine (KN _).mono ?_
  rintro e u ⟨rfl, hu⟩
  rw [hu]
  clear hu u
  go_wp2_with fail
  refine (IP _).mono ?_
  rintro e u ⟨rfl, hu⟩
  rw [hu]
  clear hu u
  go_wp2_with fail
  refine (IQ _).mono ?_
  rintro e u ⟨rfl, hu⟩
  rw [hu]
  clear hu u
  go_wp2_with fail
  refine (FI _).mono ?_
  rintro e u ⟨rfl, hu⟩
  rw [hu]
  clear hu u
  clear KN IP IQ FI
  go_wp2
  go_loopw [14, 15] (fun v c wr => ∃ k : Nat, k ≤ p.size ∧ c = .int .i64 (k : Int) ∧ wr.ownsRow w.heap.size 3 1 v (2 + k) (nv (L.take (2 + k))) ∧ Below w.heap.size w wr) (fun _ c _ => p.size + 1 - (intOf c).toNat)
  case atStart =>
    refine ⟨0, by omega, rfl, ?_, below_one w _⟩
    rw [show L.take (2 + 0) = [F, p.size] from L2.out]
    exact own_new w 3 #[.int .i64 (F : Int), .int .i64 (p.size : Int)] 2 rfl (by decide)
  case round =>
    obtain ⟨k, hk, rfl, hown, hbw⟩ := hrel
    have hbs := hbw.size
    by_cases hlt : k < p.size
    · have q0 : (0 : Int) ≤ (k : Int) := by omega
      have q1 : (k : Int) < (p.size : Int) := by omega
      obtain ⟨a1, a2, a3⟩ := AQ.out k hlt
      obtain ⟨d, Hd⟩ : ∃ d : Nat, Hid (p[k].toNat - 48 = d) := ⟨p[k].toNat - 48, rfl⟩
      have HN : Hid (nv (L.take (2 + (k + 1))) = nv (L.take (2 + k)) ++ [.int .i64 (d : Int)]) := (by rw [a3, nv_snoc, Hd.out] : nv (L.take (2 + (k + 1))) = nv (L.take (2 + k)) ++ [.int .i64 (d : Int)])
      have r1 : IntKind.i64.wrap (p[k].toNat : Int) = (p[k].toNat : Int) := by rw [IntKind.wrap_i64]; omega
      have r2 : IntKind.i64.wrap ((p[k].toNat : Int) - 48) = (d : Int) := by have := Hd.out; rw [IntKind.wrap_i64]; omega
      have r3 : (p[k].toNat : Int) - 48 = (d : Int) := by have := Hd.out; omega
      have r4 : ((p[k].toNat : Nat) : Int) < 256 := Lib0.toNat_lt _
      clear a1 a2 a3 AQ AH
      go_wp2_with (at_builtin; refine wpList_append_lies _ rfl _ _ _ rfl w.heap.size 3 i0 _ 1 8 Try.underlying58 hi hz0 hz1 hz2 rfl (by omega) _ (2 + k) _ rfl (hown.alloc _) ⟨wr.heap.size, 0, none⟩ 1 1 _ rfl (by rfl) (World.news_of_block (heap_alloc_new wr _)) (by simp [Value.oneCell']) (by omega) (by unfold maxLen; omega) (by omega) (by first | omega | (simp <;> omega)) (wr.heap.size + 1) (by simp) ?_; intro gg cap w1 hown1 hgrow hat hlt1)
      exact ⟨⟨k + 1, by omega, by simp, owns_len hown1 rfl rfl HN.out.symm, below_app0 hbw hbs hown hgrow⟩, by simp only [intOf]; omega⟩
    · obtain rfl : k = p.size := by omega
      clear AQ
      go_wp2_with fail
      generalize wr = wq at *
      go_loopw [14, 16] (fun v c wr => ∃ m : Nat, m ≤ 16 ∧ 2 + p.size ≤ m ∧ wr.ownsRow w.heap.size 3 1 v m (nv (L.take m)) ∧ Below w.heap.size w wr) (fun v _ _ => 17 - (match v with | .slice _ n _ => n | _ => 0))
      case atStart => exact ⟨2 + p.size, by omega, by omega, hown, hbw⟩
      case round =>
        obtain ⟨m, hm, hm2, hown, hbw⟩ := hrel
        have hbs := hbw.size
        obtain ⟨g, cap, rfl, hB, hg, hcap, hr⟩ := own_range hown (by omega)
        by_cases hlt : m < 16
        · have q1 : (m : Int) < 16 := by omega
          have hA := AH.out m hlt hm2
          rw [if_pos F0.out] at hA
          have HN : Hid (nv (L.take (m + 1)) = nv (L.take m) ++ [.int .i64 15]) := (by rw [hA, nv_snoc]; rfl : nv (L.take (m + 1)) = nv (L.take m) ++ [.int .i64 15])
          clear hA AH hr
          go_wp2_with (at_builtin; refine wpList_append_lies _ rfl _ _ _ rfl w.heap.size 3 i0 _ 1 8 Try.underlying58 hi hz0 hz1 hz2 rfl (by omega) _ m _ rfl (hown.alloc _) ⟨wr.heap.size, 0, none⟩ 1 1 _ rfl (by rfl) (World.news_of_block (heap_alloc_new wr _)) (by simp [Value.oneCell']) (by omega) (by unfold maxLen; omega) (by omega) (by first | omega | (simp <;> omega)) (wr.heap.size + 1) (by simp) ?_; intro gg cap w1 hown1 hgrow hat hlt1)
          exact ⟨⟨m + 1, by omega, by omega, owns_len hown1 rfl rfl HN.out.symm, below_app0 hbw hbs hown hgrow⟩, by show 17 - (m + 1) < 17 - m; omega⟩
        · obtain rfl : m = 16 := by omega
          rw [List.take_of_length_le (by rw [ll.out]; decide)] at hr
          have MI := mixed_ref (F : Int) L g cap q FQ ll lt _ hg hr
          clear AH
          go_wp2_with fail
          refine MI.mono ?_
          rintro e x ⟨g2, cap2, rfl, hg2, hr2, hx⟩
          go_wp2_with fail
          refine (bytes_ref (mix (F : Int) L q) g2 16 8 cap2 ML rfl (by decide) MT _ hg2 hr2).mono ?_
          rintro e x2 ⟨rfl, hx2⟩
          go_wp2
          exact bodyPost_ret (v := .tuple #[.string ⟨(pk (mix (F : Int) L q)).toArray⟩, .int .i64 0]) (by simp [results, Try.results9, go_sem]) rfl ⟨rfl, keepB (keepB hbw hx) hx2⟩
set_option maxRecDepth 100000 in
set_option maxHeartbeats 3200000 in
theorem block_good01 (F : Nat) (hF : kn (F : Int) = true) (p q fill : ByteArray) (sp : p.size ≤ maxLen) (sq : q.size ≤ maxLen) (sf : fill.size ≤ maxLen) (hp : pinB p = true) (hq : qB (F : Int) q = true) (hf : fillB (F : Int) fill (14 - p.size) = true) (c1 : ((F : Int) != 1) = true) (c3 : ((F : Int) != 0) = true) (h2 : panB q = true) (w : World) :
    Calls Try.prog 9 #[.int .i64 (F : Int), .string p, .string q, .string fill] w fun e w' => e = .returned (.tuple #[.string ⟨(pk (mix (F : Int) (lay (F : Int) p fill) q)).toArray⟩, .int .i64 0]) ∧ Below w.heap.size w w' := by
  obtain ⟨i0, hi, hz0, hz1, hz2⟩ := info_parts infoI
  have KN := fun u => known_ref (F : Int) u
  have IP := fun u => isPINr_any p u sp
  have IQ := fun u => isPANr_any q u sq
  have FI := fun u => filled_ref (F : Int) fill (14 - p.size) u sf
  rw [hF] at KN
  rw [hp] at IP
  rw [hf] at FI
  have hpp := (pinB_iff p).1 hp
  have p4 : (4 : Int) ≤ (p.size : Int) := by omega
  have p12 : (p.size : Int) ≤ 12 := by omega
  have w1 : IntKind.i64.wrap (14 - (p.size : Int)) = 14 - (p.size : Int) := by rw [IntKind.wrap_i64]; omega
  obtain ⟨L, HL⟩ : ∃ L, Hid (lay (F : Int) p fill = L) := ⟨_, rfl⟩
  have ll : Hid (L.length = 16) := (by rw [← HL.out]; exact lay_len _ p fill hp hf : L.length = 16)
  have lt : Hid (∀ m ∈ L, m < 16) := (by rw [← HL.out]; exact lay_lt _ p fill hF hp : ∀ m ∈ L, m < 16)
  have AQ : Hid (∀ k, (h : k < p.size) → 48 ≤ (p[k]'h).toNat ∧ (p[k]'h).toNat ≤ 57 ∧ (L.take (2 + (k + 1)) = L.take (2 + k) ++ [(p[k]'h).toNat - 48])) := (fun k h => by
    have hd := (dg_iff (p[k]'h)).1 (List.all_eq_true.1 hpp.2.2 _ (List.getElem_mem (show k < p.data.toList.length from h)))
    refine ⟨hd.1, hd.2, ?_⟩
    have hl : 2 + k < (lay (F : Int) p fill).length := by rw [HL.out, ll.out]; omega
    rw [← HL.out, show 2 + (k + 1) = (2 + k) + 1 by omega, List.take_succ_eq_append_getElem hl, lay_low (F : Int) p fill k h hl] : ∀ k, (h : k < p.size) → 48 ≤ (p[k]'h).toNat ∧ (p[k]'h).toNat ≤ 57 ∧ (L.take (2 + (k + 1)) = L.take (2 + k) ++ [(p[k]'h).toNat - 48]))
  have AH : Hid (∀ m, m < 16 → 2 + p.size ≤ m → if (F : Int) = 0 then L.take (m + 1) = L.take m ++ [15] else ∃ (h : m - 2 - p.size < fill.size) (d : Nat), d < 16 ∧ six (fill[m - 2 - p.size]'h) = (d : Int) ∧ L.take (m + 1) = L.take m ++ [d]) := (fun m h1 h2 => by
    have hl : m < (lay (F : Int) p fill).length := by rw [HL.out, ll.out]; exact h1
    split
    · rename_i h0
      rw [← HL.out, List.take_succ_eq_append_getElem hl, lay_high0 (F : Int) h0 p fill m h2 hl]
    · rename_i h0
      unfold fillB at hf
      rw [if_neg h0, Bool.and_eq_true, decide_eq_true_eq] at hf
      have hm : m - 2 - p.size < fill.size := by have := hf.1; omega
      have hs := List.all_eq_true.1 hf.2 _ (List.getElem_mem (show m - 2 - p.size < fill.data.toList.length from hm))
      have h6 : 0 ≤ six (fill[m - 2 - p.size]'hm) := by
        unfold fc isSix at hs
        simp only [Bool.and_eq_true, decide_eq_true_eq] at hs
        exact hs.1
      have hb := (six_bd (fill[m - 2 - p.size]'hm)).2
      refine ⟨hm, (six (fill[m - 2 - p.size]'hm)).toNat, by omega, by omega, ?_⟩
      rw [← HL.out, List.take_succ_eq_append_getElem hl, lay_high (F : Int) h0 p fill m h2 hl hm] : ∀ m, m < 16 → 2 + p.size ≤ m → if (F : Int) = 0 then L.take (m + 1) = L.take m ++ [15] else ∃ (h : m - 2 - p.size < fill.size) (d : Nat), d < 16 ∧ six (fill[m - 2 - p.size]'h) = (d : Int) ∧ L.take (m + 1) = L.take m ++ [d])
  have L2 : Hid (L.take 2 = [F, p.size]) := (by rw [← HL.out]; rfl : L.take 2 = [F, p.size])
  have ML : Hid ((mix (F : Int) L q).length = 16) := mix_len _ L q hq ll.out
  have MT : Hid (∀ m ∈ mix (F : Int) L q, m < 16) := mix_lt _ L q hq lt.out
  have FQ : Hid (qB (F : Int) q = true) := hq
  rw [HL.out]
  rw [h2] at IQ
  have f0 : ¬ (F : Int) = 0 := by simpa using c3
  clear hp hf HL hF hpp hq
  go_enter Try.func9, Try.ntmps9
  go_wp2_with fail
  refine (KN _).mono ?_
  rintro e u ⟨rfl, hu⟩
  rw [hu]
  clear hu u
  go_wp2_with fail
  refine (IP _).mono ?_
  rintro e u ⟨rfl, hu⟩
  rw [hu]
  clear hu u
  go_wp2_with fail
  refine (IQ _).mono ?_
  rintro e u ⟨rfl, hu⟩
  rw [hu]
  clear hu u
  go_wp2_with fail
  refine (FI _).mono ?_
  rintro e u ⟨rfl, hu⟩
  rw [hu]
  clear hu u
  clear KN IP IQ FI
  go_wp2
  go_loopw [14, 15] (fun v c wr => ∃ k : Nat, k ≤ p.size ∧ c = .int .i64 (k : Int) ∧ wr.ownsRow w.heap.size 3 1 v (2 + k) (nv (L.take (2 + k))) ∧ Below w.heap.size w wr) (fun _ c _ => p.size + 1 - (intOf c).toNat)
  case atStart =>
    refine ⟨0, by omega, rfl, ?_, below_one w _⟩
    rw [show L.take (2 + 0) = [F, p.size] from L2.out]
    exact own_new w 3 #[.int .i64 (F : Int), .int .i64 (p.size : Int)] 2 rfl (by decide)
  case round =>
    obtain ⟨k, hk, rfl, hown, hbw⟩ := hrel
    have hbs := hbw.size
    by_cases hlt : k < p.size
    · have q0 : (0 : Int) ≤ (k : Int) := by omega
      have q1 : (k : Int) < (p.size : Int) := by omega
      obtain ⟨a1, a2, a3⟩ := AQ.out k hlt
      obtain ⟨d, Hd⟩ : ∃ d : Nat, Hid (p[k].toNat - 48 = d) := ⟨p[k].toNat - 48, rfl⟩
      have HN : Hid (nv (L.take (2 + (k + 1))) = nv (L.take (2 + k)) ++ [.int .i64 (d : Int)]) := (by rw [a3, nv_snoc, Hd.out] : nv (L.take (2 + (k + 1))) = nv (L.take (2 + k)) ++ [.int .i64 (d : Int)])
      have r1 : IntKind.i64.wrap (p[k].toNat : Int) = (p[k].toNat : Int) := by rw [IntKind.wrap_i64]; omega
      have r2 : IntKind.i64.wrap ((p[k].toNat : Int) - 48) = (d : Int) := by have := Hd.out; rw [IntKind.wrap_i64]; omega
      have r3 : (p[k].toNat : Int) - 48 = (d : Int) := by have := Hd.out; omega
      have r4 : ((p[k].toNat : Nat) : Int) < 256 := Lib0.toNat_lt _
      clear a1 a2 a3 AQ AH
      go_wp2_with (at_builtin; refine wpList_append_lies _ rfl _ _ _ rfl w.heap.size 3 i0 _ 1 8 Try.underlying58 hi hz0 hz1 hz2 rfl (by omega) _ (2 + k) _ rfl (hown.alloc _) ⟨wr.heap.size, 0, none⟩ 1 1 _ rfl (by rfl) (World.news_of_block (heap_alloc_new wr _)) (by simp [Value.oneCell']) (by omega) (by unfold maxLen; omega) (by omega) (by first | omega | (simp <;> omega)) (wr.heap.size + 1) (by simp) ?_; intro gg cap w1 hown1 hgrow hat hlt1)
      exact ⟨⟨k + 1, by omega, by simp, owns_len hown1 rfl rfl HN.out.symm, below_app0 hbw hbs hown hgrow⟩, by simp only [intOf]; omega⟩
    · obtain rfl : k = p.size := by omega
      clear AQ
      go_wp2_with fail
      generalize wr = wq at *
      go_loopw [14, 16] (fun v c wr => ∃ m : Nat, m ≤ 16 ∧ 2 + p.size ≤ m ∧ wr.ownsRow w.heap.size 3 1 v m (nv (L.take m)) ∧ Below w.heap.size w wr) (fun v _ _ => 17 - (match v with | .slice _ n _ => n | _ => 0))
      case atStart => exact ⟨2 + p.size, by omega, by omega, hown, hbw⟩
      case round =>
        obtain ⟨m, hm, hm2, hown, hbw⟩ := hrel
        have hbs := hbw.size
        obtain ⟨g, cap, rfl, hB, hg, hcap, hr⟩ := own_range hown (by omega)
        by_cases hlt : m < 16
        · have q1 : (m : Int) < 16 := by omega
          have hA := AH.out m hlt hm2
          rw [if_neg f0] at hA
          obtain ⟨hfm, d, d16, d6, d7⟩ := hA
          have HN : Hid (nv (L.take (m + 1)) = nv (L.take m) ++ [.int .i64 (d : Int)]) := (by rw [d7, nv_snoc] : nv (L.take (m + 1)) = nv (L.take m) ++ [.int .i64 (d : Int)])
          obtain ⟨x, Hx⟩ : ∃ x : Nat, Hid (m - 2 - p.size = x) := ⟨_, rfl⟩
          have ex := Hx.out
          simp only [ex] at d6
          have x1 : IntKind.i64.wrap ((m : Int) - 2) = (m : Int) - 2 := by rw [IntKind.wrap_i64]; omega
          have x2 : IntKind.i64.wrap ((m : Int) - 2 - (p.size : Int)) = (x : Int) := by rw [IntKind.wrap_i64]; omega
          have x3 : (m : Int) - 2 - (p.size : Int) = (x : Int) := by omega
          have x4 : (x : Int) < (fill.size : Int) := by omega
          have x5 : x < fill.size := by omega
          have SX := fun u => sixr_any (fill[x]'x5) u
          rw [d6] at SX
          clear d6 d7 hfm AH hr ex
          go_wp2_with fail
          refine (SX _).mono ?_
          rintro e u ⟨rfl, hu⟩
          rw [hu]
          clear hu u
          go_wp2_with (at_builtin; refine wpList_append_lies _ rfl _ _ _ rfl w.heap.size 3 i0 _ 1 8 Try.underlying58 hi hz0 hz1 hz2 rfl (by omega) _ m _ rfl (hown.alloc _) ⟨wr.heap.size, 0, none⟩ 1 1 _ rfl (by rfl) (World.news_of_block (heap_alloc_new wr _)) (by simp [Value.oneCell']) (by omega) (by unfold maxLen; omega) (by omega) (by first | omega | (simp <;> omega)) (wr.heap.size + 1) (by simp) ?_; intro gg cap w1 hown1 hgrow hat hlt1)
          exact ⟨⟨m + 1, by omega, by omega, owns_len hown1 rfl rfl HN.out.symm, below_app0 hbw hbs hown hgrow⟩, by show 17 - (m + 1) < 17 - m; omega⟩
        · obtain rfl : m = 16 := by omega
          rw [List.take_of_length_le (by rw [ll.out]; decide)] at hr
          have MI := mixed_ref (F : Int) L g cap q FQ ll lt _ hg hr
          clear AH
          go_wp2_with fail
          refine MI.mono ?_
          rintro e x ⟨g2, cap2, rfl, hg2, hr2, hx⟩
          go_wp2_with fail
          refine (bytes_ref (mix (F : Int) L q) g2 16 8 cap2 ML rfl (by decide) MT _ hg2 hr2).mono ?_
          rintro e x2 ⟨rfl, hx2⟩
          go_wp2
          exact bodyPost_ret (v := .tuple #[.string ⟨(pk (mix (F : Int) L q)).toArray⟩, .int .i64 0]) (by simp [results, Try.results9, go_sem]) rfl ⟨rfl, keepB (keepB hbw hx) hx2⟩
set_option maxRecDepth 100000 in
set_option maxHeartbeats 3200000 in
theorem block_good11 (F : Nat) (hF : kn (F : Int) = true) (p q fill : ByteArray) (sp : p.size ≤ maxLen) (sq : q.size ≤ maxLen) (sf : fill.size ≤ maxLen) (hp : pinB p = true) (hq : qB (F : Int) q = true) (hf : fillB (F : Int) fill (14 - p.size) = true) (c1 : ((F : Int) != 1) = false) (c3 : ((F : Int) != 0) = true) (w : World) :
    Calls Try.prog 9 #[.int .i64 (F : Int), .string p, .string q, .string fill] w fun e w' => e = .returned (.tuple #[.string ⟨(pk (mix (F : Int) (lay (F : Int) p fill) q)).toArray⟩, .int .i64 0]) ∧ Below w.heap.size w w' := by
  obtain ⟨i0, hi, hz0, hz1, hz2⟩ := info_parts infoI
  have KN := fun u => known_ref (F : Int) u
  have IP := fun u => isPINr_any p u sp
  have IQ := fun u => isPANr_any q u sq
  have FI := fun u => filled_ref (F : Int) fill (14 - p.size) u sf
  rw [hF] at KN
  rw [hp] at IP
  rw [hf] at FI
  have hpp := (pinB_iff p).1 hp
  have p4 : (4 : Int) ≤ (p.size : Int) := by omega
  have p12 : (p.size : Int) ≤ 12 := by omega
  have w1 : IntKind.i64.wrap (14 - (p.size : Int)) = 14 - (p.size : Int) := by rw [IntKind.wrap_i64]; omega
  obtain ⟨L, HL⟩ : ∃ L, Hid (lay (F : Int) p fill = L) := ⟨_, rfl⟩
  have ll : Hid (L.length = 16) := (by rw [← HL.out]; exact lay_len _ p fill hp hf : L.length = 16)
  have lt : Hid (∀ m ∈ L, m < 16) := (by rw [← HL.out]; exact lay_lt _ p fill hF hp : ∀ m ∈ L, m < 16)
  have AQ : Hid (∀ k, (h : k < p.size) → 48 ≤ (p[k]'h).toNat ∧ (p[k]'h).toNat ≤ 57 ∧ (L.take (2 + (k + 1)) = L.take (2 + k) ++ [(p[k]'h).toNat - 48])) := (fun k h => by
    have hd := (dg_iff (p[k]'h)).1 (List.all_eq_true.1 hpp.2.2 _ (List.getElem_mem (show k < p.data.toList.length from h)))
    refine ⟨hd.1, hd.2, ?_⟩
    have hl : 2 + k < (lay (F : Int) p fill).length := by rw [HL.out, ll.out]; omega
    rw [← HL.out, show 2 + (k + 1) = (2 + k) + 1 by omega, List.take_succ_eq_append_getElem hl, lay_low (F : Int) p fill k h hl] : ∀ k, (h : k < p.size) → 48 ≤ (p[k]'h).toNat ∧ (p[k]'h).toNat ≤ 57 ∧ (L.take (2 + (k + 1)) = L.take (2 + k) ++ [(p[k]'h).toNat - 48]))
  have AH : Hid (∀ m, m < 16 → 2 + p.size ≤ m → if (F : Int) = 0 then L.take (m + 1) = L.take m ++ [15] else ∃ (h : m - 2 - p.size < fill.size) (d : Nat), d < 16 ∧ six (fill[m - 2 - p.size]'h) = (d : Int) ∧ L.take (m + 1) = L.take m ++ [d]) := (fun m h1 h2 => by
    have hl : m < (lay (F : Int) p fill).length := by rw [HL.out, ll.out]; exact h1
    split
    · rename_i h0
      rw [← HL.out, List.take_succ_eq_append_getElem hl, lay_high0 (F : Int) h0 p fill m h2 hl]
    · rename_i h0
      unfold fillB at hf
      rw [if_neg h0, Bool.and_eq_true, decide_eq_true_eq] at hf
      have hm : m - 2 - p.size < fill.size := by have := hf.1; omega
      have hs := List.all_eq_true.1 hf.2 _ (List.getElem_mem (show m - 2 - p.size < fill.data.toList.length from hm))
      have h6 : 0 ≤ six (fill[m - 2 - p.size]'hm) := by
        unfold fc isSix at hs
        simp only [Bool.and_eq_true, decide_eq_true_eq] at hs
        exact hs.1
      have hb := (six_bd (fill[m - 2 - p.size]'hm)).2
      refine ⟨hm, (six (fill[m - 2 - p.size]'hm)).toNat, by omega, by omega, ?_⟩
      rw [← HL.out, List.take_succ_eq_append_getElem hl, lay_high (F : Int) h0 p fill m h2 hl hm] : ∀ m, m < 16 → 2 + p.size ≤ m → if (F : Int) = 0 then L.take (m + 1) = L.take m ++ [15] else ∃ (h : m - 2 - p.size < fill.size) (d : Nat), d < 16 ∧ six (fill[m - 2 - p.size]'h) = (d : Int) ∧ L.take (m + 1) = L.take m ++ [d])
  have L2 : Hid (L.take 2 = [F, p.size]) := (by rw [← HL.out]; rfl : L.take 2 = [F, p.size])
  have ML : Hid ((mix (F : Int) L q).length = 16) := mix_len _ L q hq ll.out
  have MT : Hid (∀ m ∈ mix (F : Int) L q, m < 16) := mix_lt _ L q hq lt.out
  have FQ : Hid (qB (F : Int) q = true) := hq
  rw [HL.out]
  have f0 : ¬ (F : Int) = 0 := by simpa using c3
  clear hp hf HL hF hpp hq
  go_enter Try.func9, Try.ntmps9
  go_wp2_with fail
  refine (KN _).mono ?_
  rintro e u ⟨rfl, hu⟩
  rw [hu]
  clear hu u
  go_wp2_with fail
  refine (IP _).mono ?_
  rintro e u ⟨rfl, hu⟩
  rw [hu]
  clear hu u
  go_wp2_with fail
  refine (IQ _).mono ?_
  rintro e u ⟨rfl, hu⟩
  rw [hu]
  clear hu u
  go_wp2_with fail
  refine (FI _).mono ?_
  rintro e u ⟨rfl, hu⟩
  rw [hu]
  clear hu u
  clear KN IP IQ FI
  go_wp2
  go_loopw [14, 15] (fun v c wr => ∃ k : Nat, k ≤ p.size ∧ c = .int .i64 (k : Int) ∧ wr.ownsRow w.heap.size 3 1 v (2 + k) (nv (L.take (2 + k))) ∧ Below w.heap.size w wr) (fun _ c _ => p.size + 1 - (intOf c).toNat)
  case atStart =>
    refine ⟨0, by omega, rfl, ?_, below_one w _⟩
    rw [show L.take (2 + 0) = [F, p.size] from L2.out]
    exact own_new w 3 #[.int .i64 (F : Int), .int .i64 (p.size : Int)] 2 rfl (by decide)
  case round =>
    obtain ⟨k, hk, rfl, hown, hbw⟩ := hrel
    have hbs := hbw.size
    by_cases hlt : k < p.size
    · have q0 : (0 : Int) ≤ (k : Int) := by omega
      have q1 : (k : Int) < (p.size : Int) := by omega
      obtain ⟨a1, a2, a3⟩ := AQ.out k hlt
      obtain ⟨d, Hd⟩ : ∃ d : Nat, Hid (p[k].toNat - 48 = d) := ⟨p[k].toNat - 48, rfl⟩
      have HN : Hid (nv (L.take (2 + (k + 1))) = nv (L.take (2 + k)) ++ [.int .i64 (d : Int)]) := (by rw [a3, nv_snoc, Hd.out] : nv (L.take (2 + (k + 1))) = nv (L.take (2 + k)) ++ [.int .i64 (d : Int)])
      have r1 : IntKind.i64.wrap (p[k].toNat : Int) = (p[k].toNat : Int) := by rw [IntKind.wrap_i64]; omega
      have r2 : IntKind.i64.wrap ((p[k].toNat : Int) - 48) = (d : Int) := by have := Hd.out; rw [IntKind.wrap_i64]; omega
      have r3 : (p[k].toNat : Int) - 48 = (d : Int) := by have := Hd.out; omega
      have r4 : ((p[k].toNat : Nat) : Int) < 256 := Lib0.toNat_lt _
      clear a1 a2 a3 AQ AH
      go_wp2_with (at_builtin; refine wpList_append_lies _ rfl _ _ _ rfl w.heap.size 3 i0 _ 1 8 Try.underlying58 hi hz0 hz1 hz2 rfl (by omega) _ (2 + k) _ rfl (hown.alloc _) ⟨wr.heap.size, 0, none⟩ 1 1 _ rfl (by rfl) (World.news_of_block (heap_alloc_new wr _)) (by simp [Value.oneCell']) (by omega) (by unfold maxLen; omega) (by omega) (by first | omega | (simp <;> omega)) (wr.heap.size + 1) (by simp) ?_; intro gg cap w1 hown1 hgrow hat hlt1)
      exact ⟨⟨k + 1, by omega, by simp, owns_len hown1 rfl rfl HN.out.symm, below_app0 hbw hbs hown hgrow⟩, by simp only [intOf]; omega⟩
    · obtain rfl : k = p.size := by omega
      clear AQ
      go_wp2_with fail
      generalize wr = wq at *
      go_loopw [14, 16] (fun v c wr => ∃ m : Nat, m ≤ 16 ∧ 2 + p.size ≤ m ∧ wr.ownsRow w.heap.size 3 1 v m (nv (L.take m)) ∧ Below w.heap.size w wr) (fun v _ _ => 17 - (match v with | .slice _ n _ => n | _ => 0))
      case atStart => exact ⟨2 + p.size, by omega, by omega, hown, hbw⟩
      case round =>
        obtain ⟨m, hm, hm2, hown, hbw⟩ := hrel
        have hbs := hbw.size
        obtain ⟨g, cap, rfl, hB, hg, hcap, hr⟩ := own_range hown (by omega)
        by_cases hlt : m < 16
        · have q1 : (m : Int) < 16 := by omega
          have hA := AH.out m hlt hm2
          rw [if_neg f0] at hA
          obtain ⟨hfm, d, d16, d6, d7⟩ := hA
          have HN : Hid (nv (L.take (m + 1)) = nv (L.take m) ++ [.int .i64 (d : Int)]) := (by rw [d7, nv_snoc] : nv (L.take (m + 1)) = nv (L.take m) ++ [.int .i64 (d : Int)])
          obtain ⟨x, Hx⟩ : ∃ x : Nat, Hid (m - 2 - p.size = x) := ⟨_, rfl⟩
          have ex := Hx.out
          simp only [ex] at d6
          have x1 : IntKind.i64.wrap ((m : Int) - 2) = (m : Int) - 2 := by rw [IntKind.wrap_i64]; omega
          have x2 : IntKind.i64.wrap ((m : Int) - 2 - (p.size : Int)) = (x : Int) := by rw [IntKind.wrap_i64]; omega
          have x3 : (m : Int) - 2 - (p.size : Int) = (x : Int) := by omega
          have x4 : (x : Int) < (fill.size : Int) := by omega
          have x5 : x < fill.size := by omega
          have SX := fun u => sixr_any (fill[x]'x5) u
          rw [d6] at SX
          clear d6 d7 hfm AH hr ex
          go_wp2_with fail
          refine (SX _).mono ?_
          rintro e u ⟨rfl, hu⟩
          rw [hu]
          clear hu u
          go_wp2_with (at_builtin; refine wpList_append_lies _ rfl _ _ _ rfl w.heap.size 3 i0 _ 1 8 Try.underlying58 hi hz0 hz1 hz2 rfl (by omega) _ m _ rfl (hown.alloc _) ⟨wr.heap.size, 0, none⟩ 1 1 _ rfl (by rfl) (World.news_of_block (heap_alloc_new wr _)) (by simp [Value.oneCell']) (by omega) (by unfold maxLen; omega) (by omega) (by first | omega | (simp <;> omega)) (wr.heap.size + 1) (by simp) ?_; intro gg cap w1 hown1 hgrow hat hlt1)
          exact ⟨⟨m + 1, by omega, by omega, owns_len hown1 rfl rfl HN.out.symm, below_app0 hbw hbs hown hgrow⟩, by show 17 - (m + 1) < 17 - m; omega⟩
        · obtain rfl : m = 16 := by omega
          rw [List.take_of_length_le (by rw [ll.out]; decide)] at hr
          have MI := mixed_ref (F : Int) L g cap q FQ ll lt _ hg hr
          clear AH
          go_wp2_with fail
          refine MI.mono ?_
          rintro e x ⟨g2, cap2, rfl, hg2, hr2, hx⟩
          go_wp2_with fail
          refine (bytes_ref (mix (F : Int) L q) g2 16 8 cap2 ML rfl (by decide) MT _ hg2 hr2).mono ?_
          rintro e x2 ⟨rfl, hx2⟩
          go_wp2
          exact bodyPost_ret (v := .tuple #[.string ⟨(pk (mix (F : Int) L q)).toArray⟩, .int .i64 0]) (by simp [results, Try.results9, go_sem]) rfl ⟨rfl, keepB (keepB hbw hx) hx2⟩
set_option maxRecDepth 100000 in
set_option maxHeartbeats 1600000 in
theorem bad_format (f : Int) (p q fill : ByteArray) (sp : p.size ≤ maxLen) (sq : q.size ≤ maxLen) (sf : fill.size ≤ maxLen) (hk : kn f = false) (w : World) :
    Calls Try.prog 9 #[.int .i64 f, .string p, .string q, .string fill] w fun e w' => e = .returned (.tuple #[.string none8, .int .i64 61]) ∧ Below w.heap.size w w' := by
  have KN := fun u => known_ref f u
  have IP := fun u => isPINr_any p u sp
  have IQ := fun u => isPANr_any q u sq
  have FI := fun u => filled_ref f fill (14 - p.size) u sf
  unfold maxLen at sp
  have w1 : IntKind.i64.wrap (14 - (p.size : Int)) = 14 - (p.size : Int) := by rw [IntKind.wrap_i64]; omega
  rw [hk] at KN
  go_enter Try.func9, Try.ntmps9
  go_wp2_with fail
  refine (KN _).mono ?_
  rintro e u ⟨rfl, hu⟩
  rw [hu]
  clear hu u
  go_wp2_with fail
  refine (IP _).mono ?_
  rintro e u ⟨rfl, hu⟩
  rw [hu]
  clear hu u
  go_wp2_with fail
  refine (IQ _).mono ?_
  rintro e u ⟨rfl, hu⟩
  rw [hu]
  clear hu u
  go_wp2_with fail
  refine (FI _).mono ?_
  rintro e u ⟨rfl, hu⟩
  rw [hu]
  clear hu u KN IP IQ FI
  go_wp2
  exact bodyPost_ret (v := .tuple #[.string none8, .int .i64 61]) (by simp [results, Try.results9, go_sem, none8]) rfl ⟨by simp, Below.refl _ _⟩
set_option maxRecDepth 100000 in
set_option maxHeartbeats 1600000 in
theorem bad_pin (f : Int) (p q fill : ByteArray) (sp : p.size ≤ maxLen) (sq : q.size ≤ maxLen) (sf : fill.size ≤ maxLen) (hk : kn f = true) (hp : pinB p = false) (w : World) :
    Calls Try.prog 9 #[.int .i64 f, .string p, .string q, .string fill] w fun e w' => e = .returned (.tuple #[.string none8, .int .i64 60]) ∧ Below w.heap.size w w' := by
  have KN := fun u => known_ref f u
  have IP := fun u => isPINr_any p u sp
  have IQ := fun u => isPANr_any q u sq
  have FI := fun u => filled_ref f fill (14 - p.size) u sf
  unfold maxLen at sp
  have w1 : IntKind.i64.wrap (14 - (p.size : Int)) = 14 - (p.size : Int) := by rw [IntKind.wrap_i64]; omega
  rw [hk] at KN
  rw [hp] at IP
  go_enter Try.func9, Try.ntmps9
  go_wp2_with fail
  refine (KN _).mono ?_
  rintro e u ⟨rfl, hu⟩
  rw [hu]
  clear hu u
  go_wp2_with fail
  refine (IP _).mono ?_
  rintro e u ⟨rfl, hu⟩
  rw [hu]
  clear hu u
  go_wp2_with fail
  refine (IQ _).mono ?_
  rintro e u ⟨rfl, hu⟩
  rw [hu]
  clear hu u
  go_wp2_with fail
  refine (FI _).mono ?_
  rintro e u ⟨rfl, hu⟩
  rw [hu]
  clear hu u KN IP IQ FI
  go_wp2
  exact bodyPost_ret (v := .tuple #[.string none8, .int .i64 60]) (by simp [results, Try.results9, go_sem, none8]) rfl ⟨by simp, Below.refl _ _⟩
set_option maxRecDepth 100000 in
set_option maxHeartbeats 1600000 in
theorem bad_pan (f : Int) (p q fill : ByteArray) (sp : p.size ≤ maxLen) (sq : q.size ≤ maxLen) (sf : fill.size ≤ maxLen) (hk : kn f = true) (hp : pinB p = true) (c1 : (f != 1) = true) (hq : panB q = false) (w : World) :
    Calls Try.prog 9 #[.int .i64 f, .string p, .string q, .string fill] w fun e w' => e = .returned (.tuple #[.string none8, .int .i64 50]) ∧ Below w.heap.size w w' := by
  have KN := fun u => known_ref f u
  have IP := fun u => isPINr_any p u sp
  have IQ := fun u => isPANr_any q u sq
  have FI := fun u => filled_ref f fill (14 - p.size) u sf
  unfold maxLen at sp
  have w1 : IntKind.i64.wrap (14 - (p.size : Int)) = 14 - (p.size : Int) := by rw [IntKind.wrap_i64]; omega
  rw [hk] at KN
  rw [hp] at IP
  rw [hq] at IQ
  go_enter Try.func9, Try.ntmps9
  go_wp2_with fail
  refine (KN _).mono ?_
  rintro e u ⟨rfl, hu⟩
  rw [hu]
  clear hu u
  go_wp2_with fail
  refine (IP _).mono ?_
  rintro e u ⟨rfl, hu⟩
  rw [hu]
  clear hu u
  go_wp2_with fail
  refine (IQ _).mono ?_
  rintro e u ⟨rfl, hu⟩
  rw [hu]
  clear hu u
  go_wp2_with fail
  refine (FI _).mono ?_
  rintro e u ⟨rfl, hu⟩
  rw [hu]
  clear hu u KN IP IQ FI
  go_wp2
  exact bodyPost_ret (v := .tuple #[.string none8, .int .i64 50]) (by simp [results, Try.results9, go_sem, none8]) rfl ⟨by simp, Below.refl _ _⟩
set_option maxRecDepth 100000 in
set_option maxHeartbeats 1600000 in
theorem bad_fill1 (f : Int) (p q fill : ByteArray) (sp : p.size ≤ maxLen) (sq : q.size ≤ maxLen) (sf : fill.size ≤ maxLen) (hk : kn f = true) (hp : pinB p = true) (c1 : (f != 1) = true) (hq : panB q = true) (hf : fillB f fill (14 - p.size) = false) (w : World) :
    Calls Try.prog 9 #[.int .i64 f, .string p, .string q, .string fill] w fun e w' => e = .returned (.tuple #[.string none8, .int .i64 62]) ∧ Below w.heap.size w w' := by
  have KN := fun u => known_ref f u
  have IP := fun u => isPINr_any p u sp
  have IQ := fun u => isPANr_any q u sq
  have FI := fun u => filled_ref f fill (14 - p.size) u sf
  unfold maxLen at sp
  have w1 : IntKind.i64.wrap (14 - (p.size : Int)) = 14 - (p.size : Int) := by rw [IntKind.wrap_i64]; omega
  rw [hk] at KN
  rw [hp] at IP
  rw [hq] at IQ
  rw [hf] at FI
  go_enter Try.func9, Try.ntmps9
  go_wp2_with fail
  refine (KN _).mono ?_
  rintro e u ⟨rfl, hu⟩
  rw [hu]
  clear hu u
  go_wp2_with fail
  refine (IP _).mono ?_
  rintro e u ⟨rfl, hu⟩
  rw [hu]
  clear hu u
  go_wp2_with fail
  refine (IQ _).mono ?_
  rintro e u ⟨rfl, hu⟩
  rw [hu]
  clear hu u
  go_wp2_with fail
  refine (FI _).mono ?_
  rintro e u ⟨rfl, hu⟩
  rw [hu]
  clear hu u KN IP IQ FI
  go_wp2
  exact bodyPost_ret (v := .tuple #[.string none8, .int .i64 62]) (by simp [results, Try.results9, go_sem, none8]) rfl ⟨by simp, Below.refl _ _⟩
set_option maxRecDepth 100000 in
set_option maxHeartbeats 1600000 in
theorem bad_fill2 (f : Int) (p q fill : ByteArray) (sp : p.size ≤ maxLen) (sq : q.size ≤ maxLen) (sf : fill.size ≤ maxLen) (hk : kn f = true) (hp : pinB p = true) (c1 : (f != 1) = false) (hf : fillB f fill (14 - p.size) = false) (w : World) :
    Calls Try.prog 9 #[.int .i64 f, .string p, .string q, .string fill] w fun e w' => e = .returned (.tuple #[.string none8, .int .i64 62]) ∧ Below w.heap.size w w' := by
  have KN := fun u => known_ref f u
  have IP := fun u => isPINr_any p u sp
  have IQ := fun u => isPANr_any q u sq
  have FI := fun u => filled_ref f fill (14 - p.size) u sf
  unfold maxLen at sp
  have w1 : IntKind.i64.wrap (14 - (p.size : Int)) = 14 - (p.size : Int) := by rw [IntKind.wrap_i64]; omega
  rw [hk] at KN
  rw [hp] at IP
  rw [hf] at FI
  go_enter Try.func9, Try.ntmps9
  go_wp2_with fail
  refine (KN _).mono ?_
  rintro e u ⟨rfl, hu⟩
  rw [hu]
  clear hu u
  go_wp2_with fail
  refine (IP _).mono ?_
  rintro e u ⟨rfl, hu⟩
  rw [hu]
  clear hu u
  go_wp2_with fail
  refine (IQ _).mono ?_
  rintro e u ⟨rfl, hu⟩
  rw [hu]
  clear hu u
  go_wp2_with fail
  refine (FI _).mono ?_
  rintro e u ⟨rfl, hu⟩
  rw [hu]
  clear hu u KN IP IQ FI
  go_wp2
  exact bodyPost_ret (v := .tuple #[.string none8, .int .i64 62]) (by simp [results, Try.results9, go_sem, none8]) rfl ⟨by simp, Below.refl _ _⟩
theorem block_ref (f : Int) (p q fill : ByteArray) (sp : p.size ≤ maxLen) (sq : q.size ≤ maxLen) (sf : fill.size ≤ maxLen) (w : World) :
    Calls Try.prog 9 #[.int .i64 f, .string p, .string q, .string fill] w (Post (blockR f p q fill) w) := by
  cases hk : kn f
  · have e : blockR f p q fill = (none8, 61) := by unfold blockR; rw [if_pos hk]
    rw [e]
    exact bad_format f p q fill sp sq sf hk w
  · have hk' := (kn_iff f).1 hk
    cases hp : pinB p
    · have e : blockR f p q fill = (none8, 60) := by unfold blockR; rw [if_neg (by simp [hk]), if_pos hp]
      rw [e]
      exact bad_pin f p q fill sp sq sf hk hp w
    · cases hq : qB f q
      · have e : blockR f p q fill = (none8, 50) := by unfold blockR; rw [if_neg (by simp [hk]), if_neg (by simp [hp]), if_pos hq]
        rw [e]
        have h2 : f ≠ 1 ∧ panB q = false := by simpa [qB] using hq
        exact bad_pan f p q fill sp sq sf hk hp (by simpa using h2.1) h2.2 w
      · cases hf : fillB f fill (14 - p.size)
        · have e : blockR f p q fill = (none8, 62) := by unfold blockR; rw [if_neg (by simp [hk]), if_neg (by simp [hp]), if_neg (by simp [hq]), if_pos hf]
          rw [e]
          by_cases h1 : f = 1
          · exact bad_fill2 f p q fill sp sq sf hk hp (by simpa using h1) hf w
          · exact bad_fill1 f p q fill sp sq sf hk hp (by simpa using h1) (by simpa [qB, h1] using hq) hf w
        · have e : blockR f p q fill = (⟨(pk (mix f (lay f p fill) q)).toArray⟩, 0) := by unfold blockR; rw [if_neg (by simp [hk]), if_neg (by simp [hp]), if_neg (by simp [hq]), if_neg (by simp [hf])]
          rw [e]
          obtain ⟨F, rfl⟩ : ∃ F : Nat, f = (F : Int) := ⟨f.toNat, by omega⟩
          by_cases h1 : (F : Int) = 1
          · exact block_good11 F hk p q fill sp sq sf hp hq hf (by simpa using h1) (by rw [h1]; rfl) w
          · have h2 : panB q = true := by simpa [qB, h1] using hq
            by_cases h0 : (F : Int) = 0
            · exact block_good00 F hk p q fill sp sq sf hp hq hf (by rw [bne_iff_ne]; exact h1) (by rw [h0]; rfl) h2 w
            · exact block_good01 F hk p q fill sp sq sf hp hq hf (by rw [bne_iff_ne]; exact h1) (by rw [bne_iff_ne]; exact h0) h2 w
end Go.Proofs.Ytciblmdpngnakaa.Rp
