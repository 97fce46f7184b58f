/-
  LexJoins, where package lex answers as it is to and the law is awake.
-/
import Derived.Test.YtgpcbfjakgndlaaLaw05D
import Derived.Deep.QuietTactic
import Derived.BigQuiet
namespace Go.Proofs.Ytgpcbfjakgndlaa
open Go.RowKit
set_option linter.unusedSimpArgs false

theorem below_drewN {B : Nat} {a w : World} (h : Below B a w) (n : Nat) : Below B a (w.drewN n) := ⟨h.os, h.tape, h.output, h.size, h.block⟩
theorem joins_big (s t : List UInt8) (w : World) (HA : Awake5) (h : 1000 < s.length ∨ (s.length ≤ 1000 ∧ 1000 < t.length)) :
    Calls Try.prog 7 #[.string (txt s), .string (txt t)] w fun e w' => e = .returned (.bool true) ∧ Below w.heap.size w w' := by
  have hsz := txt_size s
  have htz := txt_size t
  have HAW := Lib.hid HA
  clear HA
  rcases h with h | ⟨h1, h2⟩
  · have i0 : (1000 : Int) < (s.length : Int) := by omega
    go_enter Try.func7, Try.ntmps7
    go_wp2_with fail
    refine (HAW.out _).mono ?_
    rintro r w1 ⟨rfl, hB1⟩
    go_wp2
    go_ret
    exact ⟨rfl, hB1⟩
  · have i0 : ¬ (1000 : Int) < (s.length : Int) := by omega
    have i1 : (1000 : Int) < (t.length : Int) := by omega
    go_enter Try.func7, Try.ntmps7
    go_wp2_with fail
    refine (HAW.out _).mono ?_
    rintro r w1 ⟨rfl, hB1⟩
    go_wp2
    go_ret
    exact ⟨rfl, hB1⟩

set_option maxRecDepth 100000 in
set_option maxHeartbeats 2000000 in
theorem joins_err1 (s t T : List UInt8) (w : World) (HA : Awake5) (hs : s.length ≤ 1000) (ht : t.length ≤ 1000) (hTe : T = s ++ 10 :: t)
    (y : Int) (L2 : List Tok) (q1 q2 r1 r2 : Nat)
    (AL : ∀ W, Hid (AllW s [] 20 q1 q2 W)) (AT : ∀ W, Hid (AllW t L2 y r1 r2 W)) (AJ : ∀ W, Hid (AllW T [] 20 q1 q2 W)) :
    Calls Try.prog 7 #[.string (txt s), .string (txt t)] w fun e w' => e = .returned (.bool true) ∧ Below w.heap.size w w' := by
  have hsz := txt_size s
  have htz := txt_size t
  have HAW := Lib.hid HA
  have HC : Hid (txt s ++ (ByteArray.mk #[10]) = txt (s ++ [10])) := Lib.hid (txt_cat s [10])
  have HC2 : Hid (txt (s ++ [10]) ++ txt t = txt T) := Lib.hid (by rw [txt_cat, hTe, List.append_assoc]; rfl)
  have HCZ : Hid ((txt (s ++ [10])).size = s.length + 1) := Lib.hid (by rw [txt_size, List.length_append]; rfl)
  have i0 : ¬ (1000 : Int) < (s.length : Int) := by omega
  have i1 : ¬ (1000 : Int) < (t.length : Int) := by omega
  clear HA hTe
  go_enter Try.func7, Try.ntmps7
  go_wp2_with fail
  refine (HAW.out _).mono ?_
  rintro r w1 ⟨rfl, hB1⟩
  go_wp2_with fail
  refine (AL _).out.mono ?_
  rintro r w2 ⟨v2, d2, rfl, ht2, hB2⟩
  obtain ⟨A2, c2, rfl⟩ := RowK.shape ht2
  have hbA := (Below.refl _ w2).alloc (Nat.le_refl _) (.cells #[.int .i64 (q1 : Int), .int .i64 (q2 : Int)] 26)
  have htA : Toks (w2.alloc (.cells #[.int .i64 (q1 : Int), .int .i64 (q2 : Int)] 26)) d2 (.slice A2 ([]).length c2) [] := RowK.below ht2 hbA
  have hBA : Below w.heap.size w (w2.alloc (.cells #[.int .i64 (q1 : Int), .int .i64 (q2 : Int)] 26)) := (hB1.trans (hB2.mono hB1.size)).trans (hbA.mono (by have := hB1.size; have := hB2.size; omega))
  clear ht2 hbA hB1 hB2
  go_wp2_with fail
  refine (AT _).out.mono ?_
  rintro r w3 ⟨v3, d3, rfl, ht3, hB3⟩
  obtain ⟨A3, c3, rfl⟩ := RowK.shape ht3
  have hatB : Blk (w3.alloc (.cells #[.int .i64 (r1 : Int), .int .i64 (r2 : Int)] 26)) w3.heap.size 26 #[.int .i64 (r1 : Int), .int .i64 (r2 : Int)] := Blk.new w3 _ _
  have hbB := (Below.refl _ w3).alloc (Nat.le_refl _) (.cells #[.int .i64 (r1 : Int), .int .i64 (r2 : Int)] 26)
  have htB : Toks (w3.alloc (.cells #[.int .i64 (r1 : Int), .int .i64 (r2 : Int)] 26)) d2 (.slice A2 ([]).length c2) [] := RowK.below (RowK.below htA hB3) hbB
  have htB3 : Toks (w3.alloc (.cells #[.int .i64 (r1 : Int), .int .i64 (r2 : Int)] 26)) d3 (.slice A3 (L2).length c3) L2 := RowK.below ht3 hbB
  have hBB : Below w.heap.size w (w3.alloc (.cells #[.int .i64 (r1 : Int), .int .i64 (r2 : Int)] 26)) := (hBA.trans (hB3.mono hBA.size)).trans (hbB.mono (Nat.le_trans hBA.size hB3.size))
  clear htA ht3 hbB hBA hB3
  have hcat := HC.out
  have hcat2 := HC2.out
  have hcz := HCZ.out
  go_wp2_with fail
  refine (AJ _).out.mono ?_
  rintro r w4 ⟨v4, d4, rfl, ht4, hB4⟩
  obtain ⟨A4, c4, rfl⟩ := RowK.shape ht4
  obtain ⟨W, hW⟩ : ∃ W, W = w4.alloc (.cells #[.int .i64 (q1 : Int), .int .i64 (q2 : Int)] 26) := ⟨_, rfl⟩
  have hbC : Below w4.heap.size w4 W := by rw [hW]; exact (Below.refl _ w4).alloc (Nat.le_refl _) _
  have hatC : Blk W w4.heap.size 26 #[.int .i64 (q1 : Int), .int .i64 (q2 : Int)] := by rw [hW]; exact Blk.new w4 _ _
  have hatB' : Blk W w3.heap.size 26 #[.int .i64 (r1 : Int), .int .i64 (r2 : Int)] := (hatB.below hB4 hatB.lt).below hbC (Nat.lt_of_lt_of_le hatB.lt hB4.size)
  have htC : Toks W d2 (.slice A2 ([]).length c2) [] := RowK.below (RowK.below htB hB4) hbC
  have htC3 : Toks W d3 (.slice A3 (L2).length c3) L2 := RowK.below (RowK.below htB3 hB4) hbC
  have htC4 : Toks W d4 (.slice A4 ([]).length c4) [] := RowK.below ht4 hbC
  have hBC : Below w.heap.size w W := (hBB.trans (hB4.mono hBB.size)).trans (hbC.mono (Nat.le_trans hBB.size hB4.size))
  have hlt3 : w3.heap.size < W.heap.size := hatB'.lt
  have hlt4 : w4.heap.size < W.heap.size := hatC.lt
  clear htB ht4 htB3 hatB hbC hBB hB4
  have HBC := Lib.hid hBC
  clear htC htC3 htC4 hatC hatB' hBC
  subst hW
  go_wp2
  all_goals go_ret
  all_goals exact ⟨rfl, HBC.out⟩

set_option maxRecDepth 100000 in
set_option maxHeartbeats 2000000 in
theorem joins_err2 (s t T : List UInt8) (w : World) (HA : Awake5) (hs : s.length ≤ 1000) (ht : t.length ≤ 1000) (hTe : T = s ++ 10 :: t)
    (La : List Tok) (M D x : Nat) (hL1 : La.length = M + 1) (hend : La[M]? = some ⟨0, [], (D, x)⟩) (q1 q2 : Nat) (hM : M ≤ 1000) (hD : D ≤ 100000) (hq1 : q1 ≤ 100000)
    (AL : ∀ W, Hid (AllW s La 0 0 0 W)) (AT : ∀ W, Hid (AllW t [] 20 q1 q2 W)) (AJ : ∀ W, Hid (AllW T [] 20 (q1 + D) q2 W)) :
    Calls Try.prog 7 #[.string (txt s), .string (txt t)] w fun e w' => e = .returned (.bool true) ∧ Below w.heap.size w w' := by
  have hsz := txt_size s
  have htz := txt_size t
  have HAW := Lib.hid HA
  have HC : Hid (txt s ++ (ByteArray.mk #[10]) = txt (s ++ [10])) := Lib.hid (txt_cat s [10])
  have HC2 : Hid (txt (s ++ [10]) ++ txt t = txt T) := Lib.hid (by rw [txt_cat, hTe, List.append_assoc]; rfl)
  have HCZ : Hid ((txt (s ++ [10])).size = s.length + 1) := Lib.hid (by rw [txt_size, List.length_append]; rfl)
  have i0 : ¬ (1000 : Int) < (s.length : Int) := by omega
  have i1 : ¬ (1000 : Int) < (t.length : Int) := by omega
  clear HA hTe
  have HL1 := Lib.hid hL1
  have HEND := Lib.hid hend
  clear hL1 hend
  go_enter Try.func7, Try.ntmps7
  go_wp2_with fail
  refine (HAW.out _).mono ?_
  rintro r w1 ⟨rfl, hB1⟩
  go_wp2_with fail
  refine (AL _).out.mono ?_
  rintro r w2 ⟨v2, d2, rfl, ht2, hB2⟩
  obtain ⟨A2, c2, rfl⟩ := RowK.shape ht2
  rw [HL1.out] at ht2 ⊢
  have hbA := (Below.refl _ w2).alloc (Nat.le_refl _) (.cells #[.int .i64 0, .int .i64 0] 26)
  have htA : Toks (w2.alloc (.cells #[.int .i64 0, .int .i64 0] 26)) d2 (.slice A2 (M + 1) c2) La := RowK.below ht2 hbA
  have hBA : Below w.heap.size w (w2.alloc (.cells #[.int .i64 0, .int .i64 0] 26)) := (hB1.trans (hB2.mono hB1.size)).trans (hbA.mono (by have := hB1.size; have := hB2.size; omega))
  clear ht2 hbA hB1 hB2
  go_wp2_with fail
  refine (AT _).out.mono ?_
  rintro r w3 ⟨v3, d3, rfl, ht3, hB3⟩
  obtain ⟨A3, c3, rfl⟩ := RowK.shape ht3
  have hatB : Blk (w3.alloc (.cells #[.int .i64 (q1 : Int), .int .i64 (q2 : Int)] 26)) w3.heap.size 26 #[.int .i64 (q1 : Int), .int .i64 (q2 : Int)] := Blk.new w3 _ _
  have hbB := (Below.refl _ w3).alloc (Nat.le_refl _) (.cells #[.int .i64 (q1 : Int), .int .i64 (q2 : Int)] 26)
  have htB : Toks (w3.alloc (.cells #[.int .i64 (q1 : Int), .int .i64 (q2 : Int)] 26)) d2 (.slice A2 (M + 1) c2) La := RowK.below (RowK.below htA hB3) hbB
  have htB3 : Toks (w3.alloc (.cells #[.int .i64 (q1 : Int), .int .i64 (q2 : Int)] 26)) d3 (.slice A3 ([]).length c3) [] := RowK.below ht3 hbB
  have hBB : Below w.heap.size w (w3.alloc (.cells #[.int .i64 (q1 : Int), .int .i64 (q2 : Int)] 26)) := (hBA.trans (hB3.mono hBA.size)).trans (hbB.mono (Nat.le_trans hBA.size hB3.size))
  clear htA ht3 hbB hBA hB3
  have hcat := HC.out
  have hcat2 := HC2.out
  have hcz := HCZ.out
  go_wp2_with fail
  refine (AJ _).out.mono ?_
  rintro r w4 ⟨v4, d4, rfl, ht4, hB4⟩
  obtain ⟨A4, c4, rfl⟩ := RowK.shape ht4
  obtain ⟨W, hW⟩ : ∃ W, W = w4.alloc (.cells #[.int .i64 ((q1 + D) : Int), .int .i64 (q2 : Int)] 26) := ⟨_, rfl⟩
  have hbC : Below w4.heap.size w4 W := by rw [hW]; exact (Below.refl _ w4).alloc (Nat.le_refl _) _
  have hatC : Blk W w4.heap.size 26 #[.int .i64 ((q1 + D) : Int), .int .i64 (q2 : Int)] := by rw [hW]; exact Blk.new w4 _ _
  have hatB' : Blk W w3.heap.size 26 #[.int .i64 (q1 : Int), .int .i64 (q2 : Int)] := (hatB.below hB4 hatB.lt).below hbC (Nat.lt_of_lt_of_le hatB.lt hB4.size)
  have htC : Toks W d2 (.slice A2 (M + 1) c2) La := RowK.below (RowK.below htB hB4) hbC
  have htC3 : Toks W d3 (.slice A3 ([]).length c3) [] := RowK.below (RowK.below htB3 hB4) hbC
  have htC4 : Toks W d4 (.slice A4 ([]).length c4) [] := RowK.below ht4 hbC
  have hBC : Below w.heap.size w W := (hBB.trans (hB4.mono hBB.size)).trans (hbC.mono (Nat.le_trans hBB.size hB4.size))
  have hlt3 : w3.heap.size < W.heap.size := hatB'.lt
  have hlt4 : w4.heap.size < W.heap.size := hatC.lt
  clear htB ht4 htB3 hatB hbC hBB hB4
  obtain ⟨-, -, o, rfl, hd, -, -, a2, -⟩ := Toks.at htC HEND.out
  have p0 : W.cell? ⟨w3.heap.size, 0, none⟩ = some (.int .i64 (q1 : Int)) := hatB'.cell 0
  have p1 : W.cell? ⟨w3.heap.size, 1, none⟩ = some (.int .i64 (q2 : Int)) := hatB'.cell 1
  have HBC := Lib.hid hBC
  clear htC htC3 htC4 hatC hatB' hBC
  subst hW
  go_wp2
  all_goals go_ret
  all_goals exact ⟨rfl, HBC.out⟩

set_option maxRecDepth 100000 in
set_option maxHeartbeats 2000000 in
theorem joins_ok (s t T : List UInt8) (w : World) (HA : Awake5) (hs : s.length ≤ 1000) (ht : t.length ≤ 1000) (hTe : T = s ++ 10 :: t)
    (La Lb Lc : List Tok) (M N D x : Nat) (hL1 : La.length = M + 1) (hend : La[M]? = some ⟨0, [], (D, x)⟩) (hL2 : Lb.length = N + 1) (hL3 : Lc.length = M + N + 1) (hca : ∀ k, k < M → Lc[k]? = La[k]?) (hcb : ∀ j, j < N + 1 → ∃ b, Lb[j]? = some b ∧ Lc[M + j]? = some (shT D b) ∧ b.p.1 ≤ 100000) (hM : M ≤ 1000) (hN : N ≤ 1000) (hD : D ≤ 100000)
    (AL : ∀ W, Hid (AllW s La 0 0 0 W)) (AT : ∀ W, Hid (AllW t Lb 0 0 0 W)) (AJ : ∀ W, Hid (AllW T Lc 0 0 0 W)) :
    Calls Try.prog 7 #[.string (txt s), .string (txt t)] w fun e w' => e = .returned (.bool true) ∧ Below w.heap.size w w' := by
  have hsz := txt_size s
  have htz := txt_size t
  have HAW := Lib.hid HA
  have HC : Hid (txt s ++ (ByteArray.mk #[10]) = txt (s ++ [10])) := Lib.hid (txt_cat s [10])
  have HC2 : Hid (txt (s ++ [10]) ++ txt t = txt T) := Lib.hid (by rw [txt_cat, hTe, List.append_assoc]; rfl)
  have HCZ : Hid ((txt (s ++ [10])).size = s.length + 1) := Lib.hid (by rw [txt_size, List.length_append]; rfl)
  have i0 : ¬ (1000 : Int) < (s.length : Int) := by omega
  have i1 : ¬ (1000 : Int) < (t.length : Int) := by omega
  clear HA hTe
  have HL1 := Lib.hid hL1
  have HL2 := Lib.hid hL2
  have HL3 := Lib.hid hL3
  have HEND := Lib.hid hend
  have HCA := Lib.hid hca
  have HCB := Lib.hid hcb
  clear hL1 hL2 hL3 hend hca hcb
  go_enter Try.func7, Try.ntmps7
  go_wp2_with fail
  refine (HAW.out _).mono ?_
  rintro r w1 ⟨rfl, hB1⟩
  go_wp2_with fail
  refine (AL _).out.mono ?_
  rintro r w2 ⟨v2, d2, rfl, ht2, hB2⟩
  obtain ⟨A2, c2, rfl⟩ := RowK.shape ht2
  rw [HL1.out] at ht2 ⊢
  have hbA := (Below.refl _ w2).alloc (Nat.le_refl _) (.cells #[.int .i64 0, .int .i64 0] 26)
  have htA : Toks (w2.alloc (.cells #[.int .i64 0, .int .i64 0] 26)) d2 (.slice A2 (M + 1) c2) La := RowK.below ht2 hbA
  have hBA : Below w.heap.size w (w2.alloc (.cells #[.int .i64 0, .int .i64 0] 26)) := (hB1.trans (hB2.mono hB1.size)).trans (hbA.mono (by have := hB1.size; have := hB2.size; omega))
  clear ht2 hbA hB1 hB2
  go_wp2_with fail
  refine (AT _).out.mono ?_
  rintro r w3 ⟨v3, d3, rfl, ht3, hB3⟩
  obtain ⟨A3, c3, rfl⟩ := RowK.shape ht3
  rw [HL2.out] at ht3 ⊢
  have hatB : Blk (w3.alloc (.cells #[.int .i64 0, .int .i64 0] 26)) w3.heap.size 26 #[.int .i64 0, .int .i64 0] := Blk.new w3 _ _
  have hbB := (Below.refl _ w3).alloc (Nat.le_refl _) (.cells #[.int .i64 0, .int .i64 0] 26)
  have htB : Toks (w3.alloc (.cells #[.int .i64 0, .int .i64 0] 26)) d2 (.slice A2 (M + 1) c2) La := RowK.below (RowK.below htA hB3) hbB
  have htB3 : Toks (w3.alloc (.cells #[.int .i64 0, .int .i64 0] 26)) d3 (.slice A3 (N + 1) c3) Lb := RowK.below ht3 hbB
  have hBB : Below w.heap.size w (w3.alloc (.cells #[.int .i64 0, .int .i64 0] 26)) := (hBA.trans (hB3.mono hBA.size)).trans (hbB.mono (Nat.le_trans hBA.size hB3.size))
  clear htA ht3 hbB hBA hB3
  have hcat := HC.out
  have hcat2 := HC2.out
  have hcz := HCZ.out
  go_wp2_with fail
  refine (AJ _).out.mono ?_
  rintro r w4 ⟨v4, d4, rfl, ht4, hB4⟩
  obtain ⟨A4, c4, rfl⟩ := RowK.shape ht4
  rw [HL3.out] at ht4 ⊢
  obtain ⟨W, hW⟩ : ∃ W, W = w4.alloc (.cells #[.int .i64 0, .int .i64 0] 26) := ⟨_, rfl⟩
  have hbC : Below w4.heap.size w4 W := by rw [hW]; exact (Below.refl _ w4).alloc (Nat.le_refl _) _
  have hatC : Blk W w4.heap.size 26 #[.int .i64 0, .int .i64 0] := by rw [hW]; exact Blk.new w4 _ _
  have hatB' : Blk W w3.heap.size 26 #[.int .i64 0, .int .i64 0] := (hatB.below hB4 hatB.lt).below hbC (Nat.lt_of_lt_of_le hatB.lt hB4.size)
  have htC : Toks W d2 (.slice A2 (M + 1) c2) La := RowK.below (RowK.below htB hB4) hbC
  have htC3 : Toks W d3 (.slice A3 (N + 1) c3) Lb := RowK.below (RowK.below htB3 hB4) hbC
  have htC4 : Toks W d4 (.slice A4 (M + N + 1) c4) Lc := RowK.below ht4 hbC
  have hBC : Below w.heap.size w W := (hBB.trans (hB4.mono hBB.size)).trans (hbC.mono (Nat.le_trans hBB.size hB4.size))
  have hlt3 : w3.heap.size < W.heap.size := hatB'.lt
  have hlt4 : w4.heap.size < W.heap.size := hatC.lt
  clear htB ht4 htB3 hatB hbC hBB hB4
  obtain ⟨-, -, o, rfl, hd, -, -, a2, -⟩ := Toks.at htC HEND.out
  have HBC := Lib.hid hBC
  have HTA := Lib.hid htC
  have HTB := Lib.hid htC3
  have HTC := Lib.hid htC4
  have hnq : ((M : Int) + (N : Int) + 1 != (M : Int) + 1 + ((N : Int) + 1) - 1) = false := by rw [bne_eq_false_iff_eq]; omega
  clear htC htC3 htC4 hatC hatB' hBC hd
  subst hW
  go_wp2
  clear hnq
  go_loopw [16] (fun i wr => ∃ k : Nat, k ≤ M + N + 1 ∧ i = .int .i64 (k : Int) ∧ Below (w4.alloc (.cells #[.int .i64 0, .int .i64 0] 26)).heap.size (w4.alloc (.cells #[.int .i64 0, .int .i64 0] 26)) wr) (fun i _ => M + N + 1 - (intOf i).toNat)
  case atStart => exact ⟨0, Nat.zero_le _, rfl, Below.refl _ _⟩
  case round =>
    obtain ⟨k, hk, rfl, hbel⟩ := hrel
    have hTA : Toks wr d2 (.slice (some ⟨d2, o, none⟩) (M + 1) c2) La := RowK.below HTA.out hbel
    have hTB : Toks wr d3 (.slice A3 (N + 1) c3) Lb := RowK.below HTB.out hbel
    have hTC : Toks wr d4 (.slice A4 (M + N + 1) c4) Lc := RowK.below HTC.out hbel
    have hsr := hbel.size
    by_cases hlt : k < M + N + 1
    · have hk1 : (k : Int) < (M : Int) + (N : Int) + 1 := by omega
      have hbz := (Below.refl wr.heap.size wr).alloc (Nat.le_refl _) (.cells #[.int .i64 0, .string ⟨#[]⟩, .int .i64 0, .int .i64 0] 37)
      by_cases hkM : k < M
      · obtain ⟨a, ha⟩ : ∃ a, La[k]? = some a := ⟨_, List.getElem?_eq_getElem (by rw [HL1.out]; omega)⟩
        have hcx := (HCA.out k hkM).trans ha
        obtain ⟨-, -, o', e, hda, x0, x1, x2, x3⟩ := hTA.at ha
        injection e with e
        injection e with _ e _
        subst e
        obtain ⟨-, -, oc, rfl, hdc, y0, y1, y2, y3⟩ := hTC.at hcx
        have hkM1 : (k : Int) < (M : Int) := by omega
        have hba := (Below.refl wr.heap.size wr).alloc (Nat.le_refl _) (.cells #[.int .i64 (a.k : Int), .string (txt a.t), .int .i64 (a.p.1 : Int), .int .i64 (a.p.2 : Int)] 37)
        have x0' := (hbz.cell (p := ⟨d2, o + k * 4, none⟩) hda).trans x0
        have x1' := (hbz.cell (p := ⟨d2, o + k * 4 + 1, none⟩) hda).trans x1
        have x2' := (hbz.cell (p := ⟨d2, o + k * 4 + 2, none⟩) hda).trans x2
        have x3' := (hbz.cell (p := ⟨d2, o + k * 4 + 3, none⟩) hda).trans x3
        have y0' := (hba.cell (p := ⟨d4, oc + k * 4, none⟩) hdc).trans y0
        have y1' := (hba.cell (p := ⟨d4, oc + k * 4 + 1, none⟩) hdc).trans y1
        have y2' := (hba.cell (p := ⟨d4, oc + k * 4 + 2, none⟩) hdc).trans y2
        have y3' := (hba.cell (p := ⟨d4, oc + k * 4 + 3, none⟩) hdc).trans y3
        have HBE := Lib.hid (hbel.trans (hba.mono hsr))
        clear hTA hTB hTC ha hcx hbz hba hbel x0 x1 x2 x3 y0 y1 y2 y3 hlt
        go_wp2
        go_quiet (fail)
        go_wp2
        all_goals go_roundw
        case rel => exact ⟨k + 1, by omega, by go_num, below_drewN HBE.out _⟩
        case measure => simp [intOf]; omega
      · obtain ⟨j, rfl⟩ : ∃ j, k = M + j := ⟨k - M, by omega⟩
        obtain ⟨a, ha, hcx, hb9⟩ := HCB.out j (by omega)
        obtain ⟨-, -, o3, rfl, hda, x0, x1, x2, x3⟩ := hTB.at ha
        obtain ⟨-, -, oc, rfl, hdc, y0, y1, y2, y3⟩ := hTC.at hcx
        have hk2 : (M : Int) + (j : Int) < (M : Int) + (N : Int) + 1 := by omega
        have hkM1 : ¬ (M : Int) + (j : Int) < (M : Int) := by omega
        have hjM : ¬ j < 0 := by omega
        have hix : (M : Int) + (j : Int) - ((M : Int) + 1) + 1 = (j : Int) := by omega
        have hba := (Below.refl wr.heap.size wr).alloc (Nat.le_refl _) (.cells #[.int .i64 (a.k : Int), .string (txt a.t), .int .i64 ((a.p.1 : Int) + (D : Int)), .int .i64 (a.p.2 : Int)] 37)
        have x0' := (hbz.cell (p := ⟨d3, o3 + j * 4, none⟩) hda).trans x0
        have x1' := (hbz.cell (p := ⟨d3, o3 + j * 4 + 1, none⟩) hda).trans x1
        have x2' := (hbz.cell (p := ⟨d3, o3 + j * 4 + 2, none⟩) hda).trans x2
        have x3' := (hbz.cell (p := ⟨d3, o3 + j * 4 + 3, none⟩) hda).trans x3
        have y0' : (wr.alloc (.cells #[.int .i64 (a.k : Int), .string (txt a.t), .int .i64 ((a.p.1 : Int) + (D : Int)), .int .i64 (a.p.2 : Int)] 37)).cell? ⟨d4, oc + (M + j) * 4, none⟩ = some (.int .i64 (a.k : Int)) := (hba.cell (p := ⟨d4, oc + (M + j) * 4, none⟩) hdc).trans y0
        have y1' : (wr.alloc (.cells #[.int .i64 (a.k : Int), .string (txt a.t), .int .i64 ((a.p.1 : Int) + (D : Int)), .int .i64 (a.p.2 : Int)] 37)).cell? ⟨d4, oc + (M + j) * 4 + 1, none⟩ = some (.string (txt a.t)) := (hba.cell (p := ⟨d4, oc + (M + j) * 4 + 1, none⟩) hdc).trans y1
        have y2' : (wr.alloc (.cells #[.int .i64 (a.k : Int), .string (txt a.t), .int .i64 ((a.p.1 : Int) + (D : Int)), .int .i64 (a.p.2 : Int)] 37)).cell? ⟨d4, oc + (M + j) * 4 + 2, none⟩ = some (.int .i64 ((a.p.1 : Int) + (D : Int))) := (hba.cell (p := ⟨d4, oc + (M + j) * 4 + 2, none⟩) hdc).trans y2
        have y3' : (wr.alloc (.cells #[.int .i64 (a.k : Int), .string (txt a.t), .int .i64 ((a.p.1 : Int) + (D : Int)), .int .i64 (a.p.2 : Int)] 37)).cell? ⟨d4, oc + (M + j) * 4 + 3, none⟩ = some (.int .i64 (a.p.2 : Int)) := (hba.cell (p := ⟨d4, oc + (M + j) * 4 + 3, none⟩) hdc).trans y3
        have HBE := Lib.hid (hbel.trans (hba.mono hsr))
        clear hTA hTB hTC ha hcx hbz hba hbel x0 x1 x2 x3 y0 y1 y2 y3 hlt hk1 hkM
        go_wp2
        go_quiet (fail)
        go_wp2
        all_goals go_roundw
        case rel => exact ⟨M + j + 1, by omega, by go_num, below_drewN HBE.out _⟩
        case measure => simp [intOf]; omega
    · obtain rfl : k = M + N + 1 := by omega
      have hk1 : ¬ (M : Int) + (N : Int) + 1 < (M : Int) + (N : Int) + 1 := by omega
      have HBE := Lib.hid (HBC.out.trans (hbel.mono HBC.out.size))
      clear hTA hTB hTC hbel
      go_wp2
      all_goals go_ret
      all_goals exact ⟨rfl, HBE.out⟩

theorem tok_line (t : List UInt8) (ht : t.length ≤ 1000) (b : Tok) (hb : b ∈ (allX t).1) : b.p.1 ≤ 1001 := by
  rw [allX_ok (by omega)] at hb
  have hc := cut_len t
  have key : ∀ (p : Ps) (l : List It), ∀ u ∈ (lx p l).1, u.p.1 ≤ p.1 + l.length := by
    intro p l
    refine lx_ind (P := fun p l => ∀ u ∈ (lx p l).1, u.p.1 ≤ p.1 + l.length) (fun p u hu => ?_) (fun p x r q h u hu => ?_) (fun p x r o r' q h ih u hu => ?_) p l
    · rw [lx_nil] at hu
      simp at hu
      rw [hu]
      exact Nat.le_refl _
    · rw [lx_bad h] at hu
      simp at hu
    · obtain ⟨hl, m, e1, e2⟩ := step_len h
      rw [lx_go h] at hu
      have hq : q.1 + r'.length ≤ p.1 + (x :: r).length := by
        have h1 := advs_bound p (x :: m)
        rw [advs_cons, ← e2] at h1
        rw [e1]
        simp only [List.length_cons, List.length_append] at h1 ⊢
        omega
      unfold consO at hu
      split at hu
      · rcases List.mem_append.1 hu with hu | hu
        · cases o with
          | none => simp at hu
          | some v =>
            simp at hu
            rw [hu, (step_tok h).1]
            omega
        · have := ih u hu
          omega
      · simp at hu
  have := key (1, 1) (cut t) b hb
  simp only at this
  omega
theorem shX_err (D : Nat) (q : Ps) : shX D ([], 20, q) = ([], 20, (q.1 + D, q.2)) := by
  unfold shX
  rw [if_neg (by simp)]
  rfl
theorem shX_ok (D : Nat) (l : List Tok) : shX D (l, 0, (0, 0)) = (l.map (shT D), 0, (0, 0)) := by
  unfold shX
  rw [if_pos rfl]
set_option maxHeartbeats 1000000 in
theorem lexJoins_walk (s t : List UInt8) (w : World) (C : LexC) (HA : Awake5) :
    Calls Try.prog 7 #[.string (txt s), .string (txt t)] w fun e w' => e = .returned (.bool true) ∧ Below w.heap.size w w' := by
  by_cases hs : 1000 < s.length
  · exact joins_big s t w HA (.inl hs)
  by_cases ht : 1000 < t.length
  · exact joins_big s t w HA (.inr ⟨by omega, ht⟩)
  have hj := allX_join (s := s) (t := t) (by simp; omega)
  have hTl : (s ++ 10 :: t).length ≤ 20000 := by simp; omega
  have hbs := advs_bound (1, 1) (cut s)
  have hcs := cut_len s
  rcases allX_which (s := s) (by omega) with ⟨m, q, h1, hq, -⟩ | ⟨⟨q1, q2⟩, h1, -⟩
  · have hm : m.length ≤ 1000 := by
      have h2 := allX_len s
      rw [h1] at h2
      simp only [List.length_append, List.length_cons, List.length_nil] at h2
      omega
    have hL1 : (m ++ [(⟨0, [], q⟩ : Tok)]).length = m.length + 1 := by rw [List.length_append]; rfl
    have hend : (m ++ [(⟨0, [], q⟩ : Tok)])[m.length]? = some ⟨0, [], (q.1, q.2)⟩ := by rw [List.getElem?_append_right (Nat.le_refl _), Nat.sub_self]; rfl
    have hD : q.1 ≤ 100000 := by rw [hq]; omega
    rw [h1, if_pos rfl, List.dropLast_concat, ← hq] at hj
    have hbt := advs_bound (1, 1) (cut t)
    have hct := cut_len t
    rcases allX_which (s := t) (by omega) with ⟨n, z, g1, hz, -⟩ | ⟨⟨r1, r2⟩, g1, -⟩
    · have hn : n.length ≤ 1000 := by
        have h2 := allX_len t
        rw [g1] at h2
        simp only [List.length_append, List.length_cons, List.length_nil] at h2
        omega
      have hL2 : (n ++ [(⟨0, [], z⟩ : Tok)]).length = n.length + 1 := by rw [List.length_append]; rfl
      rw [g1, shX_ok] at hj
      have hj2 : allX (s ++ 10 :: t) = (m ++ (n ++ [(⟨0, [], z⟩ : Tok)]).map (shT q.1), 0, (0, 0)) := hj
      refine joins_ok s t (s ++ 10 :: t) w HA (by omega) (by omega) rfl _ _ _ m.length n.length q.1 q.2 hL1 hend hL2 (by rw [List.length_append, List.length_map, hL2]; omega) (fun k hk => ?_) (fun j hjn => ?_) hm hn hD (fun W => allW C (by omega) h1 W) (fun W => allW C (by omega) g1 W) (fun W => allW C hTl hj2 W)
      · rw [List.getElem?_append_left hk, List.getElem?_append_left hk]
      · refine ⟨(n ++ [(⟨0, [], z⟩ : Tok)])[j]'(by omega), List.getElem?_eq_getElem _, ?_, ?_⟩
        · rw [List.getElem?_append_right (by omega), show m.length + j - m.length = j by omega, List.getElem?_map, List.getElem?_eq_getElem (by omega)]
          rfl
        · have ho := tok_line t (by omega) ((n ++ [(⟨0, [], z⟩ : Tok)])[j]'(by omega)) (by rw [g1]; exact List.getElem_mem _)
          omega
    · rw [g1, shX_err] at hj
      have hj2 : allX (s ++ 10 :: t) = ([], 20, (r1 + q.1, r2)) := hj
      have hr1 : r1 ≤ 100000 := by
        have hx := lx_at (1, 1) (cut t) (by rw [← allX_ok (by omega), g1]; simp)
        obtain ⟨m2, n2, e1, e2⟩ := hx
        rw [← allX_ok (by omega), g1] at e2
        have b1 := advs_bound (1, 1) m2
        have b2 : m2.length ≤ (cut t).length := by rw [e1, List.length_append]; omega
        have e3 : (r1, r2) = advs (1, 1) m2 := e2
        rw [← e3] at b1
        simp only at b1
        omega
      exact joins_err2 s t (s ++ 10 :: t) w HA (by omega) (by omega) rfl _ m.length q.1 q.2 hL1 hend r1 r2 hm hD hr1 (fun W => allW C (by omega) h1 W) (fun W => allW C (by omega) g1 W) (fun W => allW C hTl hj2 W)
  · rw [h1, if_neg (by simp)] at hj
    obtain ⟨L2, y, r1, r2, g1⟩ : ∃ L2 y r1 r2, allX t = (L2, y, (r1, r2)) := ⟨_, _, _, _, rfl⟩
    exact joins_err1 s t (s ++ 10 :: t) w HA (by omega) (by omega) rfl y L2 q1 q2 r1 r2 (fun W => allW C (by omega) h1 W) (fun W => allW C (by omega) g1 W) (fun W => allW C hTl hj W)

end Go.Proofs.Ytgpcbfjakgndlaa
