/-
  LexFronts, whole, where package lex answers as it is to and the law is awake.
-/
import Derived.Test.YtgpcbfjakgndlaaLaw05D
namespace Go.Proofs.Ytgpcbfjakgndlaa
open Go.RowKit
set_option linter.unusedSimpArgs false

set_option maxRecDepth 100000 in
set_option maxHeartbeats 2000000 in
theorem lexFronts_err (s t : List UInt8) (w : World) (C : LexC) (HA : Awake5) (hs : s.length ≤ 1000) (ht : t.length ≤ 1000) (q1 q2 : Nat) (hX : allX s = ([], 20, (q1, q2))) (h1 : 1 ≤ q1) (h2 : 1 ≤ q2) (h3 : q1 ≤ (advs (1, 1) (cut s)).1) :
    Calls Try.prog 6 #[.string (txt s), .string (txt t)] w fun e w' => e = .returned (.bool true) ∧ Below w.heap.size w w' := by
  have hsz := txt_size s
  have htz := txt_size t
  have HAW := Lib.hid HA
  have AL := fun W => allW C (by omega) hX W
  have hT : allX (s ++ 10 :: t) = ([], 20, (q1, q2)) := by
    rw [allX_join (by simp; omega), hX, if_neg (by simp)]
  obtain ⟨T, hTe⟩ : ∃ T, T = s ++ 10 :: t := ⟨_, rfl⟩
  have hTl : T.length ≤ 2001 := by rw [hTe]; simp; omega
  rw [← hTe] at hT
  have AT := fun W => allW C (by omega) hT W
  have hcat : txt s ++ (ByteArray.mk #[10]) = txt (s ++ [10]) := txt_cat s [10]
  have hcat2 : txt (s ++ [10]) ++ txt t = txt T := by rw [txt_cat, hTe, List.append_assoc]; rfl
  have hcz : (txt (s ++ [10])).size = s.length + 1 := by rw [txt_size, List.length_append]; rfl
  have HC := Lib.hid hcat
  have HC2 := Lib.hid hcat2
  have HCZ := Lib.hid hcz
  have i0 : ¬ (1000 : Int) < (s.length : Int) := by omega
  have i1 : ¬ (1000 : Int) < (t.length : Int) := by omega
  have H3 := Lib.hid h3
  clear C HA hX hT hTe hcat hcat2 hcz h3
  go_enter Try.func6, Try.ntmps6
  go_wp2_with fail
  refine (HAW.out _).mono ?_
  rintro r w1 ⟨rfl, hB1⟩
  go_wp2_with fail
  refine (AL _).out.mono ?_
  rintro r w2 ⟨v2, d2, rfl, ht2, hB2⟩
  obtain ⟨A, c, rfl⟩ := RowK.shape ht2
  have hbA := (Below.refl _ w2).alloc (Nat.le_refl _) (.cells #[.int .i64 (q1 : Int), .int .i64 (q2 : Int)] 26)
  have hat : Blk (w2.alloc (.cells #[.int .i64 (q1 : Int), .int .i64 (q2 : Int)] 26)) w2.heap.size 26 #[.int .i64 (q1 : Int), .int .i64 (q2 : Int)] := Blk.new w2 _ _
  have hBW : Below w.heap.size w (w2.alloc (.cells #[.int .i64 (q1 : Int), .int .i64 (q2 : Int)] 26)) := (hB1.trans (hB2.mono hB1.size)).trans (hbA.mono (by have := hB1.size; have := hB2.size; omega))
  have hit0 := World.iter_heap (w2.alloc (.cells #[.int .i64 (q1 : Int), .int .i64 (q2 : Int)] 26)) (txt s) 0
  have hsA : (w2.alloc (.cells #[.int .i64 (q1 : Int), .int .i64 (q2 : Int)] 26)).heap.size = w2.heap.size + 1 := by simp
  rw [hsA] at hit0
  have hat2 : Blk ((w2.alloc (.cells #[.int .i64 (q1 : Int), .int .i64 (q2 : Int)] 26)).iter (txt s) 0) w2.heap.size 26 #[.int .i64 (q1 : Int), .int .i64 (q2 : Int)] := Blk.alloc hat _
  have hBW2 : Below w.heap.size w ((w2.alloc (.cells #[.int .i64 (q1 : Int), .int .i64 (q2 : Int)] 26)).iter (txt s) 0) := hBW.alloc hBW.size _
  have hs12 : w.heap.size ≤ w2.heap.size := Nat.le_trans hB1.size hB2.size
  clear ht2 hbA hB1 hB2 hat hBW hsA
  go_wp2
  go_loopw [12, 13] (fun ln cl wr => ∃ (its : List It) (pos : Nat), Hid (cut s = its ++ cut (s.drop pos)) ∧ pos ≤ s.length ∧ ln = .int .i64 ((advs (1, 1) its).1 : Int) ∧ cl = .int .i64 ((advs (1, 1) its).2 : Int) ∧
      Blk wr w2.heap.size 26 #[.int .i64 (q1 : Int), .int .i64 (q2 : Int)] ∧ wr.heap[w2.heap.size + 1]? = some (.stringIter (txt s) pos) ∧ Below w.heap.size w wr) (fun _ _ wr => s.length - wr.iterPos (w2.heap.size + 1))
  case atStart => exact ⟨[], 0, Lib.hid rfl, Nat.zero_le _, rfl, rfl, hat2, hit0, hBW2⟩
  case round =>
    obtain ⟨its, pos, HCU, hpos, rfl, rfl, hbk, hit, hbel⟩ := hrel
    obtain ⟨ln, hln⟩ : ∃ ln, ln = (advs (1, 1) its).1 := ⟨_, rfl⟩
    obtain ⟨cl, hcl⟩ : ∃ cl, cl = (advs (1, 1) its).2 := ⟨_, rfl⟩
    rw [← hln, ← hcl]
    have hil : its.length ≤ 1000 := by
      have k1 := cut_len s
      have k2 := congrArg List.length HCU.out
      rw [List.length_append] at k2
      omega
    have hbd := advs_bound (1, 1) its
    rw [← hln, ← hcl] at hbd
    have hl9 : ln ≤ 200000 := by omega
    have hc9 : cl ≤ 200000 := by simp at hbd; omega
    have hKW : w2.heap.size + 1 < wr.heap.size := (Array.getElem?_eq_some_iff.1 hit).1
    by_cases hlt : pos < s.length
    · have h0 : s.drop pos ≠ [] := by intro e; have := congrArg List.length e; rw [List.length_drop] at this; simp at this; omega
      have hnx : ∀ ty, (Instr.next (.pointer (some ⟨w2.heap.size + 1, 0, none⟩)) true ty).run Try.prog wr = _ := fun ty => Lib.run_next_any_at wr (w2.heap.size + 1) (txt s) pos ty hit (by rw [txt_size]; exact hlt)
      rw [dec_at s pos (by omega)] at hnx
      have hk := dc_know h0
      have hnl := nl_iff h0
      have hcc := cut_cons h0
      obtain ⟨R, hR⟩ : ∃ R, R = s.drop pos := ⟨_, rfl⟩
      rw [← hR] at hnx hk hnl hcc h0
      obtain ⟨cc, k, hdc⟩ : ∃ c k, dc R = (c, k) := ⟨_, _, rfl⟩
      rw [hdc] at hnx hk hnl hcc
      simp only at hnx hk hnl hcc
      obtain ⟨hk1, hk2, hc14, -, -⟩ := hk
      have hRl : R.length = s.length - pos := by rw [hR, List.length_drop]
      obtain ⟨x, hx⟩ : ∃ x : It, x = (R.take k, okc R) := ⟨_, rfl⟩
      have HCU2 : Hid (cut s = (its ++ [x]) ++ cut (s.drop (pos + k))) := Lib.hid (by
        rw [HCU.out, ← hR, hcc, ← hx, hR, List.drop_drop, List.append_assoc]
        rfl)
      have hadv : advs (1, 1) (its ++ [x]) = adv (advs (1, 1) its) x := by rw [advs_app]; rfl
      have hnlx : cc = 10 ↔ x.1 = [10] := by rw [hx]; exact hnl
      have hit2 := Lib.iterAt_heap wr (w2.heap.size + 1) (txt s) pos (pos + k) hit
      have hbel2 := Lib.below_iterAt hbel (k := w2.heap.size + 1) (by omega) (txt s) (pos + k)
      have hbk2 : Blk (wr.iterAt (w2.heap.size + 1) (txt s) (pos + k)) w2.heap.size 26 #[.int .i64 (q1 : Int), .int .i64 (q2 : Int)] := (Lib.iterAt_other wr (w2.heap.size + 1) w2.heap.size (txt s) (pos + k) (by omega)).trans hbk
      obtain ⟨W, hW⟩ : ∃ W, wr.iterAt (w2.heap.size + 1) (txt s) (pos + k) = W := ⟨_, rfl⟩
      rw [hW] at hnx hit2 hbel2 hbk2
      have HIT := Lib.hid hit
      have HIT2 := Lib.hid hit2
      have HBE2 := Lib.hid hbel2
      have HBK2 := Lib.hid hbk2
      have hpk : pos + k ≤ s.length := by omega
      by_cases hc10 : cc = 10
      · have hxn := hnlx.1 hc10
        have HA1 : Hid ((advs (1, 1) (its ++ [x])).1 = ln + 1) := Lib.hid (by rw [hadv]; unfold adv; rw [if_pos hxn, ← hln])
        have HA2 : Hid ((advs (1, 1) (its ++ [x])).2 = 1) := Lib.hid (by rw [hadv]; unfold adv; rw [if_pos hxn])
        subst hc10
        clear hbel hbk hit hbel2 hbk2 hit2 hW hdc hcc hx hadv hnlx hnl hR hRl h0 hxn hln hcl hbd hit0 hat2 hBW2 hk2
        go_wp2
        go_roundw
        case rel => exact ⟨its ++ [x], pos + k, HCU2, hpk, by rw [HA1.out] <;> first | rfl | (push_cast; rfl), by rw [HA2.out] <;> first | rfl | (push_cast; rfl), HBK2.out, HIT2.out, HBE2.out⟩
        case measure => rw [iterPos_of HIT2.out, iterPos_of HIT.out]; omega
      · have hxn : x.1 ≠ [10] := fun h => hc10 (hnlx.2 h)
        have HA1 : Hid ((advs (1, 1) (its ++ [x])).1 = ln) := Lib.hid (by rw [hadv]; unfold adv; rw [if_neg hxn, ← hln])
        have HA2 : Hid ((advs (1, 1) (its ++ [x])).2 = cl + 1) := Lib.hid (by rw [hadv]; unfold adv; rw [if_neg hxn, ← hcl])
        have e10 : ((cc : Int) == 10) = false := beq_eq_false_iff_ne.2 (by omega)
        clear hbel hbk hit hbel2 hbk2 hit2 hW hdc hcc hx hadv hnlx hnl hR hRl h0 hxn hln hcl hbd hit0 hat2 hBW2 hk2 hc10
        go_wp2
        go_roundw
        case rel => exact ⟨its ++ [x], pos + k, HCU2, hpk, by rw [HA1.out] <;> first | rfl | (push_cast; rfl), by rw [HA2.out] <;> first | rfl | (push_cast; rfl), HBK2.out, HIT2.out, HBE2.out⟩
        case measure => rw [iterPos_of HIT2.out, iterPos_of HIT.out]; omega
    · have hpe : pos = s.length := by omega
      have hnx : ∀ ty, (Instr.next (.pointer (some ⟨w2.heap.size + 1, 0, none⟩)) true ty).run Try.prog wr = _ := fun ty => Lib.run_next_end_at wr (w2.heap.size + 1) (txt s) pos ty hit (by rw [txt_size]; omega)
      have hI : its = cut s := by rw [HCU.out, hpe, List.drop_length, cut_nil, List.append_nil]
      have hq1 : ¬ ln < q1 := by have := H3.out; rw [hln, hI]; omega
      have n1 : ¬ (q1 : Int) < 1 := by omega
      have n2 : ¬ (q2 : Int) < 1 := by omega
      have p0 : wr.cell? ⟨w2.heap.size, 0, none⟩ = some (.int .i64 (q1 : Int)) := hbk.cell 0
      have p1 : wr.cell? ⟨w2.heap.size, 1, none⟩ = some (.int .i64 (q2 : Int)) := hbk.cell 1
      have HBK := Lib.hid hbk
      have HBE := Lib.hid hbel
      clear hpe hlt hit hbel hbk hit0 hat2 hBW2 hln hcl hbd hI HCU hil
      by_cases hq : q1 = ln ∧ q2 = cl
      · obtain ⟨rfl, rfl⟩ := hq
        go_wp2
        all_goals go_ret
        all_goals exact ⟨rfl, HBE.out⟩
      · have hqq : ((q1 : Int) == (ln : Int)) = false ∨ (q1 = ln ∧ ((q2 : Int) == (cl : Int)) = false) := by
          by_cases e : q1 = ln
          · exact .inr ⟨e, beq_eq_false_iff_ne.2 (fun e2 => hq ⟨e, by omega⟩)⟩
          · exact .inl (beq_eq_false_iff_ne.2 (by omega))
        clear hq
        have hcat := HC.out
        have hcat2 := HC2.out
        have hcz := HCZ.out
        rcases hqq with e | ⟨rfl, e⟩
        all_goals
          go_wp2_with fail
          refine (AT _).out.mono ?_
          rintro r w5 ⟨v5, d5, rfl, -, hB5⟩
          have hbk5 := HBK.out.below hB5 HBK.out.lt
          have hlt5 := hbk5.lt
          have hbA5 := (Below.refl w5.heap.size w5).alloc (Nat.le_refl _) (.cells #[.int .i64 (q1 : Int), .int .i64 (q2 : Int)] 26)
          have hbk6 := hbk5.below hbA5 hlt5
          have z0 : (w5.alloc (.cells #[.int .i64 (q1 : Int), .int .i64 (q2 : Int)] 26)).cell? ⟨w2.heap.size, 0, none⟩ = some (.int .i64 (q1 : Int)) := hbk6.cell 0
          have z1 : (w5.alloc (.cells #[.int .i64 (q1 : Int), .int .i64 (q2 : Int)] 26)).cell? ⟨w2.heap.size, 1, none⟩ = some (.int .i64 (q2 : Int)) := hbk6.cell 1
          have HB6 := Lib.hid ((HBE.out.trans (hB5.mono HBE.out.size)).trans (hbA5.mono (Nat.le_trans HBE.out.size hB5.size)))
          clear hB5 hbk5 hbA5 hbk6
          go_wp2
          all_goals go_ret
          all_goals exact ⟨rfl, HB6.out⟩

set_option maxRecDepth 100000 in
set_option maxHeartbeats 2000000 in
theorem lexFronts_walk (s t : List UInt8) (w : World) (C : LexC) (HA : Awake5) :
    Calls Try.prog 6 #[.string (txt s), .string (txt t)] w fun e w' => e = .returned (.bool true) ∧ Below w.heap.size w w' := by
  have hsz := txt_size s
  have htz := txt_size t
  by_cases hs : 1000 < s.length
  · have i0 : (1000 : Int) < (s.length : Int) := by omega
    have HAW := Lib.hid HA
    clear C HA
    go_enter Try.func6, Try.ntmps6
    go_wp2_with fail
    refine (HAW.out _).mono ?_
    rintro r w1 ⟨rfl, hB1⟩
    go_wp2
    go_ret
    exact ⟨rfl, hB1⟩
  by_cases ht : 1000 < t.length
  · have i0 : ¬ (1000 : Int) < (s.length : Int) := by omega
    have i1 : (1000 : Int) < (t.length : Int) := by omega
    have HAW := Lib.hid HA
    clear C HA
    go_enter Try.func6, Try.ntmps6
    go_wp2_with fail
    refine (HAW.out _).mono ?_
    rintro r w1 ⟨rfl, hB1⟩
    go_wp2
    go_ret
    exact ⟨rfl, hB1⟩
  rcases allX_which (s := s) (by omega) with ⟨m, q, h1, h2, h3⟩ | ⟨⟨q1, q2⟩, h1, h2, h3, h4⟩
  · exact lexFronts_ok s t w C HA (by omega) (by omega) m q h1 h3
  · exact lexFronts_err s t w C HA (by omega) (by omega) q1 q2 h1 h2 h3 h4

end Go.Proofs.Ytgpcbfjakgndlaa
