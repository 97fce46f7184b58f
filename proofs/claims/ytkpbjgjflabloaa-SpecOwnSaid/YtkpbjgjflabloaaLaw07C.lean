/-
  SpecTags, where package spec answers as it is to and the law is awake.
-/
import Derived.Test.YtkpbjgjflabloaaLaw07B
namespace Go.Proofs.Ytkpbjgjflabloaa
open Go.RowKit
set_option linter.unusedSimpArgs false
set_option linter.unusedVariables false

set_option maxRecDepth 100000 in
set_option maxHeartbeats 4000000 in
theorem specTags_walk (v : Int) (hv0 : -9223372036854775808 ≤ v) (hv1 : v ≤ 9223372036854775807) (l : List (List UInt8)) (nv : Value) (d : Nat) (t : Nat) (ht : t < 18446744073709551616) (w : World) (hn : Vals w d nv (txts l)) (C : SpcC w) (HA : Awake7 w) :
    Calls Try.prog 4 #[.int .i64 v, nv, .int .u64 (t : Int)] w fun e w' => e = .returned (.bool true) ∧ Below w.heap.size w w' := by
  have HAW := Lib.hid (HA w (Below.refl _ _))
  obtain ⟨An, cn, e⟩ := hn.shape
  rw [txts_len] at e
  subst e
  by_cases h20 : 20 < l.length
  · have i0 : (20 : Int) < (l.length : Int) := by omega
    clear C HA h20 hn ht
    go_enter Try.func4, Try.ntmps4
    go_wp2_with fail
    refine HAW.out.mono ?_
    rintro r w1 ⟨rfl, hB1⟩
    have HB := Lib.hid hB1
    clear hB1
    go_wp2
    go_ret
    exact ⟨rfl, HB.out⟩
  have i0 : ¬ (20 : Int) < (l.length : Int) := by omega
  obtain ⟨y, e2, hY⟩ : ∃ y e2, atX v l = (y, e2) := ⟨_, _, rfl⟩
  have FY : Hid (Few y) := Lib.hid (by have h := few_at v l; rw [hY] at h; exact h)
  have hc3 : ∀ W, Below w.heap.size w W → Hid (Calls Try.prog 10 #[.int .i64 v, .slice An l.length cn] W (LieP (y, e2) W)) := fun W h => Lib.hid (by have := C.at_ v l d _ W hv0 hv1 (by omega) (hn.kept_ h) h; rw [hY] at this; exact this.mono fun _ _ h => h.lie)
  have hc4 : ∀ W, Below w.heap.size w W → Hid (Calls Try.prog 11 #[.int .i64 v, .slice An l.length cn] W (LieP (y, e2) W)) := fun W h => Lib.hid (by have := rat_l v l _ d W (hn.kept_ h) (by omega); rw [hY] at this; exact this)
  have M1 := Lib.hid hc3
  have M2 := Lib.hid hc4
  have HC := Lib.hid C
  have HT := Lib.hid ht
  clear hc3 hc4 hY C HA hn h20 ht
  go_enter Try.func4, Try.ntmps4
  go_wp2_with fail
  refine HAW.out.mono ?_
  rintro r w1 ⟨rfl, hB1⟩
  have H1 := Lib.hid hB1
  clear hB1
  go_wp2_with fail
  refine (M1.out _ H1.out).out.mono ?_
  rintro r w2 ⟨cs, rfl, hl, hB⟩
  obtain ⟨B1, m1, A1, c1, rfl⟩ := hl.shape
  have hk : Below w1.heap.size w1 (w2.alloc (.cells #[.string (txt y.1.name), .int .i64 (y.1.kind : Int), .int .i64 (y.1.typ : Int), .int .u64 (y.1.low : Int), .int .u64 (y.1.high : Int), .slice B1 y.1.names.length m1, .bool y.1.must, .int .i64 (y.1.most : Int), .slice A1 y.2.len c1] 27)) := hB.alloc hB.size _
  have H2 := Lib.hid (H1.out.trans (hk.mono H1.out.size))
  have L1_1 := Lib.hid (hl.below ((Below.refl w2.heap.size w2).alloc (Nat.le_refl _) (.cells #[.string (txt y.1.name), .int .i64 (y.1.kind : Int), .int .i64 (y.1.typ : Int), .int .u64 (y.1.low : Int), .int .u64 (y.1.high : Int), .slice B1 y.1.names.length m1, .bool y.1.must, .int .i64 (y.1.most : Int), .slice A1 y.2.len c1] 27)))
  have X1_1 := Lib.hid (Blk.new w2 27 #[.string (txt y.1.name), .int .i64 (y.1.kind : Int), .int .i64 (y.1.typ : Int), .int .u64 (y.1.low : Int), .int .u64 (y.1.high : Int), .slice B1 y.1.names.length m1, .bool y.1.must, .int .i64 (y.1.most : Int), .slice A1 y.2.len c1])
  clear hl hB hk
  go_wp2_with fail
  refine (M2.out _ H2.out).out.mono ?_
  rintro r w3 ⟨cs, rfl, hl, hB⟩
  obtain ⟨B2, m2, A2, c2, rfl⟩ := hl.shape
  have hk : Below (w2.alloc (.cells #[.string (txt y.1.name), .int .i64 (y.1.kind : Int), .int .i64 (y.1.typ : Int), .int .u64 (y.1.low : Int), .int .u64 (y.1.high : Int), .slice B1 y.1.names.length m1, .bool y.1.must, .int .i64 (y.1.most : Int), .slice A1 y.2.len c1] 27)).heap.size (w2.alloc (.cells #[.string (txt y.1.name), .int .i64 (y.1.kind : Int), .int .i64 (y.1.typ : Int), .int .u64 (y.1.low : Int), .int .u64 (y.1.high : Int), .slice B1 y.1.names.length m1, .bool y.1.must, .int .i64 (y.1.most : Int), .slice A1 y.2.len c1] 27)) (w3.alloc (.cells #[.string (txt y.1.name), .int .i64 (y.1.kind : Int), .int .i64 (y.1.typ : Int), .int .u64 (y.1.low : Int), .int .u64 (y.1.high : Int), .slice B2 y.1.names.length m2, .bool y.1.must, .int .i64 (y.1.most : Int), .slice A2 y.2.len c2] 33)) := hB.alloc hB.size _
  have H3 := Lib.hid (H2.out.trans (hk.mono H2.out.size))
  have L1_2 := Lib.hid (L1_1.out.below hk)
  have X1_2 := Lib.hid (X1_1.out.below hk X1_1.out.lt)
  have L2_2 := Lib.hid (hl.below ((Below.refl w3.heap.size w3).alloc (Nat.le_refl _) (.cells #[.string (txt y.1.name), .int .i64 (y.1.kind : Int), .int .i64 (y.1.typ : Int), .int .u64 (y.1.low : Int), .int .u64 (y.1.high : Int), .slice B2 y.1.names.length m2, .bool y.1.must, .int .i64 (y.1.most : Int), .slice A2 y.2.len c2] 33)))
  have X2_2 := Lib.hid (Blk.new w3 33 #[.string (txt y.1.name), .int .i64 (y.1.kind : Int), .int .i64 (y.1.typ : Int), .int .u64 (y.1.low : Int), .int .u64 (y.1.high : Int), .slice B2 y.1.names.length m2, .bool y.1.must, .int .i64 (y.1.most : Int), .slice A2 y.2.len c2])
  clear hl hB hk
  have HD : Hid (Below (w3.alloc (.cells #[.string (txt y.1.name), .int .i64 (y.1.kind : Int), .int .i64 (y.1.typ : Int), .int .u64 (y.1.low : Int), .int .u64 (y.1.high : Int), .slice B2 y.1.names.length m2, .bool y.1.must, .int .i64 (y.1.most : Int), .slice A2 y.2.len c2] 33)).heap.size (w3.alloc (.cells #[.string (txt y.1.name), .int .i64 (y.1.kind : Int), .int .i64 (y.1.typ : Int), .int .u64 (y.1.low : Int), .int .u64 (y.1.high : Int), .slice B2 y.1.names.length m2, .bool y.1.must, .int .i64 (y.1.most : Int), .slice A2 y.2.len c2] 33)) (w3.alloc (.cells #[.string (txt y.1.name), .int .i64 (y.1.kind : Int), .int .i64 (y.1.typ : Int), .int .u64 (y.1.low : Int), .int .u64 (y.1.high : Int), .slice B2 y.1.names.length m2, .bool y.1.must, .int .i64 (y.1.most : Int), .slice A2 y.2.len c2] 33)).drew) := Lib.hid (Below.refl _ _).drew
  have L1_3 := Lib.hid (L1_2.out.below HD.out)
  have X1_3 := Lib.hid (X1_2.out.below HD.out X1_2.out.lt)
  have L2_3 := Lib.hid (L2_2.out.below HD.out)
  have X2_3 := Lib.hid (X2_2.out.below HD.out X2_2.out.lt)
  have H4 := Lib.hid (H3.out.trans (HD.out.mono H3.out.size))
  have K0 := Lib.hid (kid_zero y.2)
  go_wp2_with fail
  refine wp_region_noPanic ?_
  refine wp_region_held_drew (S := fun _ => True) (by kernel_rfl) trivial (fun hS => ?_)
  refine held_more (S' := fun w' => Blk w' w2.heap.size 27 #[.string (txt y.1.name), .int .i64 (y.1.kind : Int), .int .i64 (y.1.typ : Int), .int .u64 (y.1.low : Int), .int .u64 (y.1.high : Int), .slice B1 y.1.names.length m1, .bool y.1.must, .int .i64 (y.1.most : Int), .slice A1 y.2.len c1] ∧ Blk w' w3.heap.size 33 #[.string (txt y.1.name), .int .i64 (y.1.kind : Int), .int .i64 (y.1.typ : Int), .int .u64 (y.1.low : Int), .int .u64 (y.1.high : Int), .slice B2 y.1.names.length m2, .bool y.1.must, .int .i64 (y.1.most : Int), .slice A2 y.2.len c2]) (fun _ _ => trivial) _ _ _ _ ?_
  replace hS := And.intro X1_3.out X2_3.out
  refine wpAnyH_take (i := 0) (oi := ?o1_0_1) (v := ?v1_0_1) ?i1_0_1 (by kernel_rfl) (by kernel_rfl) (by kernel_rfl) (fun _ _ _ h => h) (Or.inl ⟨?g1_0_1, ?y1_0_1⟩) hS ?_
  case i1_0_1 => simp only [List.getElem?_toArray, List.getElem?_cons_succ, List.getElem?_cons_zero]; rfl
  case g1_0_1 => rfl
  case y1_0_1 => (intro w hSw; have q0 := (hSw.1.cell 0).trans rfl; have q1 := (hSw.1.cell 1).trans rfl; have q2 := (hSw.1.cell 2).trans rfl; have q3 := (hSw.1.cell 3).trans rfl; have q4 := (hSw.1.cell 4).trans rfl; have q5 := (hSw.1.cell 5).trans rfl; have q6 := (hSw.1.cell 6).trans rfl; have q7 := (hSw.1.cell 7).trans rfl; have q8 := (hSw.1.cell 8).trans rfl; (go_simp <;> with_reducible rfl))
  (try simp only [Act.put, List.setIfInBounds_toArray, List.set_cons_zero, List.set_cons_succ])
  refine wpAnyH_take (i := 1) (oi := ?o1_1_2) (v := ?v1_1_2) ?i1_1_2 (by kernel_rfl) (by kernel_rfl) (by kernel_rfl) (fun _ _ _ h => h) (Or.inl ⟨?g1_1_2, ?y1_1_2⟩) hS ?_
  case i1_1_2 => simp only [List.getElem?_toArray, List.getElem?_cons_succ, List.getElem?_cons_zero]; rfl
  case g1_1_2 => rfl
  case y1_1_2 => (intro w hSw; (go_simp <;> with_reducible rfl))
  (try simp only [Act.put, List.setIfInBounds_toArray, List.set_cons_zero, List.set_cons_succ])
  refine wpAnyH_take (i := 3) (oi := ?o1_3_3) (v := ?v1_3_3) ?i1_3_3 (by kernel_rfl) (by kernel_rfl) (by kernel_rfl) (fun _ _ _ h => h) (Or.inl ⟨?g1_3_3, ?y1_3_3⟩) hS ?_
  case i1_3_3 => simp only [List.getElem?_toArray, List.getElem?_cons_succ, List.getElem?_cons_zero]; rfl
  case g1_3_3 => rfl
  case y1_3_3 => (intro w hSw; have q0 := (hSw.2.cell 0).trans rfl; have q1 := (hSw.2.cell 1).trans rfl; have q2 := (hSw.2.cell 2).trans rfl; have q3 := (hSw.2.cell 3).trans rfl; have q4 := (hSw.2.cell 4).trans rfl; have q5 := (hSw.2.cell 5).trans rfl; have q6 := (hSw.2.cell 6).trans rfl; have q7 := (hSw.2.cell 7).trans rfl; have q8 := (hSw.2.cell 8).trans rfl; (go_simp <;> with_reducible rfl))
  (try simp only [Act.put, List.setIfInBounds_toArray, List.set_cons_zero, List.set_cons_succ])
  refine wpAnyH_take (i := 4) (oi := ?o1_4_4) (v := ?v1_4_4) ?i1_4_4 (by kernel_rfl) (by kernel_rfl) (by kernel_rfl) (fun _ _ _ h => h) (Or.inl ⟨?g1_4_4, ?y1_4_4⟩) hS ?_
  case i1_4_4 => simp only [List.getElem?_toArray, List.getElem?_cons_succ, List.getElem?_cons_zero]; rfl
  case g1_4_4 => rfl
  case y1_4_4 => (intro w hSw; (go_simp <;> with_reducible rfl))
  (try simp only [Act.put, List.setIfInBounds_toArray, List.set_cons_zero, List.set_cons_succ])
  refine wpAnyH_ready (rs := [2]) (by kernel_rfl) (by simp) ?_
  refine (AllReadyH.cons (o := ?o1_5_2) ?i1_5_2 (fun K hK => ?st1_5_2) AllReadyH.nil)
  case i1_5_2 => simp only [List.getElem?_toArray, List.getElem?_cons_succ, List.getElem?_cons_zero]; rfl
  rw [if_pos (by rfl)]
  go_simp
  refine (kid_l HC.out t HT.out H4.out L1_3.out FY.out).mono ?_
  rintro r w4 ⟨rfl, hb⟩
  have H5 := Lib.hid (H4.out.trans (hb.mono H4.out.size))
  have L1_4 := Lib.hid (L1_3.out.below hb)
  have X1_4 := Lib.hid (X1_3.out.below hb X1_3.out.lt)
  have L2_4 := Lib.hid (L2_3.out.below hb)
  have X2_4 := Lib.hid (X2_3.out.below hb X2_3.out.lt)
  clear hb
  go_wp2_with fail
  refine hK.out _ _ ?s1_5_2 (fun hS => ?_)
  case s1_5_2 => (exact And.intro X1_4.out X2_4.out)
  clear hK K
  (try simp only [Act.put, List.setIfInBounds_toArray, List.set_cons_zero, List.set_cons_succ])
  refine wpAnyH_ready (rs := [5]) (by kernel_rfl) (by simp) ?_
  refine (AllReadyH.cons (o := ?o1_6_5) ?i1_6_5 (fun K hK => ?st1_6_5) AllReadyH.nil)
  case i1_6_5 => simp only [List.getElem?_toArray, List.getElem?_cons_succ, List.getElem?_cons_zero]; rfl
  rw [if_pos (by rfl)]
  go_simp
  refine (rkid_l t L2_4.out FY.out).mono ?_
  rintro r w5 ⟨rfl, hb⟩
  have H6 := Lib.hid (H5.out.trans (hb.mono H5.out.size))
  have L1_5 := Lib.hid (L1_4.out.below hb)
  have X1_5 := Lib.hid (X1_4.out.below hb X1_4.out.lt)
  have L2_5 := Lib.hid (L2_4.out.below hb)
  have X2_5 := Lib.hid (X2_4.out.below hb X2_4.out.lt)
  clear hb
  go_wp2_with fail
  refine hK.out _ _ ?s1_6_5 (fun hS => ?_)
  case s1_6_5 => (exact And.intro X1_5.out X2_5.out)
  clear hK K
  (try simp only [Act.put, List.setIfInBounds_toArray, List.set_cons_zero, List.set_cons_succ])
  refine wpAnyH_take (i := 6) (oi := ?o1_6_7) (v := ?v1_6_7) ?i1_6_7 (by kernel_rfl) (by kernel_rfl) (by kernel_rfl) (fun _ _ _ h => h) (Or.inl ⟨?g1_6_7, ?y1_6_7⟩) hS ?_
  case i1_6_7 => simp only [List.getElem?_toArray, List.getElem?_cons_succ, List.getElem?_cons_zero]; rfl
  case g1_6_7 => rfl
  case y1_6_7 => (intro w hSw; (go_simp <;> with_reducible rfl))
  (try simp only [Act.put, List.setIfInBounds_toArray, List.set_cons_zero, List.set_cons_succ])
  refine wpAnyH_take (i := 7) (oi := ?o1_7_8) (v := ?v1_7_8) ?i1_7_8 (by kernel_rfl) (by kernel_rfl) (by kernel_rfl) (fun _ _ _ h => h) (Or.inl ⟨?g1_7_8, ?y1_7_8⟩) hS ?_
  case i1_7_8 => simp only [List.getElem?_toArray, List.getElem?_cons_succ, List.getElem?_cons_zero]; rfl
  case g1_7_8 => rfl
  case y1_7_8 => (intro w hSw; (go_simp <;> with_reducible rfl))
  (try simp only [Act.put, List.setIfInBounds_toArray, List.set_cons_zero, List.set_cons_succ])
  refine wpAnyH_take (i := 8) (oi := ?o1_8_9) (v := ?v1_8_9) ?i1_8_9 (by kernel_rfl) (by kernel_rfl) (by kernel_rfl) (fun _ _ _ h => h) (Or.inl ⟨?g1_8_9, ?y1_8_9⟩) hS ?_
  case i1_8_9 => simp only [List.getElem?_toArray, List.getElem?_cons_succ, List.getElem?_cons_zero]; rfl
  case g1_8_9 => rfl
  case y1_8_9 => (intro w hSw; have q0 := (hSw.1.cell 0).trans rfl; have q1 := (hSw.1.cell 1).trans rfl; have q2 := (hSw.1.cell 2).trans rfl; have q3 := (hSw.1.cell 3).trans rfl; have q4 := (hSw.1.cell 4).trans rfl; have q5 := (hSw.1.cell 5).trans rfl; have q6 := (hSw.1.cell 6).trans rfl; have q7 := (hSw.1.cell 7).trans rfl; have q8 := (hSw.1.cell 8).trans rfl; (go_simp <;> with_reducible rfl))
  (try simp only [Act.put, List.setIfInBounds_toArray, List.set_cons_zero, List.set_cons_succ])
  refine wpAnyH_ready (rs := [9]) (by kernel_rfl) (by simp) ?_
  refine (AllReadyH.cons (o := ?o1_10_9) ?i1_10_9 (fun K hK => ?st1_10_9) AllReadyH.nil)
  case i1_10_9 => simp only [List.getElem?_toArray, List.getElem?_cons_succ, List.getElem?_cons_zero]; rfl
  rw [if_pos (by rfl)]
  go_simp
  refine (kid_l HC.out 0 (by omega) H6.out L1_5.out FY.out).mono ?_
  rw [K0.out]
  rintro r w6 ⟨rfl, hb⟩
  have H7 := Lib.hid (H6.out.trans (hb.mono H6.out.size))
  have L1_6 := Lib.hid (L1_5.out.below hb)
  have X1_6 := Lib.hid (X1_5.out.below hb X1_5.out.lt)
  have L2_6 := Lib.hid (L2_5.out.below hb)
  have X2_6 := Lib.hid (X2_5.out.below hb X2_5.out.lt)
  clear hb
  go_wp2_with fail
  refine hK.out _ _ ?s1_10_9 (fun hS => ?_)
  case s1_10_9 => (exact And.intro X1_6.out X2_6.out)
  clear hK K
  (try simp only [Act.put, List.setIfInBounds_toArray, List.set_cons_zero, List.set_cons_succ])
  refine wpAnyH_take (i := 10) (oi := ?o1_10_11) (v := ?v1_10_11) ?i1_10_11 (by kernel_rfl) (by kernel_rfl) (by kernel_rfl) (fun _ _ _ h => h) (Or.inl ⟨?g1_10_11, ?y1_10_11⟩) hS ?_
  case i1_10_11 => simp only [List.getElem?_toArray, List.getElem?_cons_succ, List.getElem?_cons_zero]; rfl
  case g1_10_11 => rfl
  case y1_10_11 => (intro w hSw; (go_simp <;> with_reducible rfl))
  (try simp only [Act.put, List.setIfInBounds_toArray, List.set_cons_zero, List.set_cons_succ])
  refine wpAnyH_take (i := 11) (oi := ?o1_11_12) (v := ?v1_11_12) ?i1_11_12 (by kernel_rfl) (by kernel_rfl) (by kernel_rfl) (fun _ _ _ h => h) (Or.inl ⟨?g1_11_12, ?y1_11_12⟩) hS ?_
  case i1_11_12 => simp only [List.getElem?_toArray, List.getElem?_cons_succ, List.getElem?_cons_zero]; rfl
  case g1_11_12 => rfl
  case y1_11_12 => (intro w hSw; (go_simp <;> with_reducible rfl))
  (try simp only [Act.put, List.setIfInBounds_toArray, List.set_cons_zero, List.set_cons_succ])
  refine wpAnyH_done (by kernel_rfl) ?_ _
  refine NoPanic.normal ?_
  clear hS
  have hl7 : Hid (y.2.len ≤ 7) := Lib.hid FY.out.2.2.1
  go_wp2
  go_loopw [12, 13, 14] (fun i v13 v14 wr => ∃ (j : Int), -2 ≤ j ∧ j ≤ (y.2.len : Int) + 2 ∧ i = .int .i64 j ∧ Blk wr w2.heap.size 27 #[.string (txt y.1.name), .int .i64 (y.1.kind : Int), .int .i64 (y.1.typ : Int), .int .u64 (y.1.low : Int), .int .u64 (y.1.high : Int), .slice B1 y.1.names.length m1, .bool y.1.must, .int .i64 (y.1.most : Int), .slice A1 y.2.len c1] ∧ Blk wr w3.heap.size 33 #[.string (txt y.1.name), .int .i64 (y.1.kind : Int), .int .i64 (y.1.typ : Int), .int .u64 (y.1.low : Int), .int .u64 (y.1.high : Int), .slice B2 y.1.names.length m2, .bool y.1.must, .int .i64 (y.1.most : Int), .slice A2 y.2.len c2] ∧ Hid (Lies wr [.string (txt y.1.name), .int .i64 (y.1.kind : Int), .int .i64 (y.1.typ : Int), .int .u64 (y.1.low : Int), .int .u64 (y.1.high : Int), .slice B1 y.1.names.length m1, .bool y.1.must, .int .i64 (y.1.most : Int), .slice A1 y.2.len c1] y) ∧ Hid (Lies wr [.string (txt y.1.name), .int .i64 (y.1.kind : Int), .int .i64 (y.1.typ : Int), .int .u64 (y.1.low : Int), .int .u64 (y.1.high : Int), .slice B2 y.1.names.length m2, .bool y.1.must, .int .i64 (y.1.most : Int), .slice A2 y.2.len c2] y) ∧ Below w.heap.size w wr) (fun i _ _ _ => ((y.2.len : Int) + 2 - intOf i).toNat)
  case atStart => exact ⟨-2, by omega, by omega, rfl, X1_6.out, X2_6.out, L1_6, L2_6, H7.out⟩
  case round =>
    obtain ⟨j, hj0, hj1, rfl, hX, hY, HL1, HL2, hB⟩ := hrel
    have HB := Lib.hid hB
    have HX := Lib.hid hX
    have HY := Lib.hid hY
    have b7 := hl7.out
    have i7 : (y.2.len : Int) ≤ 7 := by omega
    have q8 := (hX.cell 8).trans rfl
    by_cases hlt : j < (y.2.len : Int) + 2
    · have HTG := Lib.hid (tag_l HC.out j (by omega) (by omega) hB HL1.out FY.out)
      have q0 := (hX.cell 0).trans rfl
      have q1 := (hX.cell 1).trans rfl
      have q2 := (hX.cell 2).trans rfl
      have q3 := (hX.cell 3).trans rfl
      have q4 := (hX.cell 4).trans rfl
      have q5 := (hX.cell 5).trans rfl
      have q6 := (hX.cell 6).trans rfl
      have q7 := (hX.cell 7).trans rfl
      clear hX hY hB b7
      go_wp2_with fail
      refine HTG.out.mono ?_
      rintro r w7 ⟨rfl, hb⟩
      have HB7 := Lib.hid (HB.out.trans (hb.mono HB.out.size))
      have HX7 := Lib.hid (HX.out.below hb HX.out.lt)
      have HY7 := Lib.hid (HY.out.below hb HY.out.lt)
      have HL71 := Lib.hid (HL1.out.below hb)
      have HL72 := Lib.hid (HL2.out.below hb)
      have HRT := Lib.hid (rtag_l j (by omega) (by omega) HL72.out FY.out)
      clear hb q0 q1 q2 q3 q4 q5 q6 q7 q8
      by_cases hin : 0 ≤ j ∧ j < (y.2.len : Int)
      · obtain ⟨k, rfl⟩ : ∃ k : Nat, j = (k : Int) := ⟨j.toNat, by omega⟩
        obtain ⟨a, q, hg⟩ := Fr.get_some (f := y.2) (n := k) (by omega)
        have hi1 : (0 : Int) ≤ (k : Int) := hin.1
        have hi2 : (k : Int) < (y.2.len : Int) := hin.2
        have HTI := Lib.hid (tag_in hg)
        have HKD : Hid (kidX y.2 (tagX y.2 (k : Int)) = (k : Int)) := Lib.hid (tag_kid hg)
        obtain ⟨T, hT⟩ : ∃ T, T = tagX y.2 (k : Int) := ⟨_, rfl⟩
        rw [← hT] at HTI HKD HRT ⊢
        clear hT hin
        have HRX : Hid (∃ b o, A1 = some ⟨b, o, none⟩ ∧ b < w7.heap.size ∧ w7.cell? ⟨b, o + k * 9 + 1, none⟩ = some (.int .i64 (a.kind : Int))) := Lib.hid (by
          obtain ⟨S, N, hS, hN, h⟩ := HL71.out
          obtain ⟨_, _, vv, h3, h4⟩ := h
          have e3 : vv = .slice A1 y.2.len c1 := by simpa using h3.symm
          subst e3
          obtain ⟨b, o, c', cs', ee, -, hSb, hNk, hcl⟩ := h4.at hg
          injection ee with e1 _ _
          obtain ⟨B', m', A', c'', d', rfl, -, -, -⟩ := SpN.shape (x := (a, q)) hNk
          exact ⟨b, o, e1, hS b hSb, hcl 1 _ rfl⟩)
        obtain ⟨b, o, hA1, hbb, hkc⟩ := HRX.out
        subst hA1
        have HKC := Lib.hid (And.intro hbb hkc)
        have HLT : Hid (T < 18446744073709551616) := Lib.hid (by rw [HTI.out]; split <;> omega)
        clear hbb hkc hg HRX
        have p8 := (HX7.out.cell 8).trans rfl
        have p0 := (HY7.out.cell 0).trans rfl
        have p1 := (HY7.out.cell 1).trans rfl
        have p2 := (HY7.out.cell 2).trans rfl
        have p3 := (HY7.out.cell 3).trans rfl
        have p4 := (HY7.out.cell 4).trans rfl
        have p5 := (HY7.out.cell 5).trans rfl
        have p6 := (HY7.out.cell 6).trans rfl
        have p7 := (HY7.out.cell 7).trans rfl
        have p9 := (HY7.out.cell 8).trans rfl
        go_wp2_with fail
        refine HRT.out.mono ?_
        rintro r w8 ⟨rfl, hb⟩
        have HB8 := Lib.hid (HB7.out.trans (hb.mono HB7.out.size))
        have HX8 := Lib.hid (HX7.out.below hb HX7.out.lt)
        have HY8 := Lib.hid (HY7.out.below hb HY7.out.lt)
        have HL81 := Lib.hid (HL71.out.below hb)
        have HL82 := Lib.hid (HL72.out.below hb)
        have HKC8 := Lib.hid (And.intro (Nat.lt_of_lt_of_le HKC.out.1 hb.size) ((hb.cell (p := ⟨b, o + k * 9 + 1, none⟩) HKC.out.1).trans HKC.out.2))
        have HKX := Lib.hid (kid_l HC.out T HLT.out HB8.out HL81.out FY.out)
        clear hb p0 p1 p2 p3 p4 p5 p6 p7 p8
        have q0 := (HX8.out.cell 0).trans rfl
        have q1 := (HX8.out.cell 1).trans rfl
        have q2 := (HX8.out.cell 2).trans rfl
        have q3 := (HX8.out.cell 3).trans rfl
        have q4 := (HX8.out.cell 4).trans rfl
        have q5 := (HX8.out.cell 5).trans rfl
        have q6 := (HX8.out.cell 6).trans rfl
        have q7 := (HX8.out.cell 7).trans rfl
        have q8 := (HX8.out.cell 8).trans rfl
        go_wp2_with fail
        refine HKX.out.mono ?_
        rw [HKD.out]
        rintro r w9 ⟨rfl, hb⟩
        have HB9 := Lib.hid (HB8.out.trans (hb.mono HB8.out.size))
        have HX9 := Lib.hid (HX8.out.below hb HX8.out.lt)
        have HY9 := Lib.hid (HY8.out.below hb HY8.out.lt)
        have HL91 := Lib.hid (HL81.out.below hb)
        have HL92 := Lib.hid (HL82.out.below hb)
        have kc := (hb.cell (p := ⟨b, o + k * 9 + 1, none⟩) HKC8.out.1).trans HKC8.out.2
        have z8 := (HX9.out.cell 8).trans rfl
        clear hb q0 q1 q2 q3 q4 q5 q6 q7 q8
        by_cases hk1 : a.kind = 1
        · have t1 : (T : Int) % 2 = 0 := by have := HTI.out; rw [if_pos hk1] at this; omega
          have t2 : (T : Int).tmod 2 = 0 := by rw [Int.tmod_eq_emod_of_nonneg (by omega)]; exact t1
          have n1 : ((a.kind : Int) == 1) = true := by rw [hk1]; rfl
          clear hk1
          go_wp2
          go_roundw
          case rel => exact ⟨(k : Int) + 1, by omega, by omega, by go_num, HX9.out, HY9.out, HL91, HL92, HB9.out⟩
          case measure => simp [intOf]; omega
        · have t1 : (T : Int) % 2 = 1 := by have := HTI.out; rw [if_neg hk1] at this; omega
          have t2 : (T : Int).tmod 2 = 1 := by rw [Int.tmod_eq_emod_of_nonneg (by omega)]; exact t1
          have n1 : ((a.kind : Int) == 1) = false := beq_eq_false_iff_ne.2 (by omega)
          clear hk1
          go_wp2
          go_roundw
          case rel => exact ⟨(k : Int) + 1, by omega, by omega, by go_num, HX9.out, HY9.out, HL91, HL92, HB9.out⟩
          case measure => simp [intOf]; omega
      · have HT0 : Hid (tagX y.2 j = 0) := Lib.hid (by
          by_cases h0 : j < 0
          · exact tag_low _ h0
          · exact tag_high _ (by omega))
        rw [HT0.out] at HRT ⊢
        have hw : ¬ (0 : Int) ≤ j ∨ ((0 : Int) ≤ j ∧ ¬ j < (y.2.len : Int)) := by omega
        clear hin
        have p8 := (HX7.out.cell 8).trans rfl
        have p0 := (HY7.out.cell 0).trans rfl
        have p1 := (HY7.out.cell 1).trans rfl
        have p2 := (HY7.out.cell 2).trans rfl
        have p3 := (HY7.out.cell 3).trans rfl
        have p4 := (HY7.out.cell 4).trans rfl
        have p5 := (HY7.out.cell 5).trans rfl
        have p6 := (HY7.out.cell 6).trans rfl
        have p7 := (HY7.out.cell 7).trans rfl
        have p9 := (HY7.out.cell 8).trans rfl
        rcases hw with g1 | ⟨g1, g2⟩
        all_goals
          go_wp2_with fail
          refine HRT.out.mono ?_
          rintro r w8 ⟨rfl, hb⟩
          have HB8 := Lib.hid (HB7.out.trans (hb.mono HB7.out.size))
          have HX8 := Lib.hid (HX7.out.below hb HX7.out.lt)
          have HY8 := Lib.hid (HY7.out.below hb HY7.out.lt)
          have HL81 := Lib.hid (HL71.out.below hb)
          have HL82 := Lib.hid (HL72.out.below hb)
          clear hb
          go_wp2
          go_roundw
          case rel => exact ⟨j + 1, by omega, by omega, by go_num, HX8.out, HY8.out, HL81, HL82, HB8.out⟩
          case measure => simp [intOf]; omega
    · clear hX hY hB b7
      go_wp2
      go_ret
      exact ⟨rfl, HB.out⟩

end Go.Proofs.Ytkpbjgjflabloaa
