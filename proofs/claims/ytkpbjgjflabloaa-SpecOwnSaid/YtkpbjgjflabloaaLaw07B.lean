/-
  SpecTells, where package spec answers as it is to and the law is awake.
-/
import Derived.Test.YtkpbjgjflabloaaLies
namespace Go.Proofs.Ytkpbjgjflabloaa
open Go.RowKit
set_option linter.unusedSimpArgs false
set_option linter.unusedVariables false

theorem Vals.kept_ {w w' : World} {d : Nat} {v : Value} {xs : List Value} (h : Vals w d v xs) (hb : Below w.heap.size w w') : Vals w' d v xs :=
  h.heap (fun h0 => by
    obtain ⟨A, c, _, _, h2⟩ := h
    exact hb.block d (h2 h0).1)
set_option maxRecDepth 100000 in
set_option maxHeartbeats 4000000 in
theorem specTells_walk (v : Int) (hv0 : -9223372036854775808 ≤ v) (hv1 : v ≤ 9223372036854775807) (l : List (List UInt8)) (nv : Value) (d : Nat) (n : List UInt8) (w : World) (hn : Vals w d nv (txts l)) (C : SpcC w) (HA : Awake7 w) :
    Calls Try.prog 3 #[.int .i64 v, nv, .string (txt n)] w fun e w' => e = .returned (.bool true) ∧ Below w.heap.size w w' := by
  have HAW := Lib.hid (HA w (Below.refl _ _))
  obtain ⟨An, cn, e⟩ := hn.shape
  rw [txts_len] at e
  subst e
  by_cases h20 : 20 < l.length
  · have i0 : (20 : Int) < (l.length : Int) := by omega
    clear C HA h20 hn
    go_enter Try.func3, Try.ntmps3
    go_wp2_with fail
    refine HAW.out.mono ?_
    rintro r w1 ⟨rfl, hB1⟩
    have HB := Lib.hid hB1
    clear hB1
    go_wp2
    go_ret
    exact ⟨rfl, HB.out⟩
  have i0 : ¬ (20 : Int) < (l.length : Int) := by omega
  obtain ⟨x, e1, hX⟩ : ∃ x e1, rootX v = (x, e1) := ⟨_, _, rfl⟩
  obtain ⟨y, e2, hY⟩ : ∃ y e2, atX v l = (y, e2) := ⟨_, _, rfl⟩
  have FX : Hid (Few x) := Lib.hid (by have h := few_root v; rw [hX] at h; exact h)
  have FY : Hid (Few y) := Lib.hid (by have h := few_at v l; rw [hY] at h; exact h)
  have hc1 : ∀ W, Below w.heap.size w W → Hid (Calls Try.prog 8 #[.int .i64 v] W (LieP (x, e1) W)) := fun W h => Lib.hid (by have := C.root v W hv0 hv1 h; rw [hX] at this; exact this.mono fun _ _ h => h.lie)
  have hc2 : ∀ W, Hid (Calls Try.prog 9 #[.int .i64 v] W (LieP (x, e1) W)) := fun W => Lib.hid (by have := rroot_l v W; rw [hX] at this; exact this)
  have hc3 : ∀ W, Below w.heap.size w W → Hid (Calls Try.prog 10 #[.int .i64 v, .slice An l.length cn] W (LieP (y, e2) W)) := fun W h => Lib.hid (by have := C.at_ v l d _ W hv0 hv1 (by omega) (hn.kept_ h) h; rw [hY] at this; exact this.mono fun _ _ h => h.lie)
  have hc4 : ∀ W, Below w.heap.size w W → Hid (Calls Try.prog 11 #[.int .i64 v, .slice An l.length cn] W (LieP (y, e2) W)) := fun W h => Lib.hid (by have := rat_l v l _ d W (hn.kept_ h) (by omega); rw [hY] at this; exact this)
  have M1 := Lib.hid hc1
  have M2 := Lib.hid hc2
  have M3 := Lib.hid hc3
  have M4 := Lib.hid hc4
  have HC := Lib.hid C
  clear hc1 hc2 hc3 hc4 hX hY C HA hn h20
  go_enter Try.func3, Try.ntmps3
  go_wp2_with fail
  refine HAW.out.mono ?_
  rintro r w1 ⟨rfl, hB1⟩
  have H1 := Lib.hid hB1
  clear hB1
  go_wp2_with fail
  refine (M1.out _ H1.out).out.mono ?_
  rintro r w2 ⟨cs, rfl, hl, hB⟩
  obtain ⟨B1, m1, A1, c1, rfl⟩ := hl.shape
  have hk : Below w1.heap.size w1 (w2.alloc (.cells #[.string (txt x.1.name), .int .i64 (x.1.kind : Int), .int .i64 (x.1.typ : Int), .int .u64 (x.1.low : Int), .int .u64 (x.1.high : Int), .slice B1 x.1.names.length m1, .bool x.1.must, .int .i64 (x.1.most : Int), .slice A1 x.2.len c1] 27)) := hB.alloc hB.size _
  have H2 := Lib.hid (H1.out.trans (hk.mono H1.out.size))
  have L1_1 := Lib.hid (hl.below ((Below.refl w2.heap.size w2).alloc (Nat.le_refl _) (.cells #[.string (txt x.1.name), .int .i64 (x.1.kind : Int), .int .i64 (x.1.typ : Int), .int .u64 (x.1.low : Int), .int .u64 (x.1.high : Int), .slice B1 x.1.names.length m1, .bool x.1.must, .int .i64 (x.1.most : Int), .slice A1 x.2.len c1] 27)))
  have X1_1 := Lib.hid (Blk.new w2 27 #[.string (txt x.1.name), .int .i64 (x.1.kind : Int), .int .i64 (x.1.typ : Int), .int .u64 (x.1.low : Int), .int .u64 (x.1.high : Int), .slice B1 x.1.names.length m1, .bool x.1.must, .int .i64 (x.1.most : Int), .slice A1 x.2.len c1])
  clear hl hB hk
  go_wp2_with fail
  refine (M2.out _).out.mono ?_
  rintro r w3 ⟨cs, rfl, hl, hB⟩
  obtain ⟨B2, m2, A2, c2, rfl⟩ := hl.shape
  have hk : Below (w2.alloc (.cells #[.string (txt x.1.name), .int .i64 (x.1.kind : Int), .int .i64 (x.1.typ : Int), .int .u64 (x.1.low : Int), .int .u64 (x.1.high : Int), .slice B1 x.1.names.length m1, .bool x.1.must, .int .i64 (x.1.most : Int), .slice A1 x.2.len c1] 27)).heap.size (w2.alloc (.cells #[.string (txt x.1.name), .int .i64 (x.1.kind : Int), .int .i64 (x.1.typ : Int), .int .u64 (x.1.low : Int), .int .u64 (x.1.high : Int), .slice B1 x.1.names.length m1, .bool x.1.must, .int .i64 (x.1.most : Int), .slice A1 x.2.len c1] 27)) (w3.alloc (.cells #[.string (txt x.1.name), .int .i64 (x.1.kind : Int), .int .i64 (x.1.typ : Int), .int .u64 (x.1.low : Int), .int .u64 (x.1.high : Int), .slice B2 x.1.names.length m2, .bool x.1.must, .int .i64 (x.1.most : Int), .slice A2 x.2.len c2] 33)) := hB.alloc hB.size _
  have H3 := Lib.hid (H2.out.trans (hk.mono H2.out.size))
  have L1_2 := Lib.hid (L1_1.out.below hk)
  have X1_2 := Lib.hid (X1_1.out.below hk X1_1.out.lt)
  have L2_2 := Lib.hid (hl.below ((Below.refl w3.heap.size w3).alloc (Nat.le_refl _) (.cells #[.string (txt x.1.name), .int .i64 (x.1.kind : Int), .int .i64 (x.1.typ : Int), .int .u64 (x.1.low : Int), .int .u64 (x.1.high : Int), .slice B2 x.1.names.length m2, .bool x.1.must, .int .i64 (x.1.most : Int), .slice A2 x.2.len c2] 33)))
  have X2_2 := Lib.hid (Blk.new w3 33 #[.string (txt x.1.name), .int .i64 (x.1.kind : Int), .int .i64 (x.1.typ : Int), .int .u64 (x.1.low : Int), .int .u64 (x.1.high : Int), .slice B2 x.1.names.length m2, .bool x.1.must, .int .i64 (x.1.most : Int), .slice A2 x.2.len c2])
  clear hl hB hk
  go_wp2_with fail
  refine (M3.out _ H3.out).out.mono ?_
  rintro r w4 ⟨cs, rfl, hl, hB⟩
  obtain ⟨B3, m3, A3, c3, rfl⟩ := hl.shape
  have hk : Below (w3.alloc (.cells #[.string (txt x.1.name), .int .i64 (x.1.kind : Int), .int .i64 (x.1.typ : Int), .int .u64 (x.1.low : Int), .int .u64 (x.1.high : Int), .slice B2 x.1.names.length m2, .bool x.1.must, .int .i64 (x.1.most : Int), .slice A2 x.2.len c2] 33)).heap.size (w3.alloc (.cells #[.string (txt x.1.name), .int .i64 (x.1.kind : Int), .int .i64 (x.1.typ : Int), .int .u64 (x.1.low : Int), .int .u64 (x.1.high : Int), .slice B2 x.1.names.length m2, .bool x.1.must, .int .i64 (x.1.most : Int), .slice A2 x.2.len c2] 33)) (w4.alloc (.cells #[.string (txt y.1.name), .int .i64 (y.1.kind : Int), .int .i64 (y.1.typ : Int), .int .u64 (y.1.low : Int), .int .u64 (y.1.high : Int), .slice B3 y.1.names.length m3, .bool y.1.must, .int .i64 (y.1.most : Int), .slice A3 y.2.len c3] 27)) := hB.alloc hB.size _
  have H4 := Lib.hid (H3.out.trans (hk.mono H3.out.size))
  have L1_3 := Lib.hid (L1_2.out.below hk)
  have X1_3 := Lib.hid (X1_2.out.below hk X1_2.out.lt)
  have L2_3 := Lib.hid (L2_2.out.below hk)
  have X2_3 := Lib.hid (X2_2.out.below hk X2_2.out.lt)
  have L3_3 := Lib.hid (hl.below ((Below.refl w4.heap.size w4).alloc (Nat.le_refl _) (.cells #[.string (txt y.1.name), .int .i64 (y.1.kind : Int), .int .i64 (y.1.typ : Int), .int .u64 (y.1.low : Int), .int .u64 (y.1.high : Int), .slice B3 y.1.names.length m3, .bool y.1.must, .int .i64 (y.1.most : Int), .slice A3 y.2.len c3] 27)))
  have X3_3 := Lib.hid (Blk.new w4 27 #[.string (txt y.1.name), .int .i64 (y.1.kind : Int), .int .i64 (y.1.typ : Int), .int .u64 (y.1.low : Int), .int .u64 (y.1.high : Int), .slice B3 y.1.names.length m3, .bool y.1.must, .int .i64 (y.1.most : Int), .slice A3 y.2.len c3])
  clear hl hB hk
  go_wp2_with fail
  refine (M4.out _ H4.out).out.mono ?_
  rintro r w5 ⟨cs, rfl, hl, hB⟩
  obtain ⟨B4, m4, A4, c4, rfl⟩ := hl.shape
  have hk : Below (w4.alloc (.cells #[.string (txt y.1.name), .int .i64 (y.1.kind : Int), .int .i64 (y.1.typ : Int), .int .u64 (y.1.low : Int), .int .u64 (y.1.high : Int), .slice B3 y.1.names.length m3, .bool y.1.must, .int .i64 (y.1.most : Int), .slice A3 y.2.len c3] 27)).heap.size (w4.alloc (.cells #[.string (txt y.1.name), .int .i64 (y.1.kind : Int), .int .i64 (y.1.typ : Int), .int .u64 (y.1.low : Int), .int .u64 (y.1.high : Int), .slice B3 y.1.names.length m3, .bool y.1.must, .int .i64 (y.1.most : Int), .slice A3 y.2.len c3] 27)) (w5.alloc (.cells #[.string (txt y.1.name), .int .i64 (y.1.kind : Int), .int .i64 (y.1.typ : Int), .int .u64 (y.1.low : Int), .int .u64 (y.1.high : Int), .slice B4 y.1.names.length m4, .bool y.1.must, .int .i64 (y.1.most : Int), .slice A4 y.2.len c4] 33)) := hB.alloc hB.size _
  have H5 := Lib.hid (H4.out.trans (hk.mono H4.out.size))
  have L1_4 := Lib.hid (L1_3.out.below hk)
  have X1_4 := Lib.hid (X1_3.out.below hk X1_3.out.lt)
  have L2_4 := Lib.hid (L2_3.out.below hk)
  have X2_4 := Lib.hid (X2_3.out.below hk X2_3.out.lt)
  have L3_4 := Lib.hid (L3_3.out.below hk)
  have X3_4 := Lib.hid (X3_3.out.below hk X3_3.out.lt)
  have L4_4 := Lib.hid (hl.below ((Below.refl w5.heap.size w5).alloc (Nat.le_refl _) (.cells #[.string (txt y.1.name), .int .i64 (y.1.kind : Int), .int .i64 (y.1.typ : Int), .int .u64 (y.1.low : Int), .int .u64 (y.1.high : Int), .slice B4 y.1.names.length m4, .bool y.1.must, .int .i64 (y.1.most : Int), .slice A4 y.2.len c4] 33)))
  have X4_4 := Lib.hid (Blk.new w5 33 #[.string (txt y.1.name), .int .i64 (y.1.kind : Int), .int .i64 (y.1.typ : Int), .int .u64 (y.1.low : Int), .int .u64 (y.1.high : Int), .slice B4 y.1.names.length m4, .bool y.1.must, .int .i64 (y.1.most : Int), .slice A4 y.2.len c4])
  clear hl hB hk
  have HD : Hid (Below (w5.alloc (.cells #[.string (txt y.1.name), .int .i64 (y.1.kind : Int), .int .i64 (y.1.typ : Int), .int .u64 (y.1.low : Int), .int .u64 (y.1.high : Int), .slice B4 y.1.names.length m4, .bool y.1.must, .int .i64 (y.1.most : Int), .slice A4 y.2.len c4] 33)).heap.size (w5.alloc (.cells #[.string (txt y.1.name), .int .i64 (y.1.kind : Int), .int .i64 (y.1.typ : Int), .int .u64 (y.1.low : Int), .int .u64 (y.1.high : Int), .slice B4 y.1.names.length m4, .bool y.1.must, .int .i64 (y.1.most : Int), .slice A4 y.2.len c4] 33)) (w5.alloc (.cells #[.string (txt y.1.name), .int .i64 (y.1.kind : Int), .int .i64 (y.1.typ : Int), .int .u64 (y.1.low : Int), .int .u64 (y.1.high : Int), .slice B4 y.1.names.length m4, .bool y.1.must, .int .i64 (y.1.most : Int), .slice A4 y.2.len c4] 33)).drew) := Lib.hid (Below.refl _ _).drew
  have L1_5 := Lib.hid (L1_4.out.below HD.out)
  have X1_5 := Lib.hid (X1_4.out.below HD.out X1_4.out.lt)
  have L2_5 := Lib.hid (L2_4.out.below HD.out)
  have X2_5 := Lib.hid (X2_4.out.below HD.out X2_4.out.lt)
  have L3_5 := Lib.hid (L3_4.out.below HD.out)
  have X3_5 := Lib.hid (X3_4.out.below HD.out X3_4.out.lt)
  have L4_5 := Lib.hid (L4_4.out.below HD.out)
  have X4_5 := Lib.hid (X4_4.out.below HD.out X4_4.out.lt)
  have H6 := Lib.hid (H5.out.trans (HD.out.mono H5.out.size))
  go_wp2_with fail
  refine wp_region_noPanic ?_
  refine wp_region_held_drew (S := fun _ => True) (by kernel_rfl) trivial (fun hS => ?_)
  refine held_more (S' := fun w' => Blk w' w2.heap.size 27 #[.string (txt x.1.name), .int .i64 (x.1.kind : Int), .int .i64 (x.1.typ : Int), .int .u64 (x.1.low : Int), .int .u64 (x.1.high : Int), .slice B1 x.1.names.length m1, .bool x.1.must, .int .i64 (x.1.most : Int), .slice A1 x.2.len c1] ∧ Blk w' w3.heap.size 33 #[.string (txt x.1.name), .int .i64 (x.1.kind : Int), .int .i64 (x.1.typ : Int), .int .u64 (x.1.low : Int), .int .u64 (x.1.high : Int), .slice B2 x.1.names.length m2, .bool x.1.must, .int .i64 (x.1.most : Int), .slice A2 x.2.len c2] ∧ Blk w' w4.heap.size 27 #[.string (txt y.1.name), .int .i64 (y.1.kind : Int), .int .i64 (y.1.typ : Int), .int .u64 (y.1.low : Int), .int .u64 (y.1.high : Int), .slice B3 y.1.names.length m3, .bool y.1.must, .int .i64 (y.1.most : Int), .slice A3 y.2.len c3] ∧ Blk w' w5.heap.size 33 #[.string (txt y.1.name), .int .i64 (y.1.kind : Int), .int .i64 (y.1.typ : Int), .int .u64 (y.1.low : Int), .int .u64 (y.1.high : Int), .slice B4 y.1.names.length m4, .bool y.1.must, .int .i64 (y.1.most : Int), .slice A4 y.2.len c4]) (fun _ _ => trivial) _ _ _ _ ?_
  replace hS := And.intro X1_5.out (And.intro X2_5.out (And.intro X3_5.out X4_5.out))
  refine wpAnyH_take (i := 0) (oi := ?o1_0_1) (v := ?v1_0_1) ?i1_0_1 (by kernel_rfl) (by kernel_rfl) (by kernel_rfl) (fun _ _ _ h => h) (Or.inl ⟨?g1_0_1, ?y1_0_1⟩) hS ?_
  case i1_0_1 => simp only [List.getElem?_toArray, List.getElem?_cons_succ, List.getElem?_cons_zero]; rfl
  case g1_0_1 => rfl
  case y1_0_1 => (intro w hSw; have q0 := (hSw.1.cell 0).trans rfl; have q1 := (hSw.1.cell 1).trans rfl; have q2 := (hSw.1.cell 2).trans rfl; have q3 := (hSw.1.cell 3).trans rfl; have q4 := (hSw.1.cell 4).trans rfl; have q5 := (hSw.1.cell 5).trans rfl; have q6 := (hSw.1.cell 6).trans rfl; have q7 := (hSw.1.cell 7).trans rfl; have q8 := (hSw.1.cell 8).trans rfl; (go_simp <;> with_reducible rfl))
  (try simp only [Act.put, List.setIfInBounds_toArray, List.set_cons_zero, List.set_cons_succ])
  refine wpAnyH_take (i := 2) (oi := ?o1_2_2) (v := ?v1_2_2) ?i1_2_2 (by kernel_rfl) (by kernel_rfl) (by kernel_rfl) (fun _ _ _ h => h) (Or.inl ⟨?g1_2_2, ?y1_2_2⟩) hS ?_
  case i1_2_2 => simp only [List.getElem?_toArray, List.getElem?_cons_succ, List.getElem?_cons_zero]; rfl
  case g1_2_2 => rfl
  case y1_2_2 => (intro w hSw; have q0 := (hSw.2.1.cell 0).trans rfl; have q1 := (hSw.2.1.cell 1).trans rfl; have q2 := (hSw.2.1.cell 2).trans rfl; have q3 := (hSw.2.1.cell 3).trans rfl; have q4 := (hSw.2.1.cell 4).trans rfl; have q5 := (hSw.2.1.cell 5).trans rfl; have q6 := (hSw.2.1.cell 6).trans rfl; have q7 := (hSw.2.1.cell 7).trans rfl; have q8 := (hSw.2.1.cell 8).trans rfl; (go_simp <;> with_reducible rfl))
  (try simp only [Act.put, List.setIfInBounds_toArray, List.set_cons_zero, List.set_cons_succ])
  refine wpAnyH_ready (rs := [1]) (by kernel_rfl) (by simp) ?_
  refine (AllReadyH.cons (o := ?o1_3_1) ?i1_3_1 (fun K hK => ?st1_3_1) AllReadyH.nil)
  case i1_3_1 => simp only [List.getElem?_toArray, List.getElem?_cons_succ, List.getElem?_cons_zero]; rfl
  rw [if_pos (by rfl)]
  go_simp
  refine (plain_l L1_5.out FX.out).mono ?_
  rintro r w6 ⟨cs, rfl, hl, hb⟩
  obtain ⟨B6, m6, A6, c6, rfl⟩ := hl.shape
  have LP6 := Lib.hid hl
  clear hl
  have H7 := Lib.hid (H6.out.trans (hb.mono H6.out.size))
  have L1_6 := Lib.hid (L1_5.out.below hb)
  have X1_6 := Lib.hid (X1_5.out.below hb X1_5.out.lt)
  have L2_6 := Lib.hid (L2_5.out.below hb)
  have X2_6 := Lib.hid (X2_5.out.below hb X2_5.out.lt)
  have L3_6 := Lib.hid (L3_5.out.below hb)
  have X3_6 := Lib.hid (X3_5.out.below hb X3_5.out.lt)
  have L4_6 := Lib.hid (L4_5.out.below hb)
  have X4_6 := Lib.hid (X4_5.out.below hb X4_5.out.lt)
  clear hb
  go_wp2_with fail
  refine hK.out _ _ ?s1_3_1 (fun hS => ?_)
  case s1_3_1 => (exact And.intro X1_6.out (And.intro X2_6.out (And.intro X3_6.out X4_6.out)))
  clear hK K
  (try simp only [Act.put, List.setIfInBounds_toArray, List.set_cons_zero, List.set_cons_succ])
  refine wpAnyH_ready (rs := [3]) (by kernel_rfl) (by simp) ?_
  refine (AllReadyH.cons (o := ?o1_4_3) ?i1_4_3 (fun K hK => ?st1_4_3) AllReadyH.nil)
  case i1_4_3 => simp only [List.getElem?_toArray, List.getElem?_cons_succ, List.getElem?_cons_zero]; rfl
  rw [if_pos (by rfl)]
  go_simp
  refine (same_l LP6.out L2_6.out FX.out).mono ?_
  rintro r w7 ⟨rfl, hb⟩
  have H8 := Lib.hid (H7.out.trans (hb.mono H7.out.size))
  have L1_7 := Lib.hid (L1_6.out.below hb)
  have X1_7 := Lib.hid (X1_6.out.below hb X1_6.out.lt)
  have L2_7 := Lib.hid (L2_6.out.below hb)
  have X2_7 := Lib.hid (X2_6.out.below hb X2_6.out.lt)
  have L3_7 := Lib.hid (L3_6.out.below hb)
  have X3_7 := Lib.hid (X3_6.out.below hb X3_6.out.lt)
  have L4_7 := Lib.hid (L4_6.out.below hb)
  have X4_7 := Lib.hid (X4_6.out.below hb X4_6.out.lt)
  clear hb
  go_wp2_with fail
  refine hK.out _ _ ?s1_4_3 (fun hS => ?_)
  case s1_4_3 => (exact And.intro X1_7.out (And.intro X2_7.out (And.intro X3_7.out X4_7.out)))
  clear hK K
  (try simp only [Act.put, List.setIfInBounds_toArray, List.set_cons_zero, List.set_cons_succ])
  refine wpAnyH_take (i := 4) (oi := ?o1_4_5) (v := ?v1_4_5) ?i1_4_5 (by kernel_rfl) (by kernel_rfl) (by kernel_rfl) (fun _ _ _ h => h) (Or.inl ⟨?g1_4_5, ?y1_4_5⟩) hS ?_
  case i1_4_5 => simp only [List.getElem?_toArray, List.getElem?_cons_succ, List.getElem?_cons_zero]; rfl
  case g1_4_5 => rfl
  case y1_4_5 => (intro w hSw; (go_simp <;> with_reducible rfl))
  (try simp only [Act.put, List.setIfInBounds_toArray, List.set_cons_zero, List.set_cons_succ])
  refine wpAnyH_take (i := 5) (oi := ?o1_5_6) (v := ?v1_5_6) ?i1_5_6 (by kernel_rfl) (by kernel_rfl) (by kernel_rfl) (fun _ _ _ h => h) (Or.inl ⟨?g1_5_6, ?y1_5_6⟩) hS ?_
  case i1_5_6 => simp only [List.getElem?_toArray, List.getElem?_cons_succ, List.getElem?_cons_zero]; rfl
  case g1_5_6 => rfl
  case y1_5_6 => (intro w hSw; (go_simp <;> with_reducible rfl))
  (try simp only [Act.put, List.setIfInBounds_toArray, List.set_cons_zero, List.set_cons_succ])
  refine wpAnyH_take (i := 6) (oi := ?o1_6_7) (v := ?v1_6_7) ?i1_6_7 (by kernel_rfl) (by kernel_rfl) (by kernel_rfl) (fun _ _ _ h => h) (Or.inl ⟨?g1_6_7, ?y1_6_7⟩) hS ?_
  case i1_6_7 => simp only [List.getElem?_toArray, List.getElem?_cons_succ, List.getElem?_cons_zero]; rfl
  case g1_6_7 => rfl
  case y1_6_7 => (intro w hSw; (go_simp <;> with_reducible rfl))
  (try simp only [Act.put, List.setIfInBounds_toArray, List.set_cons_zero, List.set_cons_succ])
  refine wpAnyH_take (i := 7) (oi := ?o1_7_8) (v := ?v1_7_8) ?i1_7_8 (by kernel_rfl) (by kernel_rfl) (by kernel_rfl) (fun _ _ _ h => h) (Or.inl ⟨?g1_7_8, ?y1_7_8⟩) hS ?_
  case i1_7_8 => simp only [List.getElem?_toArray, List.getElem?_cons_succ, List.getElem?_cons_zero]; rfl
  case g1_7_8 => rfl
  case y1_7_8 => (intro w hSw; (go_simp <;> with_reducible rfl))
  (try simp only [Act.put, List.setIfInBounds_toArray, List.set_cons_zero, List.set_cons_succ])
  refine wpAnyH_take (i := 8) (oi := ?o1_8_9) (v := ?v1_8_9) ?i1_8_9 (by kernel_rfl) (by kernel_rfl) (by kernel_rfl) (fun _ _ _ h => h) (Or.inl ⟨?g1_8_9, ?y1_8_9⟩) hS ?_
  case i1_8_9 => simp only [List.getElem?_toArray, List.getElem?_cons_succ, List.getElem?_cons_zero]; rfl
  case g1_8_9 => rfl
  case y1_8_9 => (intro w hSw; (go_simp <;> with_reducible rfl))
  (try simp only [Act.put, List.setIfInBounds_toArray, List.set_cons_zero, List.set_cons_succ])
  refine wpAnyH_take (i := 9) (oi := ?o1_9_10) (v := ?v1_9_10) ?i1_9_10 (by kernel_rfl) (by kernel_rfl) (by kernel_rfl) (fun _ _ _ h => h) (Or.inl ⟨?g1_9_10, ?y1_9_10⟩) hS ?_
  case i1_9_10 => simp only [List.getElem?_toArray, List.getElem?_cons_succ, List.getElem?_cons_zero]; rfl
  case g1_9_10 => rfl
  case y1_9_10 => (intro w hSw; (go_simp <;> with_reducible rfl))
  (try simp only [Act.put, List.setIfInBounds_toArray, List.set_cons_zero, List.set_cons_succ])
  refine wpAnyH_take (i := 10) (oi := ?o1_10_11) (v := ?v1_10_11) ?i1_10_11 (by kernel_rfl) (by kernel_rfl) (by kernel_rfl) (fun _ _ _ h => h) (Or.inl ⟨?g1_10_11, ?y1_10_11⟩) hS ?_
  case i1_10_11 => simp only [List.getElem?_toArray, List.getElem?_cons_succ, List.getElem?_cons_zero]; rfl
  case g1_10_11 => rfl
  case y1_10_11 => (intro w hSw; have q0 := (hSw.2.2.1.cell 0).trans rfl; have q1 := (hSw.2.2.1.cell 1).trans rfl; have q2 := (hSw.2.2.1.cell 2).trans rfl; have q3 := (hSw.2.2.1.cell 3).trans rfl; have q4 := (hSw.2.2.1.cell 4).trans rfl; have q5 := (hSw.2.2.1.cell 5).trans rfl; have q6 := (hSw.2.2.1.cell 6).trans rfl; have q7 := (hSw.2.2.1.cell 7).trans rfl; have q8 := (hSw.2.2.1.cell 8).trans rfl; (go_simp <;> with_reducible rfl))
  (try simp only [Act.put, List.setIfInBounds_toArray, List.set_cons_zero, List.set_cons_succ])
  refine wpAnyH_take (i := 12) (oi := ?o1_12_12) (v := ?v1_12_12) ?i1_12_12 (by kernel_rfl) (by kernel_rfl) (by kernel_rfl) (fun _ _ _ h => h) (Or.inl ⟨?g1_12_12, ?y1_12_12⟩) hS ?_
  case i1_12_12 => simp only [List.getElem?_toArray, List.getElem?_cons_succ, List.getElem?_cons_zero]; rfl
  case g1_12_12 => rfl
  case y1_12_12 => (intro w hSw; have q0 := (hSw.2.2.2.cell 0).trans rfl; have q1 := (hSw.2.2.2.cell 1).trans rfl; have q2 := (hSw.2.2.2.cell 2).trans rfl; have q3 := (hSw.2.2.2.cell 3).trans rfl; have q4 := (hSw.2.2.2.cell 4).trans rfl; have q5 := (hSw.2.2.2.cell 5).trans rfl; have q6 := (hSw.2.2.2.cell 6).trans rfl; have q7 := (hSw.2.2.2.cell 7).trans rfl; have q8 := (hSw.2.2.2.cell 8).trans rfl; (go_simp <;> with_reducible rfl))
  (try simp only [Act.put, List.setIfInBounds_toArray, List.set_cons_zero, List.set_cons_succ])
  refine wpAnyH_ready (rs := [11]) (by kernel_rfl) (by simp) ?_
  refine (AllReadyH.cons (o := ?o1_13_11) ?i1_13_11 (fun K hK => ?st1_13_11) AllReadyH.nil)
  case i1_13_11 => simp only [List.getElem?_toArray, List.getElem?_cons_succ, List.getElem?_cons_zero]; rfl
  rw [if_pos (by rfl)]
  go_simp
  refine (plain_l L3_7.out FY.out).mono ?_
  rintro r w8 ⟨cs, rfl, hl, hb⟩
  obtain ⟨B8, m8, A8, c8, rfl⟩ := hl.shape
  have LP8 := Lib.hid hl
  clear hl
  have H9 := Lib.hid (H8.out.trans (hb.mono H8.out.size))
  have L1_8 := Lib.hid (L1_7.out.below hb)
  have X1_8 := Lib.hid (X1_7.out.below hb X1_7.out.lt)
  have L2_8 := Lib.hid (L2_7.out.below hb)
  have X2_8 := Lib.hid (X2_7.out.below hb X2_7.out.lt)
  have L3_8 := Lib.hid (L3_7.out.below hb)
  have X3_8 := Lib.hid (X3_7.out.below hb X3_7.out.lt)
  have L4_8 := Lib.hid (L4_7.out.below hb)
  have X4_8 := Lib.hid (X4_7.out.below hb X4_7.out.lt)
  clear hb
  go_wp2_with fail
  refine hK.out _ _ ?s1_13_11 (fun hS => ?_)
  case s1_13_11 => (exact And.intro X1_8.out (And.intro X2_8.out (And.intro X3_8.out X4_8.out)))
  clear hK K
  (try simp only [Act.put, List.setIfInBounds_toArray, List.set_cons_zero, List.set_cons_succ])
  refine wpAnyH_ready (rs := [13]) (by kernel_rfl) (by simp) ?_
  refine (AllReadyH.cons (o := ?o1_14_13) ?i1_14_13 (fun K hK => ?st1_14_13) AllReadyH.nil)
  case i1_14_13 => simp only [List.getElem?_toArray, List.getElem?_cons_succ, List.getElem?_cons_zero]; rfl
  rw [if_pos (by rfl)]
  go_simp
  refine (same_l LP8.out L4_8.out FY.out).mono ?_
  rintro r w9 ⟨rfl, hb⟩
  have H10 := Lib.hid (H9.out.trans (hb.mono H9.out.size))
  have L1_9 := Lib.hid (L1_8.out.below hb)
  have X1_9 := Lib.hid (X1_8.out.below hb X1_8.out.lt)
  have L2_9 := Lib.hid (L2_8.out.below hb)
  have X2_9 := Lib.hid (X2_8.out.below hb X2_8.out.lt)
  have L3_9 := Lib.hid (L3_8.out.below hb)
  have X3_9 := Lib.hid (X3_8.out.below hb X3_8.out.lt)
  have L4_9 := Lib.hid (L4_8.out.below hb)
  have X4_9 := Lib.hid (X4_8.out.below hb X4_8.out.lt)
  clear hb
  go_wp2_with fail
  refine hK.out _ _ ?s1_14_13 (fun hS => ?_)
  case s1_14_13 => (exact And.intro X1_9.out (And.intro X2_9.out (And.intro X3_9.out X4_9.out)))
  clear hK K
  (try simp only [Act.put, List.setIfInBounds_toArray, List.set_cons_zero, List.set_cons_succ])
  refine wpAnyH_take (i := 14) (oi := ?o1_14_15) (v := ?v1_14_15) ?i1_14_15 (by kernel_rfl) (by kernel_rfl) (by kernel_rfl) (fun _ _ _ h => h) (Or.inl ⟨?g1_14_15, ?y1_14_15⟩) hS ?_
  case i1_14_15 => simp only [List.getElem?_toArray, List.getElem?_cons_succ, List.getElem?_cons_zero]; rfl
  case g1_14_15 => rfl
  case y1_14_15 => (intro w hSw; (go_simp <;> with_reducible rfl))
  (try simp only [Act.put, List.setIfInBounds_toArray, List.set_cons_zero, List.set_cons_succ])
  refine wpAnyH_take (i := 15) (oi := ?o1_15_16) (v := ?v1_15_16) ?i1_15_16 (by kernel_rfl) (by kernel_rfl) (by kernel_rfl) (fun _ _ _ h => h) (Or.inl ⟨?g1_15_16, ?y1_15_16⟩) hS ?_
  case i1_15_16 => simp only [List.getElem?_toArray, List.getElem?_cons_succ, List.getElem?_cons_zero]; rfl
  case g1_15_16 => rfl
  case y1_15_16 => (intro w hSw; (go_simp <;> with_reducible rfl))
  (try simp only [Act.put, List.setIfInBounds_toArray, List.set_cons_zero, List.set_cons_succ])
  refine wpAnyH_take (i := 16) (oi := ?o1_16_17) (v := ?v1_16_17) ?i1_16_17 (by kernel_rfl) (by kernel_rfl) (by kernel_rfl) (fun _ _ _ h => h) (Or.inl ⟨?g1_16_17, ?y1_16_17⟩) hS ?_
  case i1_16_17 => simp only [List.getElem?_toArray, List.getElem?_cons_succ, List.getElem?_cons_zero]; rfl
  case g1_16_17 => rfl
  case y1_16_17 => (intro w hSw; (go_simp <;> with_reducible rfl))
  (try simp only [Act.put, List.setIfInBounds_toArray, List.set_cons_zero, List.set_cons_succ])
  refine wpAnyH_take (i := 17) (oi := ?o1_17_18) (v := ?v1_17_18) ?i1_17_18 (by kernel_rfl) (by kernel_rfl) (by kernel_rfl) (fun _ _ _ h => h) (Or.inl ⟨?g1_17_18, ?y1_17_18⟩) hS ?_
  case i1_17_18 => simp only [List.getElem?_toArray, List.getElem?_cons_succ, List.getElem?_cons_zero]; rfl
  case g1_17_18 => rfl
  case y1_17_18 => (intro w hSw; (go_simp <;> with_reducible rfl))
  (try simp only [Act.put, List.setIfInBounds_toArray, List.set_cons_zero, List.set_cons_succ])
  refine wpAnyH_take (i := 18) (oi := ?o1_18_19) (v := ?v1_18_19) ?i1_18_19 (by kernel_rfl) (by kernel_rfl) (by kernel_rfl) (fun _ _ _ h => h) (Or.inl ⟨?g1_18_19, ?y1_18_19⟩) hS ?_
  case i1_18_19 => simp only [List.getElem?_toArray, List.getElem?_cons_succ, List.getElem?_cons_zero]; rfl
  case g1_18_19 => rfl
  case y1_18_19 => (intro w hSw; (go_simp <;> with_reducible rfl))
  (try simp only [Act.put, List.setIfInBounds_toArray, List.set_cons_zero, List.set_cons_succ])
  refine wpAnyH_take (i := 19) (oi := ?o1_19_20) (v := ?v1_19_20) ?i1_19_20 (by kernel_rfl) (by kernel_rfl) (by kernel_rfl) (fun _ _ _ h => h) (Or.inl ⟨?g1_19_20, ?y1_19_20⟩) hS ?_
  case i1_19_20 => simp only [List.getElem?_toArray, List.getElem?_cons_succ, List.getElem?_cons_zero]; rfl
  case g1_19_20 => rfl
  case y1_19_20 => (intro w hSw; (go_simp <;> with_reducible rfl))
  (try simp only [Act.put, List.setIfInBounds_toArray, List.set_cons_zero, List.set_cons_succ])
  refine wpAnyH_take (i := 20) (oi := ?o1_20_21) (v := ?v1_20_21) ?i1_20_21 (by kernel_rfl) (by kernel_rfl) (by kernel_rfl) (fun _ _ _ h => h) (Or.inl ⟨?g1_20_21, ?y1_20_21⟩) hS ?_
  case i1_20_21 => simp only [List.getElem?_toArray, List.getElem?_cons_succ, List.getElem?_cons_zero]; rfl
  case g1_20_21 => rfl
  case y1_20_21 => (intro w hSw; (go_simp <;> with_reducible rfl))
  (try simp only [Act.put, List.setIfInBounds_toArray, List.set_cons_zero, List.set_cons_succ])
  refine wpAnyH_take (i := 21) (oi := ?o1_21_22) (v := ?v1_21_22) ?i1_21_22 (by kernel_rfl) (by kernel_rfl) (by kernel_rfl) (fun _ _ _ h => h) (Or.inl ⟨?g1_21_22, ?y1_21_22⟩) hS ?_
  case i1_21_22 => simp only [List.getElem?_toArray, List.getElem?_cons_succ, List.getElem?_cons_zero]; rfl
  case g1_21_22 => rfl
  case y1_21_22 => (intro w hSw; have q0 := (hSw.1.cell 0).trans rfl; have q1 := (hSw.1.cell 1).trans rfl; have q2 := (hSw.1.cell 2).trans rfl; have q3 := (hSw.1.cell 3).trans rfl; have q4 := (hSw.1.cell 4).trans rfl; have q5 := (hSw.1.cell 5).trans rfl; have q6 := (hSw.1.cell 6).trans rfl; have q7 := (hSw.1.cell 7).trans rfl; have q8 := (hSw.1.cell 8).trans rfl; (go_simp <;> with_reducible rfl))
  (try simp only [Act.put, List.setIfInBounds_toArray, List.set_cons_zero, List.set_cons_succ])
  refine wpAnyH_take (i := 22) (oi := ?o1_22_23) (v := ?v1_22_23) ?i1_22_23 (by kernel_rfl) (by kernel_rfl) (by kernel_rfl) (fun _ _ _ h => h) (Or.inl ⟨?g1_22_23, ?y1_22_23⟩) hS ?_
  case i1_22_23 => simp only [List.getElem?_toArray, List.getElem?_cons_succ, List.getElem?_cons_zero]; rfl
  case g1_22_23 => rfl
  case y1_22_23 => (intro w hSw; (go_simp <;> with_reducible rfl))
  (try simp only [Act.put, List.setIfInBounds_toArray, List.set_cons_zero, List.set_cons_succ])
  refine wpAnyH_take (i := 24) (oi := ?o1_24_24) (v := ?v1_24_24) ?i1_24_24 (by kernel_rfl) (by kernel_rfl) (by kernel_rfl) (fun _ _ _ h => h) (Or.inl ⟨?g1_24_24, ?y1_24_24⟩) hS ?_
  case i1_24_24 => simp only [List.getElem?_toArray, List.getElem?_cons_succ, List.getElem?_cons_zero]; rfl
  case g1_24_24 => rfl
  case y1_24_24 => (intro w hSw; have q0 := (hSw.2.1.cell 0).trans rfl; have q1 := (hSw.2.1.cell 1).trans rfl; have q2 := (hSw.2.1.cell 2).trans rfl; have q3 := (hSw.2.1.cell 3).trans rfl; have q4 := (hSw.2.1.cell 4).trans rfl; have q5 := (hSw.2.1.cell 5).trans rfl; have q6 := (hSw.2.1.cell 6).trans rfl; have q7 := (hSw.2.1.cell 7).trans rfl; have q8 := (hSw.2.1.cell 8).trans rfl; (go_simp <;> with_reducible rfl))
  (try simp only [Act.put, List.setIfInBounds_toArray, List.set_cons_zero, List.set_cons_succ])
  refine wpAnyH_take (i := 25) (oi := ?o1_25_25) (v := ?v1_25_25) ?i1_25_25 (by kernel_rfl) (by kernel_rfl) (by kernel_rfl) (fun _ _ _ h => h) (Or.inl ⟨?g1_25_25, ?y1_25_25⟩) hS ?_
  case i1_25_25 => simp only [List.getElem?_toArray, List.getElem?_cons_succ, List.getElem?_cons_zero]; rfl
  case g1_25_25 => rfl
  case y1_25_25 => (intro w hSw; (go_simp <;> with_reducible rfl))
  (try simp only [Act.put, List.setIfInBounds_toArray, List.set_cons_zero, List.set_cons_succ])
  refine wpAnyH_ready (rs := [23]) (by kernel_rfl) (by simp) ?_
  refine (AllReadyH.cons (o := ?o1_26_23) ?i1_26_23 (fun K hK => ?st1_26_23) AllReadyH.nil)
  case i1_26_23 => simp only [List.getElem?_toArray, List.getElem?_cons_succ, List.getElem?_cons_zero]; rfl
  rw [if_pos (by rfl)]
  go_simp
  refine (find_l HC.out n H10.out L1_9.out FX.out).mono ?_
  rintro r w10 ⟨rfl, hb⟩
  have H11 := Lib.hid (H10.out.trans (hb.mono H10.out.size))
  have L1_10 := Lib.hid (L1_9.out.below hb)
  have X1_10 := Lib.hid (X1_9.out.below hb X1_9.out.lt)
  have L2_10 := Lib.hid (L2_9.out.below hb)
  have X2_10 := Lib.hid (X2_9.out.below hb X2_9.out.lt)
  have L3_10 := Lib.hid (L3_9.out.below hb)
  have X3_10 := Lib.hid (X3_9.out.below hb X3_9.out.lt)
  have L4_10 := Lib.hid (L4_9.out.below hb)
  have X4_10 := Lib.hid (X4_9.out.below hb X4_9.out.lt)
  clear hb
  go_wp2_with fail
  refine hK.out _ _ ?s1_26_23 (fun hS => ?_)
  case s1_26_23 => (exact And.intro X1_10.out (And.intro X2_10.out (And.intro X3_10.out X4_10.out)))
  clear hK K
  (try simp only [Act.put, List.setIfInBounds_toArray, List.set_cons_zero, List.set_cons_succ])
  refine wpAnyH_ready (rs := [26]) (by kernel_rfl) (by simp) ?_
  refine (AllReadyH.cons (o := ?o1_27_26) ?i1_27_26 (fun K hK => ?st1_27_26) AllReadyH.nil)
  case i1_27_26 => simp only [List.getElem?_toArray, List.getElem?_cons_succ, List.getElem?_cons_zero]; rfl
  rw [if_pos (by rfl)]
  go_simp
  refine (rfind_l n L2_10.out FX.out).mono ?_
  rintro r w11 ⟨rfl, hb⟩
  have H12 := Lib.hid (H11.out.trans (hb.mono H11.out.size))
  have L1_11 := Lib.hid (L1_10.out.below hb)
  have X1_11 := Lib.hid (X1_10.out.below hb X1_10.out.lt)
  have L2_11 := Lib.hid (L2_10.out.below hb)
  have X2_11 := Lib.hid (X2_10.out.below hb X2_10.out.lt)
  have L3_11 := Lib.hid (L3_10.out.below hb)
  have X3_11 := Lib.hid (X3_10.out.below hb X3_10.out.lt)
  have L4_11 := Lib.hid (L4_10.out.below hb)
  have X4_11 := Lib.hid (X4_10.out.below hb X4_10.out.lt)
  clear hb
  go_wp2_with fail
  refine hK.out _ _ ?s1_27_26 (fun hS => ?_)
  case s1_27_26 => (exact And.intro X1_11.out (And.intro X2_11.out (And.intro X3_11.out X4_11.out)))
  clear hK K
  (try simp only [Act.put, List.setIfInBounds_toArray, List.set_cons_zero, List.set_cons_succ])
  refine wpAnyH_take (i := 27) (oi := ?o1_27_28) (v := ?v1_27_28) ?i1_27_28 (by kernel_rfl) (by kernel_rfl) (by kernel_rfl) (fun _ _ _ h => h) (Or.inl ⟨?g1_27_28, ?y1_27_28⟩) hS ?_
  case i1_27_28 => simp only [List.getElem?_toArray, List.getElem?_cons_succ, List.getElem?_cons_zero]; rfl
  case g1_27_28 => rfl
  case y1_27_28 => (intro w hSw; (go_simp <;> with_reducible rfl))
  (try simp only [Act.put, List.setIfInBounds_toArray, List.set_cons_zero, List.set_cons_succ])
  refine wpAnyH_take (i := 28) (oi := ?o1_28_29) (v := ?v1_28_29) ?i1_28_29 (by kernel_rfl) (by kernel_rfl) (by kernel_rfl) (fun _ _ _ h => h) (Or.inl ⟨?g1_28_29, ?y1_28_29⟩) hS ?_
  case i1_28_29 => simp only [List.getElem?_toArray, List.getElem?_cons_succ, List.getElem?_cons_zero]; rfl
  case g1_28_29 => rfl
  case y1_28_29 => (intro w hSw; (go_simp <;> with_reducible rfl))
  (try simp only [Act.put, List.setIfInBounds_toArray, List.set_cons_zero, List.set_cons_succ])
  refine wpAnyH_take (i := 29) (oi := ?o1_29_30) (v := ?v1_29_30) ?i1_29_30 (by kernel_rfl) (by kernel_rfl) (by kernel_rfl) (fun _ _ _ h => h) (Or.inl ⟨?g1_29_30, ?y1_29_30⟩) hS ?_
  case i1_29_30 => simp only [List.getElem?_toArray, List.getElem?_cons_succ, List.getElem?_cons_zero]; rfl
  case g1_29_30 => rfl
  case y1_29_30 => (intro w hSw; (go_simp <;> with_reducible rfl))
  (try simp only [Act.put, List.setIfInBounds_toArray, List.set_cons_zero, List.set_cons_succ])
  refine wpAnyH_take (i := 30) (oi := ?o1_30_31) (v := ?v1_30_31) ?i1_30_31 (by kernel_rfl) (by kernel_rfl) (by kernel_rfl) (fun _ _ _ h => h) (Or.inl ⟨?g1_30_31, ?y1_30_31⟩) hS ?_
  case i1_30_31 => simp only [List.getElem?_toArray, List.getElem?_cons_succ, List.getElem?_cons_zero]; rfl
  case g1_30_31 => rfl
  case y1_30_31 => (intro w hSw; have q0 := (hSw.2.2.1.cell 0).trans rfl; have q1 := (hSw.2.2.1.cell 1).trans rfl; have q2 := (hSw.2.2.1.cell 2).trans rfl; have q3 := (hSw.2.2.1.cell 3).trans rfl; have q4 := (hSw.2.2.1.cell 4).trans rfl; have q5 := (hSw.2.2.1.cell 5).trans rfl; have q6 := (hSw.2.2.1.cell 6).trans rfl; have q7 := (hSw.2.2.1.cell 7).trans rfl; have q8 := (hSw.2.2.1.cell 8).trans rfl; (go_simp <;> with_reducible rfl))
  (try simp only [Act.put, List.setIfInBounds_toArray, List.set_cons_zero, List.set_cons_succ])
  refine wpAnyH_take (i := 31) (oi := ?o1_31_32) (v := ?v1_31_32) ?i1_31_32 (by kernel_rfl) (by kernel_rfl) (by kernel_rfl) (fun _ _ _ h => h) (Or.inl ⟨?g1_31_32, ?y1_31_32⟩) hS ?_
  case i1_31_32 => simp only [List.getElem?_toArray, List.getElem?_cons_succ, List.getElem?_cons_zero]; rfl
  case g1_31_32 => rfl
  case y1_31_32 => (intro w hSw; (go_simp <;> with_reducible rfl))
  (try simp only [Act.put, List.setIfInBounds_toArray, List.set_cons_zero, List.set_cons_succ])
  refine wpAnyH_take (i := 33) (oi := ?o1_33_33) (v := ?v1_33_33) ?i1_33_33 (by kernel_rfl) (by kernel_rfl) (by kernel_rfl) (fun _ _ _ h => h) (Or.inl ⟨?g1_33_33, ?y1_33_33⟩) hS ?_
  case i1_33_33 => simp only [List.getElem?_toArray, List.getElem?_cons_succ, List.getElem?_cons_zero]; rfl
  case g1_33_33 => rfl
  case y1_33_33 => (intro w hSw; have q0 := (hSw.2.2.2.cell 0).trans rfl; have q1 := (hSw.2.2.2.cell 1).trans rfl; have q2 := (hSw.2.2.2.cell 2).trans rfl; have q3 := (hSw.2.2.2.cell 3).trans rfl; have q4 := (hSw.2.2.2.cell 4).trans rfl; have q5 := (hSw.2.2.2.cell 5).trans rfl; have q6 := (hSw.2.2.2.cell 6).trans rfl; have q7 := (hSw.2.2.2.cell 7).trans rfl; have q8 := (hSw.2.2.2.cell 8).trans rfl; (go_simp <;> with_reducible rfl))
  (try simp only [Act.put, List.setIfInBounds_toArray, List.set_cons_zero, List.set_cons_succ])
  refine wpAnyH_take (i := 34) (oi := ?o1_34_34) (v := ?v1_34_34) ?i1_34_34 (by kernel_rfl) (by kernel_rfl) (by kernel_rfl) (fun _ _ _ h => h) (Or.inl ⟨?g1_34_34, ?y1_34_34⟩) hS ?_
  case i1_34_34 => simp only [List.getElem?_toArray, List.getElem?_cons_succ, List.getElem?_cons_zero]; rfl
  case g1_34_34 => rfl
  case y1_34_34 => (intro w hSw; (go_simp <;> with_reducible rfl))
  (try simp only [Act.put, List.setIfInBounds_toArray, List.set_cons_zero, List.set_cons_succ])
  refine wpAnyH_ready (rs := [32]) (by kernel_rfl) (by simp) ?_
  refine (AllReadyH.cons (o := ?o1_35_32) ?i1_35_32 (fun K hK => ?st1_35_32) AllReadyH.nil)
  case i1_35_32 => simp only [List.getElem?_toArray, List.getElem?_cons_succ, List.getElem?_cons_zero]; rfl
  rw [if_pos (by rfl)]
  go_simp
  refine (find_l HC.out n H12.out L3_11.out FY.out).mono ?_
  rintro r w12 ⟨rfl, hb⟩
  have H13 := Lib.hid (H12.out.trans (hb.mono H12.out.size))
  have L1_12 := Lib.hid (L1_11.out.below hb)
  have X1_12 := Lib.hid (X1_11.out.below hb X1_11.out.lt)
  have L2_12 := Lib.hid (L2_11.out.below hb)
  have X2_12 := Lib.hid (X2_11.out.below hb X2_11.out.lt)
  have L3_12 := Lib.hid (L3_11.out.below hb)
  have X3_12 := Lib.hid (X3_11.out.below hb X3_11.out.lt)
  have L4_12 := Lib.hid (L4_11.out.below hb)
  have X4_12 := Lib.hid (X4_11.out.below hb X4_11.out.lt)
  clear hb
  go_wp2_with fail
  refine hK.out _ _ ?s1_35_32 (fun hS => ?_)
  case s1_35_32 => (exact And.intro X1_12.out (And.intro X2_12.out (And.intro X3_12.out X4_12.out)))
  clear hK K
  (try simp only [Act.put, List.setIfInBounds_toArray, List.set_cons_zero, List.set_cons_succ])
  refine wpAnyH_ready (rs := [35]) (by kernel_rfl) (by simp) ?_
  refine (AllReadyH.cons (o := ?o1_36_35) ?i1_36_35 (fun K hK => ?st1_36_35) AllReadyH.nil)
  case i1_36_35 => simp only [List.getElem?_toArray, List.getElem?_cons_succ, List.getElem?_cons_zero]; rfl
  rw [if_pos (by rfl)]
  go_simp
  refine (rfind_l n L4_12.out FY.out).mono ?_
  rintro r w13 ⟨rfl, hb⟩
  have H14 := Lib.hid (H13.out.trans (hb.mono H13.out.size))
  have L1_13 := Lib.hid (L1_12.out.below hb)
  have X1_13 := Lib.hid (X1_12.out.below hb X1_12.out.lt)
  have L2_13 := Lib.hid (L2_12.out.below hb)
  have X2_13 := Lib.hid (X2_12.out.below hb X2_12.out.lt)
  have L3_13 := Lib.hid (L3_12.out.below hb)
  have X3_13 := Lib.hid (X3_12.out.below hb X3_12.out.lt)
  have L4_13 := Lib.hid (L4_12.out.below hb)
  have X4_13 := Lib.hid (X4_12.out.below hb X4_12.out.lt)
  clear hb
  go_wp2_with fail
  refine hK.out _ _ ?s1_36_35 (fun hS => ?_)
  case s1_36_35 => (exact And.intro X1_13.out (And.intro X2_13.out (And.intro X3_13.out X4_13.out)))
  clear hK K
  (try simp only [Act.put, List.setIfInBounds_toArray, List.set_cons_zero, List.set_cons_succ])
  refine wpAnyH_take (i := 36) (oi := ?o1_36_37) (v := ?v1_36_37) ?i1_36_37 (by kernel_rfl) (by kernel_rfl) (by kernel_rfl) (fun _ _ _ h => h) (Or.inl ⟨?g1_36_37, ?y1_36_37⟩) hS ?_
  case i1_36_37 => simp only [List.getElem?_toArray, List.getElem?_cons_succ, List.getElem?_cons_zero]; rfl
  case g1_36_37 => rfl
  case y1_36_37 => (intro w hSw; (go_simp <;> with_reducible rfl))
  (try simp only [Act.put, List.setIfInBounds_toArray, List.set_cons_zero, List.set_cons_succ])
  refine wpAnyH_take (i := 37) (oi := ?o1_37_38) (v := ?v1_37_38) ?i1_37_38 (by kernel_rfl) (by kernel_rfl) (by kernel_rfl) (fun _ _ _ h => h) (Or.inl ⟨?g1_37_38, ?y1_37_38⟩) hS ?_
  case i1_37_38 => simp only [List.getElem?_toArray, List.getElem?_cons_succ, List.getElem?_cons_zero]; rfl
  case g1_37_38 => rfl
  case y1_37_38 => (intro w hSw; (go_simp <;> with_reducible rfl))
  (try simp only [Act.put, List.setIfInBounds_toArray, List.set_cons_zero, List.set_cons_succ])
  refine wpAnyH_take (i := 38) (oi := ?o1_38_39) (v := ?v1_38_39) ?i1_38_39 (by kernel_rfl) (by kernel_rfl) (by kernel_rfl) (fun _ _ _ h => h) (Or.inl ⟨?g1_38_39, ?y1_38_39⟩) hS ?_
  case i1_38_39 => simp only [List.getElem?_toArray, List.getElem?_cons_succ, List.getElem?_cons_zero]; rfl
  case g1_38_39 => rfl
  case y1_38_39 => (intro w hSw; (go_simp <;> with_reducible rfl))
  (try simp only [Act.put, List.setIfInBounds_toArray, List.set_cons_zero, List.set_cons_succ])
  refine wpAnyH_done (by kernel_rfl) ?_ _
  refine NoPanic.normal ?_
  clear hS
  go_wp2
  go_ret
  exact ⟨rfl, H14.out⟩

end Go.Proofs.Ytkpbjgjflabloaa
