/-
  The document's Same tells true of two things of the schema that are the same. No condition but those of each theorem.
-/
import Derived.Test.YtkpbjgjflabloaaSpcPlain
namespace Go.Proofs.Ytkpbjgjflabloaa
open Go.RowKit
set_option linter.unusedSimpArgs false
set_option linter.unusedVariables false

set_option maxRecDepth 100000 in
set_option maxHeartbeats 4000000 in
theorem rsame_any (k : SpF) : ∀ (a : SpD) (cs1 cs2 : List Value) (w : World) (S1 N1 S2 N2 : Nat → Prop), SpN w S1 N1 cs1 (a, k) → SpN w S2 N2 cs2 (a, k) → (∀ g, S1 g → g < w.heap.size) → (∀ g, N1 g → g < w.heap.size) → (∀ g, S2 g → g < w.heap.size) → (∀ g, N2 g → g < w.heap.size) → k.size ≤ 1000000000 → a.names.length ≤ 1000000000 → (∀ x ∈ inner k, x.1.names.length ≤ 1000000000) → Calls Try.prog 12 #[.agg cs1.toArray, .agg cs2.toArray] w (AnsP (.bool true) w) := by
  refine Fr.byKids (P := fun k => ∀ (a : SpD) (cs1 cs2 : List Value) (w : World) (S1 N1 S2 N2 : Nat → Prop), SpN w S1 N1 cs1 (a, k) → SpN w S2 N2 cs2 (a, k) → (∀ g, S1 g → g < w.heap.size) → (∀ g, N1 g → g < w.heap.size) → (∀ g, S2 g → g < w.heap.size) → (∀ g, N2 g → g < w.heap.size) → k.size ≤ 1000000000 → a.names.length ≤ 1000000000 → (∀ x ∈ inner k, x.1.names.length ≤ 1000000000) → Calls Try.prog 12 #[.agg cs1.toArray, .agg cs2.toArray] w (AnsP (.bool true) w)) ?_ k
  clear k
  intro k hkids a cs1 cs2 w S1 N1 S2 N2 hx hy hS1 hN1 hS2 hN2 hsz hnl hin
  obtain ⟨B1, m1, A1, c1, d1, rfl, hv1, hd1, hk1⟩ := hx.shape
  obtain ⟨B2, m2, A2, c2, d2, rfl, hv2, hd2, hk2⟩ := hy.shape
  have HI : Hid (∀ n b q, k.get? n = some (b, q) → ∀ (a : SpD) (cs1 cs2 : List Value) (w : World) (S1 N1 S2 N2 : Nat → Prop), SpN w S1 N1 cs1 (a, q) → SpN w S2 N2 cs2 (a, q) → (∀ g, S1 g → g < w.heap.size) → (∀ g, N1 g → g < w.heap.size) → (∀ g, S2 g → g < w.heap.size) → (∀ g, N2 g → g < w.heap.size) → q.size ≤ 1000000000 → a.names.length ≤ 1000000000 → (∀ x ∈ inner q, x.1.names.length ≤ 1000000000) → Calls Try.prog 12 #[.agg cs1.toArray, .agg cs2.toArray] w (AnsP (.bool true) w)) := Lib.hid (fun n b q h => hkids n b q h)
  have HV := Lib.hid (And.intro hv1 hv2)
  have HK := Lib.hid (And.intro hk1 hk2)
  have HS := Lib.hid (And.intro hS1 (And.intro hN1 (And.intro hS2 hN2)))
  have HZ := Lib.hid (And.intro hsz (And.intro hnl hin))
  clear hkids hx hy hv1 hv2 hd1 hd2 hk1 hk2 hS1 hN1 hS2 hN2 hsz hnl hin
  go_enter Try.func12, Try.ntmps12
  go_wp2
  have hb3 : Below w.heap.size w ((w.alloc (.cells #[.string (txt a.name), .int .i64 (a.kind : Int), .int .i64 (a.typ : Int), .int .u64 (a.low : Int), .int .u64 (a.high : Int), .slice B1 a.names.length m1, .bool a.must, .int .i64 (a.most : Int), .slice A1 k.len c1] 33)).alloc (.cells #[.string (txt a.name), .int .i64 (a.kind : Int), .int .i64 (a.typ : Int), .int .u64 (a.low : Int), .int .u64 (a.high : Int), .slice B2 a.names.length m2, .bool a.must, .int .i64 (a.most : Int), .slice A2 k.len c2] 33)) := ((Below.refl _ _).alloc (Nat.le_refl _) _).alloc (by simp) _
  have hq0 : Blk ((w.alloc (.cells #[.string (txt a.name), .int .i64 (a.kind : Int), .int .i64 (a.typ : Int), .int .u64 (a.low : Int), .int .u64 (a.high : Int), .slice B1 a.names.length m1, .bool a.must, .int .i64 (a.most : Int), .slice A1 k.len c1] 33)).alloc (.cells #[.string (txt a.name), .int .i64 (a.kind : Int), .int .i64 (a.typ : Int), .int .u64 (a.low : Int), .int .u64 (a.high : Int), .slice B2 a.names.length m2, .bool a.must, .int .i64 (a.most : Int), .slice A2 k.len c2] 33)) w.heap.size 33 #[.string (txt a.name), .int .i64 (a.kind : Int), .int .i64 (a.typ : Int), .int .u64 (a.low : Int), .int .u64 (a.high : Int), .slice B1 a.names.length m1, .bool a.must, .int .i64 (a.most : Int), .slice A1 k.len c1] := (Blk.new w _ _).alloc _
  have hq1 : Blk ((w.alloc (.cells #[.string (txt a.name), .int .i64 (a.kind : Int), .int .i64 (a.typ : Int), .int .u64 (a.low : Int), .int .u64 (a.high : Int), .slice B1 a.names.length m1, .bool a.must, .int .i64 (a.most : Int), .slice A1 k.len c1] 33)).alloc (.cells #[.string (txt a.name), .int .i64 (a.kind : Int), .int .i64 (a.typ : Int), .int .u64 (a.low : Int), .int .u64 (a.high : Int), .slice B2 a.names.length m2, .bool a.must, .int .i64 (a.most : Int), .slice A2 k.len c2] 33)) (w.heap.size + 1) 33 #[.string (txt a.name), .int .i64 (a.kind : Int), .int .i64 (a.typ : Int), .int .u64 (a.low : Int), .int .u64 (a.high : Int), .slice B2 a.names.length m2, .bool a.must, .int .i64 (a.most : Int), .slice A2 k.len c2] := by
    have h := Blk.new (w.alloc (.cells #[.string (txt a.name), .int .i64 (a.kind : Int), .int .i64 (a.typ : Int), .int .u64 (a.low : Int), .int .u64 (a.high : Int), .slice B1 a.names.length m1, .bool a.must, .int .i64 (a.most : Int), .slice A1 k.len c1] 33)) 33 #[.string (txt a.name), .int .i64 (a.kind : Int), .int .i64 (a.typ : Int), .int .u64 (a.low : Int), .int .u64 (a.high : Int), .slice B2 a.names.length m2, .bool a.must, .int .i64 (a.most : Int), .slice A2 k.len c2]
    rw [show (w.alloc (.cells #[.string (txt a.name), .int .i64 (a.kind : Int), .int .i64 (a.typ : Int), .int .u64 (a.low : Int), .int .u64 (a.high : Int), .slice B1 a.names.length m1, .bool a.must, .int .i64 (a.most : Int), .slice A1 k.len c1] 33)).heap.size = w.heap.size + 1 by simp] at h
    exact h
  have HQ := Lib.hid (And.intro hq0 (And.intro hq1 hb3))
  clear hb3 hq0 hq1
  go_loopw [5] (fun i wr => ∃ (j : Nat), j ≤ a.names.length ∧ i = .int .i64 (j : Int) ∧ Blk wr w.heap.size 33 #[.string (txt a.name), .int .i64 (a.kind : Int), .int .i64 (a.typ : Int), .int .u64 (a.low : Int), .int .u64 (a.high : Int), .slice B1 a.names.length m1, .bool a.must, .int .i64 (a.most : Int), .slice A1 k.len c1] ∧ Blk wr (w.heap.size + 1) 33 #[.string (txt a.name), .int .i64 (a.kind : Int), .int .i64 (a.typ : Int), .int .u64 (a.low : Int), .int .u64 (a.high : Int), .slice B2 a.names.length m2, .bool a.must, .int .i64 (a.most : Int), .slice A2 k.len c2] ∧ Below w.heap.size w wr) (fun i _ => a.names.length - (intOf i).toNat)
  case atStart => exact ⟨0, Nat.zero_le _, rfl, HQ.out.1, HQ.out.2.1, HQ.out.2.2⟩
  case round =>
    obtain ⟨j, hj, rfl, hX, hY, hB⟩ := hrel
    have HB := Lib.hid hB
    have HX := Lib.hid hX
    have HY := Lib.hid hY
    have q15 : wr.cell? ⟨w.heap.size, 5, none⟩ = some (.slice B1 a.names.length m1) := (hX.cell 5).trans rfl
    by_cases hlt : j < a.names.length
    · obtain ⟨n, hn⟩ : ∃ n, a.names[j]? = some n := ⟨_, List.getElem?_eq_getElem hlt⟩
      obtain ⟨o1, rfl, hda1, -, -, hc1⟩ := HV.out.1.at (txts_at hn)
      obtain ⟨o2, rfl, hda2, -, -, hc2⟩ := HV.out.2.at (txts_at hn)
      have i1 : (0 : Int) ≤ (j : Int) := by omega
      have i2 : (j : Int) < (a.names.length : Int) := by omega
      have i3 : (a.names.length : Int) ≤ 1000000000 := by have := HZ.out.2.1; omega
      have HQ1 := Lib.hid (And.intro (hX.below (Below.refl _ _).drew hX.lt) (And.intro (hY.below (Below.refl _ _).drew hY.lt) (And.intro ((hB.drew.cell (p := ⟨d1, o1 + j, none⟩) hda1).trans hc1) ((hB.drew.cell (p := ⟨d2, o2 + j, none⟩) hda2).trans hc2))))
      have HBd := Lib.hid hB.drew
      have tn : (txt n).toList = n := txt_toList n
      clear hn hc1 hc2 hda1 hda2 hX hY hB
      go_wp2_with fail
      refine wp_region_noPanic ?_
      refine wp_region_held_drew (S := fun _ => True) (by kernel_rfl) trivial (fun hS => ?_)
      refine wpAnyH_take (i := 0) (oi := ?o1_0_1) (v := ?v1_0_1) ?i1_0_1 (by kernel_rfl) (by kernel_rfl) (by kernel_rfl) (fun _ _ _ h => h) (Or.inl ⟨?g1_0_1, ?y1_0_1⟩) hS ?_
      case i1_0_1 => simp only [List.getElem?_toArray, List.getElem?_cons_succ, List.getElem?_cons_zero]; rfl
      case g1_0_1 => rfl
      case y1_0_1 => (intro w hSw; (go_simp <;> with_reducible rfl))
      (try simp only [Act.put, List.setIfInBounds_toArray, List.set_cons_zero, List.set_cons_succ])
      refine held_more (S' := fun w' => Blk w' w.heap.size 33 #[.string (txt a.name), .int .i64 (a.kind : Int), .int .i64 (a.typ : Int), .int .u64 (a.low : Int), .int .u64 (a.high : Int), .slice (some ⟨d1, o1, none⟩) a.names.length m1, .bool a.must, .int .i64 (a.most : Int), .slice A1 k.len c1] ∧ Blk w' (w.heap.size + 1) 33 #[.string (txt a.name), .int .i64 (a.kind : Int), .int .i64 (a.typ : Int), .int .u64 (a.low : Int), .int .u64 (a.high : Int), .slice (some ⟨d2, o2, none⟩) a.names.length m2, .bool a.must, .int .i64 (a.most : Int), .slice A2 k.len c2] ∧ w'.cell? ⟨d1, o1 + j, none⟩ = some (.string (txt n)) ∧ w'.cell? ⟨d2, o2 + j, none⟩ = some (.string (txt n))) (fun _ _ => trivial) _ _ _ _ ?_
      replace hS := HQ1.out
      refine wpAnyH_take (i := 1) (oi := ?o1_1_2) (v := ?v1_1_2) ?i1_1_2 (by kernel_rfl) (by kernel_rfl) (by kernel_rfl) (fun _ _ _ h => h) (Or.inl ⟨?g1_1_2, ?y1_1_2⟩) hS ?_
      case i1_1_2 => simp only [List.getElem?_toArray, List.getElem?_cons_succ, List.getElem?_cons_zero]; rfl
      case g1_1_2 => rfl
      case y1_1_2 => (intro w hSw; have q5 := (hSw.1.cell 5).trans rfl; (go_simp <;> with_reducible rfl))
      (try simp only [Act.put, List.setIfInBounds_toArray, List.set_cons_zero, List.set_cons_succ])
      refine wpAnyH_take (i := 2) (oi := ?o1_2_3) (v := ?v1_2_3) ?i1_2_3 (by kernel_rfl) (by kernel_rfl) (by kernel_rfl) (fun _ _ _ h => h) (Or.inl ⟨?g1_2_3, ?y1_2_3⟩) hS ?_
      case i1_2_3 => simp only [List.getElem?_toArray, List.getElem?_cons_succ, List.getElem?_cons_zero]; rfl
      case g1_2_3 => rfl
      case y1_2_3 => (intro w hSw; (go_simp <;> with_reducible rfl))
      (try simp only [Act.put, List.setIfInBounds_toArray, List.set_cons_zero, List.set_cons_succ])
      refine wpAnyH_take (i := 3) (oi := ?o1_3_4) (v := ?v1_3_4) ?i1_3_4 (by kernel_rfl) (by kernel_rfl) (by kernel_rfl) (fun _ _ _ h => h) (Or.inl ⟨?g1_3_4, ?y1_3_4⟩) hS ?_
      case i1_3_4 => simp only [List.getElem?_toArray, List.getElem?_cons_succ, List.getElem?_cons_zero]; rfl
      case g1_3_4 => rfl
      case y1_3_4 => (intro w hSw; (go_simp <;> with_reducible rfl))
      (try simp only [Act.put, List.setIfInBounds_toArray, List.set_cons_zero, List.set_cons_succ])
      refine wpAnyH_take (i := 4) (oi := ?o1_4_5) (v := ?v1_4_5) ?i1_4_5 (by kernel_rfl) (by kernel_rfl) (by kernel_rfl) (fun _ _ _ h => h) (Or.inl ⟨?g1_4_5, ?y1_4_5⟩) hS ?_
      case i1_4_5 => simp only [List.getElem?_toArray, List.getElem?_cons_succ, List.getElem?_cons_zero]; rfl
      case g1_4_5 => rfl
      case y1_4_5 => (intro w hSw; have hc := hSw.2.2.1; (go_simp <;> with_reducible rfl))
      (try simp only [Act.put, List.setIfInBounds_toArray, List.set_cons_zero, List.set_cons_succ])
      refine wpAnyH_take (i := 5) (oi := ?o1_5_6) (v := ?v1_5_6) ?i1_5_6 (by kernel_rfl) (by kernel_rfl) (by kernel_rfl) (fun _ _ _ h => h) (Or.inl ⟨?g1_5_6, ?y1_5_6⟩) hS ?_
      case i1_5_6 => simp only [List.getElem?_toArray, List.getElem?_cons_succ, List.getElem?_cons_zero]; rfl
      case g1_5_6 => rfl
      case y1_5_6 => (intro w hSw; (go_simp <;> with_reducible rfl))
      (try simp only [Act.put, List.setIfInBounds_toArray, List.set_cons_zero, List.set_cons_succ])
      refine wpAnyH_take (i := 6) (oi := ?o1_6_7) (v := ?v1_6_7) ?i1_6_7 (by kernel_rfl) (by kernel_rfl) (by kernel_rfl) (fun _ _ _ h => h) (Or.inl ⟨?g1_6_7, ?y1_6_7⟩) hS ?_
      case i1_6_7 => simp only [List.getElem?_toArray, List.getElem?_cons_succ, List.getElem?_cons_zero]; rfl
      case g1_6_7 => rfl
      case y1_6_7 => (intro w hSw; have q5 := (hSw.2.1.cell 5).trans rfl; (go_simp <;> with_reducible rfl))
      (try simp only [Act.put, List.setIfInBounds_toArray, List.set_cons_zero, List.set_cons_succ])
      refine wpAnyH_take (i := 7) (oi := ?o1_7_8) (v := ?v1_7_8) ?i1_7_8 (by kernel_rfl) (by kernel_rfl) (by kernel_rfl) (fun _ _ _ h => h) (Or.inl ⟨?g1_7_8, ?y1_7_8⟩) hS ?_
      case i1_7_8 => simp only [List.getElem?_toArray, List.getElem?_cons_succ, List.getElem?_cons_zero]; rfl
      case g1_7_8 => rfl
      case y1_7_8 => (intro w hSw; (go_simp <;> with_reducible rfl))
      (try simp only [Act.put, List.setIfInBounds_toArray, List.set_cons_zero, List.set_cons_succ])
      refine wpAnyH_take (i := 8) (oi := ?o1_8_9) (v := ?v1_8_9) ?i1_8_9 (by kernel_rfl) (by kernel_rfl) (by kernel_rfl) (fun _ _ _ h => h) (Or.inl ⟨?g1_8_9, ?y1_8_9⟩) hS ?_
      case i1_8_9 => simp only [List.getElem?_toArray, List.getElem?_cons_succ, List.getElem?_cons_zero]; rfl
      case g1_8_9 => rfl
      case y1_8_9 => (intro w hSw; (go_simp <;> with_reducible rfl))
      (try simp only [Act.put, List.setIfInBounds_toArray, List.set_cons_zero, List.set_cons_succ])
      refine wpAnyH_take (i := 9) (oi := ?o1_9_10) (v := ?v1_9_10) ?i1_9_10 (by kernel_rfl) (by kernel_rfl) (by kernel_rfl) (fun _ _ _ h => h) (Or.inl ⟨?g1_9_10, ?y1_9_10⟩) hS ?_
      case i1_9_10 => simp only [List.getElem?_toArray, List.getElem?_cons_succ, List.getElem?_cons_zero]; rfl
      case g1_9_10 => rfl
      case y1_9_10 => (intro w hSw; have hc := hSw.2.2.2; (go_simp <;> with_reducible rfl))
      (try simp only [Act.put, List.setIfInBounds_toArray, List.set_cons_zero, List.set_cons_succ])
      refine wpAnyH_take (i := 10) (oi := ?o1_10_11) (v := ?v1_10_11) ?i1_10_11 (by kernel_rfl) (by kernel_rfl) (by kernel_rfl) (fun _ _ _ h => h) (Or.inl ⟨?g1_10_11, ?y1_10_11⟩) hS ?_
      case i1_10_11 => simp only [List.getElem?_toArray, List.getElem?_cons_succ, List.getElem?_cons_zero]; rfl
      case g1_10_11 => rfl
      case y1_10_11 => (intro w hSw; (go_simp <;> with_reducible rfl))
      (try simp only [Act.put, List.setIfInBounds_toArray, List.set_cons_zero, List.set_cons_succ])
      refine wpAnyH_done (by kernel_rfl) ?_ _
      refine NoPanic.normal ?_
      clear hS q15
      go_wp2
      go_roundw
      case rel => exact ⟨j + 1, by omega, by go_num, HQ1.out.1, HQ1.out.2.1, HBd.out⟩
      case measure => simp [intOf]; omega
    · obtain rfl : j = a.names.length := by omega
      have i2 : ¬ (a.names.length : Int) < (a.names.length : Int) := by omega
      obtain ⟨wo, hwo⟩ : ∃ wo, wo = wr := ⟨_, rfl⟩
      subst hwo
      clear hX hY hB hlt
      go_wp2
      go_loopw [6, 7] (fun i v7 wr => ∃ (j : Nat), j ≤ k.len ∧ i = .int .i64 (j : Int) ∧ Blk wr w.heap.size 33 #[.string (txt a.name), .int .i64 (a.kind : Int), .int .i64 (a.typ : Int), .int .u64 (a.low : Int), .int .u64 (a.high : Int), .slice B1 a.names.length m1, .bool a.must, .int .i64 (a.most : Int), .slice A1 k.len c1] ∧ Blk wr (w.heap.size + 1) 33 #[.string (txt a.name), .int .i64 (a.kind : Int), .int .i64 (a.typ : Int), .int .u64 (a.low : Int), .int .u64 (a.high : Int), .slice B2 a.names.length m2, .bool a.must, .int .i64 (a.most : Int), .slice A2 k.len c2] ∧ Below w.heap.size w wr) (fun i _ _ => k.len - (intOf i).toNat)
      case atStart => exact ⟨0, Nat.zero_le _, rfl, HX.out, HY.out, HB.out⟩
      case round =>
        obtain ⟨j, hj, rfl, hX, hY, hB⟩ := hrel
        have HB := Lib.hid hB
        have HX := Lib.hid hX
        have HY := Lib.hid hY
        have q18 : wr.cell? ⟨w.heap.size, 8, none⟩ = some (.slice A1 k.len c1) := (hX.cell 8).trans rfl
        by_cases hlt : j < k.len
        · obtain ⟨a', q, hg⟩ := Fr.get_some hlt
          obtain ⟨b1, o1, c3', cs3, ee, -, hSb1, hNk1, hcl1⟩ := HK.out.1.at hg
          injection ee with e1 e2 e3
          subst e1 e3
          obtain ⟨b2, o2, c4', cs4, ee, -, hSb2, hNk2, hcl2⟩ := HK.out.2.at hg
          injection ee with e1 e2' e3
          subst e1 e3
          obtain ⟨B3, m3, A3, c3, d3, rfl, -, -, -⟩ := SpN.shape (x := (a', q)) hNk1
          obtain ⟨B4, m4, A4, c4, d4, rfl, -, -, -⟩ := SpN.shape (x := (a', q)) hNk2
          have hbl1 : b1 < w.heap.size := HS.out.1 b1 hSb1
          have hbl2 : b2 < w.heap.size := HS.out.2.2.1 b2 hSb2
          have i1 : (0 : Int) ≤ (j : Int) := by omega
          have i2 : (j : Int) < (k.len : Int) := by omega
          have i3 : (k.len : Int) ≤ 1000000000 := by have := Fr.len_size k; have := HZ.out.1; omega
          have up : ∀ (T : Nat → Prop), (∀ g, T g → g < w.heap.size) → ∀ g, T g → wr.drew.heap[g]? = w.heap[g]? := fun T h g hg => hB.drew.block g (h g hg)
          have HI1 := Lib.hid (HI.out j a' q hg a' _ _ wr.drew S1 N1 S2 N2 (FrN.kept stay_spc hNk1 (up S1 HS.out.1) (fun _ h => h) (up N1 HS.out.2.1) (fun _ h => h)) (FrN.kept stay_spc hNk2 (up S2 HS.out.2.2.1) (fun _ h => h) (up N2 HS.out.2.2.2) (fun _ h => h))
            (fun g hg => Nat.lt_of_lt_of_le (HS.out.1 g hg) hB.size) (fun g hg => Nat.lt_of_lt_of_le (HS.out.2.1 g hg) hB.size) (fun g hg => Nat.lt_of_lt_of_le (HS.out.2.2.1 g hg) hB.size) (fun g hg => Nat.lt_of_lt_of_le (HS.out.2.2.2 g hg) hB.size) (by have := Fr.size_get hg; have := HZ.out.1; omega) (HZ.out.2.2 _ (inner_get hg)) (fun x hx => HZ.out.2.2 x (inner_in (inner_get hg) hx)))
          have HQ1 : Hid (Blk wr.drew w.heap.size 33 #[.string (txt a.name), .int .i64 (a.kind : Int), .int .i64 (a.typ : Int), .int .u64 (a.low : Int), .int .u64 (a.high : Int), .slice B1 a.names.length m1, .bool a.must, .int .i64 (a.most : Int), .slice (some ⟨b1, o1, none⟩) k.len c1] ∧ Blk wr.drew (w.heap.size + 1) 33 #[.string (txt a.name), .int .i64 (a.kind : Int), .int .i64 (a.typ : Int), .int .u64 (a.low : Int), .int .u64 (a.high : Int), .slice B2 a.names.length m2, .bool a.must, .int .i64 (a.most : Int), .slice (some ⟨b2, o2, none⟩) k.len c2] ∧ (∀ i u, ([.string (txt a'.name), .int .i64 (a'.kind : Int), .int .i64 (a'.typ : Int), .int .u64 (a'.low : Int), .int .u64 (a'.high : Int), .slice B3 a'.names.length m3, .bool a'.must, .int .i64 (a'.most : Int), .slice A3 q.len c3] : List Value)[i]? = some u → wr.drew.cell? ⟨b1, o1 + j * 9 + i, none⟩ = some u) ∧ (∀ i u, ([.string (txt a'.name), .int .i64 (a'.kind : Int), .int .i64 (a'.typ : Int), .int .u64 (a'.low : Int), .int .u64 (a'.high : Int), .slice B4 a'.names.length m4, .bool a'.must, .int .i64 (a'.most : Int), .slice A4 q.len c4] : List Value)[i]? = some u → wr.drew.cell? ⟨b2, o2 + j * 9 + i, none⟩ = some u)) :=
            Lib.hid ⟨hX.below (Below.refl _ _).drew hX.lt, hY.below (Below.refl _ _).drew hY.lt, fun i u hu => (hB.drew.cell (p := ⟨b1, o1 + j * 9 + i, none⟩) hbl1).trans (hcl1 i u hu), fun i u hu => (hB.drew.cell (p := ⟨b2, o2 + j * 9 + i, none⟩) hbl2).trans (hcl2 i u hu)⟩
          have HBd := Lib.hid hB.drew
          have HL := Lib.hid (And.intro hbl1 hbl2)
          clear hcl1 hcl2 hNk1 hNk2 hg hSb1 hSb2 e2 e2' hX hY hB hbl1 hbl2 up
          go_wp2_with fail
          refine wp_region_noPanic ?_
          refine wp_region_held_drew (S := fun _ => True) (by kernel_rfl) trivial (fun hS => ?_)
          refine wpAnyH_take (i := 0) (oi := ?o2_0_1) (v := ?v2_0_1) ?i2_0_1 (by kernel_rfl) (by kernel_rfl) (by kernel_rfl) (fun _ _ _ h => h) (Or.inl ⟨?g2_0_1, ?y2_0_1⟩) hS ?_
          case i2_0_1 => simp only [List.getElem?_toArray, List.getElem?_cons_succ, List.getElem?_cons_zero]; rfl
          case g2_0_1 => rfl
          case y2_0_1 => (intro w hSw; (go_simp <;> with_reducible rfl))
          (try simp only [Act.put, List.setIfInBounds_toArray, List.set_cons_zero, List.set_cons_succ])
          refine held_more (S' := fun w' => Blk w' w.heap.size 33 #[.string (txt a.name), .int .i64 (a.kind : Int), .int .i64 (a.typ : Int), .int .u64 (a.low : Int), .int .u64 (a.high : Int), .slice B1 a.names.length m1, .bool a.must, .int .i64 (a.most : Int), .slice (some ⟨b1, o1, none⟩) k.len c1] ∧ Blk w' (w.heap.size + 1) 33 #[.string (txt a.name), .int .i64 (a.kind : Int), .int .i64 (a.typ : Int), .int .u64 (a.low : Int), .int .u64 (a.high : Int), .slice B2 a.names.length m2, .bool a.must, .int .i64 (a.most : Int), .slice (some ⟨b2, o2, none⟩) k.len c2] ∧ (∀ i u, ([.string (txt a'.name), .int .i64 (a'.kind : Int), .int .i64 (a'.typ : Int), .int .u64 (a'.low : Int), .int .u64 (a'.high : Int), .slice B3 a'.names.length m3, .bool a'.must, .int .i64 (a'.most : Int), .slice A3 q.len c3] : List Value)[i]? = some u → w'.cell? ⟨b1, o1 + j * 9 + i, none⟩ = some u) ∧ (∀ i u, ([.string (txt a'.name), .int .i64 (a'.kind : Int), .int .i64 (a'.typ : Int), .int .u64 (a'.low : Int), .int .u64 (a'.high : Int), .slice B4 a'.names.length m4, .bool a'.must, .int .i64 (a'.most : Int), .slice A4 q.len c4] : List Value)[i]? = some u → w'.cell? ⟨b2, o2 + j * 9 + i, none⟩ = some u)) (fun _ _ => trivial) _ _ _ _ ?_
          replace hS := HQ1.out
          refine wpAnyH_take (i := 1) (oi := ?o2_1_2) (v := ?v2_1_2) ?i2_1_2 (by kernel_rfl) (by kernel_rfl) (by kernel_rfl) (fun _ _ _ h => h) (Or.inl ⟨?g2_1_2, ?y2_1_2⟩) hS ?_
          case i2_1_2 => simp only [List.getElem?_toArray, List.getElem?_cons_succ, List.getElem?_cons_zero]; rfl
          case g2_1_2 => rfl
          case y2_1_2 => (intro w hSw; have q8 := (hSw.1.cell 8).trans rfl; (go_simp <;> with_reducible rfl))
          (try simp only [Act.put, List.setIfInBounds_toArray, List.set_cons_zero, List.set_cons_succ])
          refine wpAnyH_take (i := 2) (oi := ?o2_2_3) (v := ?v2_2_3) ?i2_2_3 (by kernel_rfl) (by kernel_rfl) (by kernel_rfl) (fun _ _ _ h => h) (Or.inl ⟨?g2_2_3, ?y2_2_3⟩) hS ?_
          case i2_2_3 => simp only [List.getElem?_toArray, List.getElem?_cons_succ, List.getElem?_cons_zero]; rfl
          case g2_2_3 => rfl
          case y2_2_3 => (intro w hSw; (go_simp <;> with_reducible rfl))
          (try simp only [Act.put, List.setIfInBounds_toArray, List.set_cons_zero, List.set_cons_succ])
          refine wpAnyH_take (i := 3) (oi := ?o2_3_4) (v := ?v2_3_4) ?i2_3_4 (by kernel_rfl) (by kernel_rfl) (by kernel_rfl) (fun _ _ _ h => h) (Or.inl ⟨?g2_3_4, ?y2_3_4⟩) hS ?_
          case i2_3_4 => simp only [List.getElem?_toArray, List.getElem?_cons_succ, List.getElem?_cons_zero]; rfl
          case g2_3_4 => rfl
          case y2_3_4 => (intro w hSw; (go_simp <;> with_reducible rfl))
          (try simp only [Act.put, List.setIfInBounds_toArray, List.set_cons_zero, List.set_cons_succ])
          refine wpAnyH_take (i := 4) (oi := ?o2_4_5) (v := ?v2_4_5) ?i2_4_5 (by kernel_rfl) (by kernel_rfl) (by kernel_rfl) (fun _ _ _ h => h) (Or.inl ⟨?g2_4_5, ?y2_4_5⟩) hS ?_
          case i2_4_5 => simp only [List.getElem?_toArray, List.getElem?_cons_succ, List.getElem?_cons_zero]; rfl
          case g2_4_5 => rfl
          case y2_4_5 => (intro w hSw; have u0 : w.cell? ⟨b1, o1 + j * 9, none⟩ = some (.string (txt a'.name)) := hSw.2.2.1 0 _ rfl; have u1 := hSw.2.2.1 1 _ rfl; have u2 := hSw.2.2.1 2 _ rfl; have u3 := hSw.2.2.1 3 _ rfl; have u4 := hSw.2.2.1 4 _ rfl; have u5 := hSw.2.2.1 5 _ rfl; have u6 := hSw.2.2.1 6 _ rfl; have u7 := hSw.2.2.1 7 _ rfl; have u8 := hSw.2.2.1 8 _ rfl; (go_simp <;> with_reducible rfl))
          (try simp only [Act.put, List.setIfInBounds_toArray, List.set_cons_zero, List.set_cons_succ])
          refine wpAnyH_take (i := 5) (oi := ?o2_5_6) (v := ?v2_5_6) ?i2_5_6 (by kernel_rfl) (by kernel_rfl) (by kernel_rfl) (fun _ _ _ h => h) (Or.inl ⟨?g2_5_6, ?y2_5_6⟩) hS ?_
          case i2_5_6 => simp only [List.getElem?_toArray, List.getElem?_cons_succ, List.getElem?_cons_zero]; rfl
          case g2_5_6 => rfl
          case y2_5_6 => (intro w hSw; (go_simp <;> with_reducible rfl))
          (try simp only [Act.put, List.setIfInBounds_toArray, List.set_cons_zero, List.set_cons_succ])
          refine wpAnyH_take (i := 6) (oi := ?o2_6_7) (v := ?v2_6_7) ?i2_6_7 (by kernel_rfl) (by kernel_rfl) (by kernel_rfl) (fun _ _ _ h => h) (Or.inl ⟨?g2_6_7, ?y2_6_7⟩) hS ?_
          case i2_6_7 => simp only [List.getElem?_toArray, List.getElem?_cons_succ, List.getElem?_cons_zero]; rfl
          case g2_6_7 => rfl
          case y2_6_7 => (intro w hSw; have q8 := (hSw.2.1.cell 8).trans rfl; (go_simp <;> with_reducible rfl))
          (try simp only [Act.put, List.setIfInBounds_toArray, List.set_cons_zero, List.set_cons_succ])
          refine wpAnyH_take (i := 7) (oi := ?o2_7_8) (v := ?v2_7_8) ?i2_7_8 (by kernel_rfl) (by kernel_rfl) (by kernel_rfl) (fun _ _ _ h => h) (Or.inl ⟨?g2_7_8, ?y2_7_8⟩) hS ?_
          case i2_7_8 => simp only [List.getElem?_toArray, List.getElem?_cons_succ, List.getElem?_cons_zero]; rfl
          case g2_7_8 => rfl
          case y2_7_8 => (intro w hSw; (go_simp <;> with_reducible rfl))
          (try simp only [Act.put, List.setIfInBounds_toArray, List.set_cons_zero, List.set_cons_succ])
          refine wpAnyH_take (i := 8) (oi := ?o2_8_9) (v := ?v2_8_9) ?i2_8_9 (by kernel_rfl) (by kernel_rfl) (by kernel_rfl) (fun _ _ _ h => h) (Or.inl ⟨?g2_8_9, ?y2_8_9⟩) hS ?_
          case i2_8_9 => simp only [List.getElem?_toArray, List.getElem?_cons_succ, List.getElem?_cons_zero]; rfl
          case g2_8_9 => rfl
          case y2_8_9 => (intro w hSw; (go_simp <;> with_reducible rfl))
          (try simp only [Act.put, List.setIfInBounds_toArray, List.set_cons_zero, List.set_cons_succ])
          refine wpAnyH_take (i := 9) (oi := ?o2_9_10) (v := ?v2_9_10) ?i2_9_10 (by kernel_rfl) (by kernel_rfl) (by kernel_rfl) (fun _ _ _ h => h) (Or.inl ⟨?g2_9_10, ?y2_9_10⟩) hS ?_
          case i2_9_10 => simp only [List.getElem?_toArray, List.getElem?_cons_succ, List.getElem?_cons_zero]; rfl
          case g2_9_10 => rfl
          case y2_9_10 => (intro w hSw; have u0 : w.cell? ⟨b2, o2 + j * 9, none⟩ = some (.string (txt a'.name)) := hSw.2.2.2 0 _ rfl; have u1 := hSw.2.2.2 1 _ rfl; have u2 := hSw.2.2.2 2 _ rfl; have u3 := hSw.2.2.2 3 _ rfl; have u4 := hSw.2.2.2 4 _ rfl; have u5 := hSw.2.2.2 5 _ rfl; have u6 := hSw.2.2.2 6 _ rfl; have u7 := hSw.2.2.2 7 _ rfl; have u8 := hSw.2.2.2 8 _ rfl; (go_simp <;> with_reducible rfl))
          (try simp only [Act.put, List.setIfInBounds_toArray, List.set_cons_zero, List.set_cons_succ])
          refine wpAnyH_ready (rs := [10]) (by kernel_rfl) (by simp) ?_
          refine (AllReadyH.cons (o := ?o2_11_10) ?i2_11_10 (fun K hK => ?st2_11_10) AllReadyH.nil)
          case i2_11_10 => simp only [List.getElem?_toArray, List.getElem?_cons_succ, List.getElem?_cons_zero]; rfl
          rw [if_pos (by rfl)]
          go_simp
          refine HI1.out.mono ?_
          rintro r w6 ⟨rfl, hb6⟩
          have HX6 := Lib.hid (HQ1.out.1.below hb6 HQ1.out.1.lt)
          have HY6 := Lib.hid (HQ1.out.2.1.below hb6 HQ1.out.2.1.lt)
          have HB6 := Lib.hid (HBd.out.trans (hb6.mono HBd.out.size))
          have HW6 := Lib.hid hb6
          clear hb6
          go_wp2_with fail
          refine hK.out _ _ ?s2_11_10 (fun hS => ?_)
          case s2_11_10 => (exact ⟨HX6.out, HY6.out, fun i u hu => (HW6.out.cell (p := ⟨b1, o1 + j * 9 + i, none⟩) (Nat.lt_of_lt_of_le HL.out.1 HBd.out.size)).trans (HQ1.out.2.2.1 i u hu), fun i u hu => (HW6.out.cell (p := ⟨b2, o2 + j * 9 + i, none⟩) (Nat.lt_of_lt_of_le HL.out.2 HBd.out.size)).trans (HQ1.out.2.2.2 i u hu)⟩)
          clear hK K
          (try simp only [Act.put, List.setIfInBounds_toArray, List.set_cons_zero, List.set_cons_succ])
          refine wpAnyH_take (i := 11) (oi := ?o2_11_12) (v := ?v2_11_12) ?i2_11_12 (by kernel_rfl) (by kernel_rfl) (by kernel_rfl) (fun _ _ _ h => h) (Or.inl ⟨?g2_11_12, ?y2_11_12⟩) hS ?_
          case i2_11_12 => simp only [List.getElem?_toArray, List.getElem?_cons_succ, List.getElem?_cons_zero]; rfl
          case g2_11_12 => rfl
          case y2_11_12 => (intro w hSw; (go_simp <;> with_reducible rfl))
          (try simp only [Act.put, List.setIfInBounds_toArray, List.set_cons_zero, List.set_cons_succ])
          refine wpAnyH_done (by kernel_rfl) ?_ _
          refine NoPanic.normal ?_
          clear hS q18
          go_wp2
          go_roundw
          case rel => exact ⟨j + 1, by omega, by go_num, HX6.out, HY6.out, HB6.out⟩
          case measure => simp [intOf]; omega
        · obtain rfl : j = k.len := by omega
          have i2 : ¬ (k.len : Int) < (k.len : Int) := by omega
          clear hX hY hB hlt
          go_wp2
          go_ret
          exact ⟨rfl, HB.out⟩

end Go.Proofs.Ytkpbjgjflabloaa
