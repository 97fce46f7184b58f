/- SpcRefG SpcSame Law07A Lies -/
import Derived.Test.YtikmilcdibldhaaDoorAM0
import Derived.Test.YtikmilcdibldhaaDoorAM2
import Derived.Test.YtikmilcdibldhaaDoorAM8
set_option linter.unusedSimpArgs false
set_option linter.unusedVariables false
namespace Go.Proofs.YtikmilcdibldhaaDoor
open Go.RowKit
theorem SpN.under {w w' : World} {S N : Nat → Prop} {cs : List Value} {x : Sp} (h : SpN w S N cs x) (hb : Below w.heap.size w w') (hS : ∀ g, S g → g < w.heap.size) (hN : ∀ g, N g → g < w.heap.size) : SpN w' S N cs x :=
 h.kept stay_spc (fun g hg => hb.block g (hS g hg)) (fun _ h => h) (fun g hg => hb.block g (hN g hg)) (fun _ h => h)
theorem SpN.apart {w w' : World} {S N : Nat → Prop} {cs : List Value} {x : Sp} (h : SpN w S N cs x) (hS : ∀ g, S g → w'.heap[g]? = w.heap[g]?) (hN : ∀ g, N g → w'.heap[g]? = w.heap[g]?) : SpN w' S N cs x :=
 h.kept stay_spc hS (fun _ h => h) hN (fun _ h => h)
end Go.Proofs.YtikmilcdibldhaaDoor
namespace Go.Proofs.YtikmilcdibldhaaDoor
open Go.RowKit
set_option maxRecDepth 100000 in
set_option maxHeartbeats 4000000 in
theorem rsame_any (k : SpF) : ∀ (a : SpD) (cs1 cs2 : List Value) (w : World) (S1 N1 S2 N2 : Nat → Prop), SpN w S1 N1 cs1 (a, k) → SpN w S2 N2 cs2 (a, k) → (∀ g, S1 g → g < w.heap.size) → (∀ g, N1 g → g < w.heap.size) → (∀ g, S2 g → g < w.heap.size) → (∀ g, N2 g → g < w.heap.size) → k.size ≤ 1000000000 → a.names.length ≤ 1000000000 → (∀ x ∈ inner k, x.1.names.length ≤ 1000000000) → Calls Tryd.prog 15 #[.agg cs1.toArray, .agg cs2.toArray] w (AnsP (.bool true) w) := by
 refine Fr.byKids (P := fun k => ∀ (a : SpD) (cs1 cs2 : List Value) (w : World) (S1 N1 S2 N2 : Nat → Prop), SpN w S1 N1 cs1 (a, k) → SpN w S2 N2 cs2 (a, k) → (∀ g, S1 g → g < w.heap.size) → (∀ g, N1 g → g < w.heap.size) → (∀ g, S2 g → g < w.heap.size) → (∀ g, N2 g → g < w.heap.size) → k.size ≤ 1000000000 → a.names.length ≤ 1000000000 → (∀ x ∈ inner k, x.1.names.length ≤ 1000000000) → Calls Tryd.prog 15 #[.agg cs1.toArray, .agg cs2.toArray] w (AnsP (.bool true) w)) ?_ k
 clear k
 intro k hkids a cs1 cs2 w S1 N1 S2 N2 hx hy hS1 hN1 hS2 hN2 hsz hnl hin
 obtain ⟨B1, m1, A1, c1, d1, rfl, hv1, hd1, hk1⟩ := hx.shape
 obtain ⟨B2, m2, A2, c2, d2, rfl, hv2, hd2, hk2⟩ := hy.shape
 have HI : Hid (∀ n b q, k.get? n = some (b, q) → ∀ (a : SpD) (cs1 cs2 : List Value) (w : World) (S1 N1 S2 N2 : Nat → Prop), SpN w S1 N1 cs1 (a, q) → SpN w S2 N2 cs2 (a, q) → (∀ g, S1 g → g < w.heap.size) → (∀ g, N1 g → g < w.heap.size) → (∀ g, S2 g → g < w.heap.size) → (∀ g, N2 g → g < w.heap.size) → q.size ≤ 1000000000 → a.names.length ≤ 1000000000 → (∀ x ∈ inner q, x.1.names.length ≤ 1000000000) → Calls Tryd.prog 15 #[.agg cs1.toArray, .agg cs2.toArray] w (AnsP (.bool true) w)) := Lib.hid (fun n b q h => hkids n b q h)
 have HV := Lib.hid (And.intro hv1 hv2)
 have HK := Lib.hid (And.intro hk1 hk2)
 have HS := Lib.hid (And.intro hS1 (And.intro hN1 (And.intro hS2 hN2)))
 have HZ := Lib.hid (And.intro hsz (And.intro hnl hin))
 clear hkids hx hy hv1 hv2 hd1 hd2 hk1 hk2 hS1 hN1 hS2 hN2 hsz hnl hin
 go_enter Tryd.func15, Tryd.ntmps15
 go_wp2
 have hb3 : Below w.heap.size w ((w.alloc (.cells #[.string (txt a.name), .int .i64 (a.kind : Int), .int .i64 (a.typ : Int), .int .u64 (a.low : Int), .int .u64 (a.high : Int), .slice B1 a.names.length m1, .bool a.must, .int .i64 (a.most : Int), .slice A1 k.len c1] 39)).alloc (.cells #[.string (txt a.name), .int .i64 (a.kind : Int), .int .i64 (a.typ : Int), .int .u64 (a.low : Int), .int .u64 (a.high : Int), .slice B2 a.names.length m2, .bool a.must, .int .i64 (a.most : Int), .slice A2 k.len c2] 39)) := ((Below.refl _ _).alloc (Nat.le_refl _) _).alloc (by simp) _
 have hq0 : Blk ((w.alloc (.cells #[.string (txt a.name), .int .i64 (a.kind : Int), .int .i64 (a.typ : Int), .int .u64 (a.low : Int), .int .u64 (a.high : Int), .slice B1 a.names.length m1, .bool a.must, .int .i64 (a.most : Int), .slice A1 k.len c1] 39)).alloc (.cells #[.string (txt a.name), .int .i64 (a.kind : Int), .int .i64 (a.typ : Int), .int .u64 (a.low : Int), .int .u64 (a.high : Int), .slice B2 a.names.length m2, .bool a.must, .int .i64 (a.most : Int), .slice A2 k.len c2] 39)) w.heap.size 39 #[.string (txt a.name), .int .i64 (a.kind : Int), .int .i64 (a.typ : Int), .int .u64 (a.low : Int), .int .u64 (a.high : Int), .slice B1 a.names.length m1, .bool a.must, .int .i64 (a.most : Int), .slice A1 k.len c1] := (Blk.new w _ _).alloc _
 have hq1 : Blk ((w.alloc (.cells #[.string (txt a.name), .int .i64 (a.kind : Int), .int .i64 (a.typ : Int), .int .u64 (a.low : Int), .int .u64 (a.high : Int), .slice B1 a.names.length m1, .bool a.must, .int .i64 (a.most : Int), .slice A1 k.len c1] 39)).alloc (.cells #[.string (txt a.name), .int .i64 (a.kind : Int), .int .i64 (a.typ : Int), .int .u64 (a.low : Int), .int .u64 (a.high : Int), .slice B2 a.names.length m2, .bool a.must, .int .i64 (a.most : Int), .slice A2 k.len c2] 39)) (w.heap.size + 1) 39 #[.string (txt a.name), .int .i64 (a.kind : Int), .int .i64 (a.typ : Int), .int .u64 (a.low : Int), .int .u64 (a.high : Int), .slice B2 a.names.length m2, .bool a.must, .int .i64 (a.most : Int), .slice A2 k.len c2] := by
  have h := Blk.new (w.alloc (.cells #[.string (txt a.name), .int .i64 (a.kind : Int), .int .i64 (a.typ : Int), .int .u64 (a.low : Int), .int .u64 (a.high : Int), .slice B1 a.names.length m1, .bool a.must, .int .i64 (a.most : Int), .slice A1 k.len c1] 39)) 39 #[.string (txt a.name), .int .i64 (a.kind : Int), .int .i64 (a.typ : Int), .int .u64 (a.low : Int), .int .u64 (a.high : Int), .slice B2 a.names.length m2, .bool a.must, .int .i64 (a.most : Int), .slice A2 k.len c2]
  rw [show (w.alloc (.cells #[.string (txt a.name), .int .i64 (a.kind : Int), .int .i64 (a.typ : Int), .int .u64 (a.low : Int), .int .u64 (a.high : Int), .slice B1 a.names.length m1, .bool a.must, .int .i64 (a.most : Int), .slice A1 k.len c1] 39)).heap.size = w.heap.size + 1 by simp] at h
  exact h
 have HQ := Lib.hid (And.intro hq0 (And.intro hq1 hb3))
 clear hb3 hq0 hq1
 go_loopw [5] (fun i wr => ∃ (j : Nat), j ≤ a.names.length ∧ i = .int .i64 (j : Int) ∧ Blk wr w.heap.size 39 #[.string (txt a.name), .int .i64 (a.kind : Int), .int .i64 (a.typ : Int), .int .u64 (a.low : Int), .int .u64 (a.high : Int), .slice B1 a.names.length m1, .bool a.must, .int .i64 (a.most : Int), .slice A1 k.len c1] ∧ Blk wr (w.heap.size + 1) 39 #[.string (txt a.name), .int .i64 (a.kind : Int), .int .i64 (a.typ : Int), .int .u64 (a.low : Int), .int .u64 (a.high : Int), .slice B2 a.names.length m2, .bool a.must, .int .i64 (a.most : Int), .slice A2 k.len c2] ∧ Below w.heap.size w wr) (fun i _ => a.names.length - (intOf i).toNat)
 case atStart => exact ⟨0, Nat.zero_le _, rfl, HQ.out.1, HQ.out.2.1, HQ.out.2.2⟩
 case round =>
  obtain ⟨j, hj, rfl, hX, hY, hB⟩ := hrel
  have HB := Lib.hid hB
  have HX := Lib.hid hX
  have HY := Lib.hid hY
  have q15 : wr.cell? ⟨w.heap.size, 5, none⟩ = some (.slice B1 a.names.length m1) := (hX.cell 5).trans rfl
  by_cases hlt : j < a.names.length
  ·obtain ⟨n, hn⟩ : ∃ n, a.names[j]? = some n := ⟨_, List.getElem?_eq_getElem hlt⟩
   obtain ⟨o1, rfl, hda1, -, -, hc1⟩ := HV.out.1.at (txts_at hn)
   obtain ⟨o2, rfl, hda2, -, -, hc2⟩ := HV.out.2.at (txts_at hn)
   have i1 : (0 : Int) ≤ (j : Int) := by omega
   have i2 : (j : Int) < (a.names.length : Int) := by omega
   have i3 : (a.names.length : Int) ≤ 1000000000 := by have := HZ.out.2.1; omega
   have HQ1 := Lib.hid (And.intro (hX.below (Below.refl _ _).drew hX.lt) (And.intro (hY.below (Below.refl _ _).drew hY.lt) (And.intro ((hB.drew.cell (p := ⟨d1, o1 + j, none⟩) hda1).trans hc1) ((hB.drew.cell (p := ⟨d2, o2 + j, none⟩) hda2).trans hc2))))
   have HBd := Lib.hid hB.drew
   have tn : (txt n).toList = n := txt_toList n
   clear hn hc1 hc2 hda1 hda2 hX hY hB
   go_wp2_with fail
   refine wp_region_noPanic ?_
   refine wp_region_held_drew (S := fun _ => True) (by kernel_rfl) trivial (fun hS => ?_)
   refine wpAnyH_take (i := 0) (oi := ?o_0) (v := ?v_0) ?i_0 (by kernel_rfl) (by kernel_rfl) (by kernel_rfl) (fun _ _ _ h => h) (Or.inl ⟨?g_0, ?y_0⟩) hS ?_
   case i_0 => simp only [layG]; rfl
   case g_0 => rfl
   case y_0 => (intro w hSw; (go_simp <;> with_reducible rfl))
   (try simp only [Act.put, layS])
   refine held_more (S' := fun w' => Blk w' w.heap.size 39 #[.string (txt a.name), .int .i64 (a.kind : Int), .int .i64 (a.typ : Int), .int .u64 (a.low : Int), .int .u64 (a.high : Int), .slice (some ⟨d1, o1, none⟩) a.names.length m1, .bool a.must, .int .i64 (a.most : Int), .slice A1 k.len c1] ∧ Blk w' (w.heap.size + 1) 39 #[.string (txt a.name), .int .i64 (a.kind : Int), .int .i64 (a.typ : Int), .int .u64 (a.low : Int), .int .u64 (a.high : Int), .slice (some ⟨d2, o2, none⟩) a.names.length m2, .bool a.must, .int .i64 (a.most : Int), .slice A2 k.len c2] ∧ w'.cell? ⟨d1, o1 + j, none⟩ = some (.string (txt n)) ∧ w'.cell? ⟨d2, o2 + j, none⟩ = some (.string (txt n))) (fun _ _ => trivial) _ _ _ _ ?_
   replace hS := HQ1.out
   refine wpAnyH_take (i := 1) (oi := ?o_1) (v := ?v_1) ?i_1 (by kernel_rfl) (by kernel_rfl) (by kernel_rfl) (fun _ _ _ h => h) (Or.inl ⟨?g_1, ?y_1⟩) hS ?_
   case i_1 => simp only [layG]; rfl
   case g_1 => rfl
   case y_1 => (intro w hSw; have q5 := (hSw.1.cell 5).trans rfl; (go_simp <;> with_reducible rfl))
   (try simp only [Act.put, layS])
   refine wpAnyH_take (i := 2) (oi := ?o_2) (v := ?v_2) ?i_2 (by kernel_rfl) (by kernel_rfl) (by kernel_rfl) (fun _ _ _ h => h) (Or.inl ⟨?g_2, ?y_2⟩) hS ?_
   case i_2 => simp only [layG]; rfl
   case g_2 => rfl
   case y_2 => (intro w hSw; (go_simp <;> with_reducible rfl))
   (try simp only [Act.put, layS])
   refine wpAnyH_take (i := 3) (oi := ?o_3) (v := ?v_3) ?i_3 (by kernel_rfl) (by kernel_rfl) (by kernel_rfl) (fun _ _ _ h => h) (Or.inl ⟨?g_3, ?y_3⟩) hS ?_
   case i_3 => simp only [layG]; rfl
   case g_3 => rfl
   case y_3 => (intro w hSw; (go_simp <;> with_reducible rfl))
   (try simp only [Act.put, layS])
   refine wpAnyH_take (i := 4) (oi := ?o_4) (v := ?v_4) ?i_4 (by kernel_rfl) (by kernel_rfl) (by kernel_rfl) (fun _ _ _ h => h) (Or.inl ⟨?g_4, ?y_4⟩) hS ?_
   case i_4 => simp only [layG]; rfl
   case g_4 => rfl
   case y_4 => (intro w hSw; have hc := hSw.2.2.1; (go_simp <;> with_reducible rfl))
   (try simp only [Act.put, layS])
   refine wpAnyH_take (i := 5) (oi := ?o_5) (v := ?v_5) ?i_5 (by kernel_rfl) (by kernel_rfl) (by kernel_rfl) (fun _ _ _ h => h) (Or.inl ⟨?g_5, ?y_5⟩) hS ?_
   case i_5 => simp only [layG]; rfl
   case g_5 => rfl
   case y_5 => (intro w hSw; (go_simp <;> with_reducible rfl))
   (try simp only [Act.put, layS])
   refine wpAnyH_take (i := 6) (oi := ?o_6) (v := ?v_6) ?i_6 (by kernel_rfl) (by kernel_rfl) (by kernel_rfl) (fun _ _ _ h => h) (Or.inl ⟨?g_6, ?y_6⟩) hS ?_
   case i_6 => simp only [layG]; rfl
   case g_6 => rfl
   case y_6 => (intro w hSw; have q5 := (hSw.2.1.cell 5).trans rfl; (go_simp <;> with_reducible rfl))
   (try simp only [Act.put, layS])
   refine wpAnyH_take (i := 7) (oi := ?o_7) (v := ?v_7) ?i_7 (by kernel_rfl) (by kernel_rfl) (by kernel_rfl) (fun _ _ _ h => h) (Or.inl ⟨?g_7, ?y_7⟩) hS ?_
   case i_7 => simp only [layG]; rfl
   case g_7 => rfl
   case y_7 => (intro w hSw; (go_simp <;> with_reducible rfl))
   (try simp only [Act.put, layS])
   refine wpAnyH_take (i := 8) (oi := ?o_8) (v := ?v_8) ?i_8 (by kernel_rfl) (by kernel_rfl) (by kernel_rfl) (fun _ _ _ h => h) (Or.inl ⟨?g_8, ?y_8⟩) hS ?_
   case i_8 => simp only [layG]; rfl
   case g_8 => rfl
   case y_8 => (intro w hSw; (go_simp <;> with_reducible rfl))
   (try simp only [Act.put, layS])
   refine wpAnyH_take (i := 9) (oi := ?o_9) (v := ?v_9) ?i_9 (by kernel_rfl) (by kernel_rfl) (by kernel_rfl) (fun _ _ _ h => h) (Or.inl ⟨?g_9, ?y_9⟩) hS ?_
   case i_9 => simp only [layG]; rfl
   case g_9 => rfl
   case y_9 => (intro w hSw; have hc := hSw.2.2.2; (go_simp <;> with_reducible rfl))
   (try simp only [Act.put, layS])
   refine wpAnyH_take (i := 10) (oi := ?o_a) (v := ?v_a) ?i_a (by kernel_rfl) (by kernel_rfl) (by kernel_rfl) (fun _ _ _ h => h) (Or.inl ⟨?g_a, ?y_a⟩) hS ?_
   case i_a => simp only [layG]; rfl
   case g_a => rfl
   case y_a => (intro w hSw; (go_simp <;> with_reducible rfl))
   (try simp only [Act.put, layS])
   refine wpAnyH_done (by kernel_rfl) ?_ _
   refine NoPanic.normal ?_
   clear hS q15
   go_wp2
   go_roundw
   case rel => exact ⟨j + 1, by omega, by go_num, HQ1.out.1, HQ1.out.2.1, HBd.out⟩
   case measure => simp [intOf]; omega
  ·obtain rfl : j = a.names.length := by omega
   have i2 : ¬ (a.names.length : Int) < (a.names.length : Int) := by omega
   obtain ⟨wo, hwo⟩ : ∃ wo, wo = wr := ⟨_, rfl⟩
   subst hwo
   clear hX hY hB hlt
   go_wp2
   go_loopw [6, 7] (fun i v7 wr => ∃ (j : Nat), j ≤ k.len ∧ i = .int .i64 (j : Int) ∧ Blk wr w.heap.size 39 #[.string (txt a.name), .int .i64 (a.kind : Int), .int .i64 (a.typ : Int), .int .u64 (a.low : Int), .int .u64 (a.high : Int), .slice B1 a.names.length m1, .bool a.must, .int .i64 (a.most : Int), .slice A1 k.len c1] ∧ Blk wr (w.heap.size + 1) 39 #[.string (txt a.name), .int .i64 (a.kind : Int), .int .i64 (a.typ : Int), .int .u64 (a.low : Int), .int .u64 (a.high : Int), .slice B2 a.names.length m2, .bool a.must, .int .i64 (a.most : Int), .slice A2 k.len c2] ∧ Below w.heap.size w wr) (fun i _ _ => k.len - (intOf i).toNat)
   case atStart => exact ⟨0, Nat.zero_le _, rfl, HX.out, HY.out, HB.out⟩
   case round =>
    obtain ⟨j, hj, rfl, hX, hY, hB⟩ := hrel
    have HB := Lib.hid hB
    have HX := Lib.hid hX
    have HY := Lib.hid hY
    have q18 : wr.cell? ⟨w.heap.size, 8, none⟩ = some (.slice A1 k.len c1) := (hX.cell 8).trans rfl
    by_cases hlt : j < k.len
    ·obtain ⟨a', q, hg⟩ := Fr.get_some hlt
     obtain ⟨b1, o1, c3', cs3, ee, -, hSb1, hNk1, hcl1⟩ := HK.out.1.at hg
     injection ee with e1 e2 e3
     subst e1 e3
     obtain ⟨b2, o2, c4', cs4, ee, -, hSb2, hNk2, hcl2⟩ := HK.out.2.at hg
     injection ee with e1 e2' e3
     subst e1 e3
     obtain ⟨B3, m3, A3, c3, d3, rfl, -, -, -⟩ := SpN.shape (x := (a', q)) hNk1
     obtain ⟨B4, m4, A4, c4, d4, rfl, -, -, -⟩ := SpN.shape (x := (a', q)) hNk2
     have hbl1 : b1 < w.heap.size := HS.out.1 b1 hSb1
     have hbl2 : b2 < w.heap.size := HS.out.2.2.1 b2 hSb2
     have i1 : (0 : Int) ≤ (j : Int) := by omega
     have i2 : (j : Int) < (k.len : Int) := by omega
     have i3 : (k.len : Int) ≤ 1000000000 := by have := Fr.len_size k; have := HZ.out.1; omega
     have up : ∀ (T : Nat → Prop), (∀ g, T g → g < w.heap.size) → ∀ g, T g → wr.drew.heap[g]? = w.heap[g]? := fun T h g hg => hB.drew.block g (h g hg)
     have HI1 := Lib.hid (HI.out j a' q hg a' _ _ wr.drew S1 N1 S2 N2 (FrN.kept stay_spc hNk1 (up S1 HS.out.1) (fun _ h => h) (up N1 HS.out.2.1) (fun _ h => h)) (FrN.kept stay_spc hNk2 (up S2 HS.out.2.2.1) (fun _ h => h) (up N2 HS.out.2.2.2) (fun _ h => h))
      (fun g hg => Nat.lt_of_lt_of_le (HS.out.1 g hg) hB.size) (fun g hg => Nat.lt_of_lt_of_le (HS.out.2.1 g hg) hB.size) (fun g hg => Nat.lt_of_lt_of_le (HS.out.2.2.1 g hg) hB.size) (fun g hg => Nat.lt_of_lt_of_le (HS.out.2.2.2 g hg) hB.size) (by have := Fr.size_get hg; have := HZ.out.1; omega) (HZ.out.2.2 _ (inner_get hg)) (fun x hx => HZ.out.2.2 x (inner_in (inner_get hg) hx)))
     have HQ1 : Hid (Blk wr.drew w.heap.size 39 #[.string (txt a.name), .int .i64 (a.kind : Int), .int .i64 (a.typ : Int), .int .u64 (a.low : Int), .int .u64 (a.high : Int), .slice B1 a.names.length m1, .bool a.must, .int .i64 (a.most : Int), .slice (some ⟨b1, o1, none⟩) k.len c1] ∧ Blk wr.drew (w.heap.size + 1) 39 #[.string (txt a.name), .int .i64 (a.kind : Int), .int .i64 (a.typ : Int), .int .u64 (a.low : Int), .int .u64 (a.high : Int), .slice B2 a.names.length m2, .bool a.must, .int .i64 (a.most : Int), .slice (some ⟨b2, o2, none⟩) k.len c2] ∧ (∀ i u, ([.string (txt a'.name), .int .i64 (a'.kind : Int), .int .i64 (a'.typ : Int), .int .u64 (a'.low : Int), .int .u64 (a'.high : Int), .slice B3 a'.names.length m3, .bool a'.must, .int .i64 (a'.most : Int), .slice A3 q.len c3] : List Value)[i]? = some u → wr.drew.cell? ⟨b1, o1 + j * 9 + i, none⟩ = some u) ∧ (∀ i u, ([.string (txt a'.name), .int .i64 (a'.kind : Int), .int .i64 (a'.typ : Int), .int .u64 (a'.low : Int), .int .u64 (a'.high : Int), .slice B4 a'.names.length m4, .bool a'.must, .int .i64 (a'.most : Int), .slice A4 q.len c4] : List Value)[i]? = some u → wr.drew.cell? ⟨b2, o2 + j * 9 + i, none⟩ = some u)) :=
      Lib.hid ⟨hX.below (Below.refl _ _).drew hX.lt, hY.below (Below.refl _ _).drew hY.lt, fun i u hu => (hB.drew.cell (p := ⟨b1, o1 + j * 9 + i, none⟩) hbl1).trans (hcl1 i u hu), fun i u hu => (hB.drew.cell (p := ⟨b2, o2 + j * 9 + i, none⟩) hbl2).trans (hcl2 i u hu)⟩
     have HBd := Lib.hid hB.drew
     have HL := Lib.hid (And.intro hbl1 hbl2)
     clear hcl1 hcl2 hNk1 hNk2 hg hSb1 hSb2 e2 e2' hX hY hB hbl1 hbl2 up
     go_wp2_with fail
     refine wp_region_noPanic ?_
     refine wp_region_held_drew (S := fun _ => True) (by kernel_rfl) trivial (fun hS => ?_)
     refine wpAnyH_take (i := 0) (oi := ?o_b) (v := ?v_b) ?i_b (by kernel_rfl) (by kernel_rfl) (by kernel_rfl) (fun _ _ _ h => h) (Or.inl ⟨?g_b, ?y_b⟩) hS ?_
     case i_b => simp only [layG]; rfl
     case g_b => rfl
     case y_b => (intro w hSw; (go_simp <;> with_reducible rfl))
     (try simp only [Act.put, layS])
     refine held_more (S' := fun w' => Blk w' w.heap.size 39 #[.string (txt a.name), .int .i64 (a.kind : Int), .int .i64 (a.typ : Int), .int .u64 (a.low : Int), .int .u64 (a.high : Int), .slice B1 a.names.length m1, .bool a.must, .int .i64 (a.most : Int), .slice (some ⟨b1, o1, none⟩) k.len c1] ∧ Blk w' (w.heap.size + 1) 39 #[.string (txt a.name), .int .i64 (a.kind : Int), .int .i64 (a.typ : Int), .int .u64 (a.low : Int), .int .u64 (a.high : Int), .slice B2 a.names.length m2, .bool a.must, .int .i64 (a.most : Int), .slice (some ⟨b2, o2, none⟩) k.len c2] ∧ (∀ i u, ([.string (txt a'.name), .int .i64 (a'.kind : Int), .int .i64 (a'.typ : Int), .int .u64 (a'.low : Int), .int .u64 (a'.high : Int), .slice B3 a'.names.length m3, .bool a'.must, .int .i64 (a'.most : Int), .slice A3 q.len c3] : List Value)[i]? = some u → w'.cell? ⟨b1, o1 + j * 9 + i, none⟩ = some u) ∧ (∀ i u, ([.string (txt a'.name), .int .i64 (a'.kind : Int), .int .i64 (a'.typ : Int), .int .u64 (a'.low : Int), .int .u64 (a'.high : Int), .slice B4 a'.names.length m4, .bool a'.must, .int .i64 (a'.most : Int), .slice A4 q.len c4] : List Value)[i]? = some u → w'.cell? ⟨b2, o2 + j * 9 + i, none⟩ = some u)) (fun _ _ => trivial) _ _ _ _ ?_
     replace hS := HQ1.out
     refine wpAnyH_take (i := 1) (oi := ?o_c) (v := ?v_c) ?i_c (by kernel_rfl) (by kernel_rfl) (by kernel_rfl) (fun _ _ _ h => h) (Or.inl ⟨?g_c, ?y_c⟩) hS ?_
     case i_c => simp only [layG]; rfl
     case g_c => rfl
     case y_c => (intro w hSw; have q8 := (hSw.1.cell 8).trans rfl; (go_simp <;> with_reducible rfl))
     (try simp only [Act.put, layS])
     refine wpAnyH_take (i := 2) (oi := ?o_d) (v := ?v_d) ?i_d (by kernel_rfl) (by kernel_rfl) (by kernel_rfl) (fun _ _ _ h => h) (Or.inl ⟨?g_d, ?y_d⟩) hS ?_
     case i_d => simp only [layG]; rfl
     case g_d => rfl
     case y_d => (intro w hSw; (go_simp <;> with_reducible rfl))
     (try simp only [Act.put, layS])
     refine wpAnyH_take (i := 3) (oi := ?o_e) (v := ?v_e) ?i_e (by kernel_rfl) (by kernel_rfl) (by kernel_rfl) (fun _ _ _ h => h) (Or.inl ⟨?g_e, ?y_e⟩) hS ?_
     case i_e => simp only [layG]; rfl
     case g_e => rfl
     case y_e => (intro w hSw; (go_simp <;> with_reducible rfl))
     (try simp only [Act.put, layS])
     refine wpAnyH_take (i := 4) (oi := ?o_f) (v := ?v_f) ?i_f (by kernel_rfl) (by kernel_rfl) (by kernel_rfl) (fun _ _ _ h => h) (Or.inl ⟨?g_f, ?y_f⟩) hS ?_
     case i_f => simp only [layG]; rfl
     case g_f => rfl
     case y_f => (intro w hSw; have u0 : w.cell? ⟨b1, o1 + j * 9, none⟩ = some (.string (txt a'.name)) := hSw.2.2.1 0 _ rfl; have u1 := hSw.2.2.1 1 _ rfl; have u2 := hSw.2.2.1 2 _ rfl; have u3 := hSw.2.2.1 3 _ rfl; have u4 := hSw.2.2.1 4 _ rfl; have u5 := hSw.2.2.1 5 _ rfl; have u6 := hSw.2.2.1 6 _ rfl; have u7 := hSw.2.2.1 7 _ rfl; have u8 := hSw.2.2.1 8 _ rfl; (go_simp <;> with_reducible rfl))
     (try simp only [Act.put, layS])
     refine wpAnyH_take (i := 5) (oi := ?o_g) (v := ?v_g) ?i_g (by kernel_rfl) (by kernel_rfl) (by kernel_rfl) (fun _ _ _ h => h) (Or.inl ⟨?g_g, ?y_g⟩) hS ?_
     case i_g => simp only [layG]; rfl
     case g_g => rfl
     case y_g => (intro w hSw; (go_simp <;> with_reducible rfl))
     (try simp only [Act.put, layS])
     refine wpAnyH_take (i := 6) (oi := ?o_h) (v := ?v_h) ?i_h (by kernel_rfl) (by kernel_rfl) (by kernel_rfl) (fun _ _ _ h => h) (Or.inl ⟨?g_h, ?y_h⟩) hS ?_
     case i_h => simp only [layG]; rfl
     case g_h => rfl
     case y_h => (intro w hSw; have q8 := (hSw.2.1.cell 8).trans rfl; (go_simp <;> with_reducible rfl))
     (try simp only [Act.put, layS])
     refine wpAnyH_take (i := 7) (oi := ?o_i) (v := ?v_i) ?i_i (by kernel_rfl) (by kernel_rfl) (by kernel_rfl) (fun _ _ _ h => h) (Or.inl ⟨?g_i, ?y_i⟩) hS ?_
     case i_i => simp only [layG]; rfl
     case g_i => rfl
     case y_i => (intro w hSw; (go_simp <;> with_reducible rfl))
     (try simp only [Act.put, layS])
     refine wpAnyH_take (i := 8) (oi := ?o_j) (v := ?v_j) ?i_j (by kernel_rfl) (by kernel_rfl) (by kernel_rfl) (fun _ _ _ h => h) (Or.inl ⟨?g_j, ?y_j⟩) hS ?_
     case i_j => simp only [layG]; rfl
     case g_j => rfl
     case y_j => (intro w hSw; (go_simp <;> with_reducible rfl))
     (try simp only [Act.put, layS])
     refine wpAnyH_take (i := 9) (oi := ?o_k) (v := ?v_k) ?i_k (by kernel_rfl) (by kernel_rfl) (by kernel_rfl) (fun _ _ _ h => h) (Or.inl ⟨?g_k, ?y_k⟩) hS ?_
     case i_k => simp only [layG]; rfl
     case g_k => rfl
     case y_k => (intro w hSw; have u0 : w.cell? ⟨b2, o2 + j * 9, none⟩ = some (.string (txt a'.name)) := hSw.2.2.2 0 _ rfl; have u1 := hSw.2.2.2 1 _ rfl; have u2 := hSw.2.2.2 2 _ rfl; have u3 := hSw.2.2.2 3 _ rfl; have u4 := hSw.2.2.2 4 _ rfl; have u5 := hSw.2.2.2 5 _ rfl; have u6 := hSw.2.2.2 6 _ rfl; have u7 := hSw.2.2.2 7 _ rfl; have u8 := hSw.2.2.2 8 _ rfl; (go_simp <;> with_reducible rfl))
     (try simp only [Act.put, layS])
     refine wpAnyH_ready (rs := [10]) (by kernel_rfl) (by simp) ?_
     refine (AllReadyH.cons (o := ?o_l) ?i_l (fun K hK => ?st_l) AllReadyH.nil)
     case i_l => simp only [layG]; rfl
     rw [if_pos (by rfl)]
     go_simp
     refine HI1.out.mono ?_
     rintro r w6 ⟨rfl, hb6⟩
     have HX6 := Lib.hid (HQ1.out.1.below hb6 HQ1.out.1.lt)
     have HY6 := Lib.hid (HQ1.out.2.1.below hb6 HQ1.out.2.1.lt)
     have HB6 := Lib.hid (HBd.out.trans (hb6.mono HBd.out.size))
     have HW6 := Lib.hid hb6
     clear hb6
     go_wp2_with fail
     refine hK.out _ _ ?s_l (fun hS => ?_)
     case s_l => (exact ⟨HX6.out, HY6.out, fun i u hu => (HW6.out.cell (p := ⟨b1, o1 + j * 9 + i, none⟩) (Nat.lt_of_lt_of_le HL.out.1 HBd.out.size)).trans (HQ1.out.2.2.1 i u hu), fun i u hu => (HW6.out.cell (p := ⟨b2, o2 + j * 9 + i, none⟩) (Nat.lt_of_lt_of_le HL.out.2 HBd.out.size)).trans (HQ1.out.2.2.2 i u hu)⟩)
     clear hK K
     (try simp only [Act.put, layS])
     refine wpAnyH_take (i := 11) (oi := ?o_m) (v := ?v_m) ?i_m (by kernel_rfl) (by kernel_rfl) (by kernel_rfl) (fun _ _ _ h => h) (Or.inl ⟨?g_m, ?y_m⟩) hS ?_
     case i_m => simp only [layG]; rfl
     case g_m => rfl
     case y_m => (intro w hSw; (go_simp <;> with_reducible rfl))
     (try simp only [Act.put, layS])
     refine wpAnyH_done (by kernel_rfl) ?_ _
     refine NoPanic.normal ?_
     clear hS q18
     go_wp2
     go_roundw
     case rel => exact ⟨j + 1, by omega, by go_num, HX6.out, HY6.out, HB6.out⟩
     case measure => simp [intOf]; omega
    ·obtain rfl : j = k.len := by omega
     have i2 : ¬ (k.len : Int) < (k.len : Int) := by omega
     clear hX hY hB hlt
     go_wp2
     go_ret
     exact ⟨rfl, HB.out⟩
end Go.Proofs.YtikmilcdibldhaaDoor
namespace Go.Proofs.YtikmilcdibldhaaDoor
open Go.RowKit
theorem NewSp.under {base : Nat} {w w' : World} {cs : List Value} {x : Sp} (h : NewSp base w cs x) (hb : Below w.heap.size w w') : NewSp base w' cs x := by
 obtain ⟨S, N, hS, hN, h⟩ := h
 exact ⟨S, N, fun g hg => (hS g hg).below hb, fun g hg => ⟨(hN g hg).1.below hb, (hN g hg).2⟩, h.under hb (fun g hg => (hS g hg).lt) (fun g hg => (hN g hg).1.lt)⟩
theorem NewSp.shape {base : Nat} {w : World} {cs : List Value} {x : Sp} (h : NewSp base w cs x) : ∃ B m A c, cs = [.string (txt x.1.name), .int .i64 (x.1.kind : Int), .int .i64 (x.1.typ : Int), .int .u64 (x.1.low : Int), .int .u64 (x.1.high : Int), .slice B x.1.names.length m, .bool x.1.must, .int .i64 (x.1.most : Int), .slice A x.2.len c] := by
 obtain ⟨S, N, hS, hN, h⟩ := h
 obtain ⟨B, m, A, c, d, e, _⟩ := h.shape
 exact ⟨B, m, A, c, e⟩
end Go.Proofs.YtikmilcdibldhaaDoor
namespace Go.Proofs.YtikmilcdibldhaaDoor
open Go.RowKit
def Lies (w : World) (cs : List Value) (x : Sp) : Prop := ∃ S N, (∀ g, S g → g < w.heap.size) ∧ (∀ g, N g → g < w.heap.size) ∧ SpN w S N cs x
theorem Lies.below {w w' : World} {cs : List Value} {x : Sp} (h : Lies w cs x) (hb : Below w.heap.size w w') : Lies w' cs x := by
 obtain ⟨S, N, hS, hN, h⟩ := h
 exact ⟨S, N, fun g hg => Nat.lt_of_lt_of_le (hS g hg) hb.size, fun g hg => Nat.lt_of_lt_of_le (hN g hg) hb.size, h.under hb hS hN⟩
theorem Lies.shape {w : World} {cs : List Value} {x : Sp} (h : Lies w cs x) : ∃ B m A c, cs = [.string (txt x.1.name), .int .i64 (x.1.kind : Int), .int .i64 (x.1.typ : Int), .int .u64 (x.1.low : Int), .int .u64 (x.1.high : Int), .slice B x.1.names.length m, .bool x.1.must, .int .i64 (x.1.most : Int), .slice A x.2.len c] := by
 obtain ⟨S, N, hS, hN, h⟩ := h
 obtain ⟨B, m, A, c, d, e, _⟩ := h.shape
 exact ⟨B, m, A, c, e⟩
theorem NewSp.lies {base : Nat} {w : World} {cs : List Value} {x : Sp} (h : NewSp base w cs x) : Lies w cs x := by
 obtain ⟨S, N, hS, hN, h⟩ := h
 exact ⟨S, N, fun g hg => (hS g hg).lt, fun g hg => (hN g hg).1.lt, h⟩
def Few (x : Sp) : Prop := x.2.size ≤ 1000 ∧ x.1.names.length ≤ 3 ∧ x.2.len ≤ 7 ∧ ∀ y ∈ inner x.2, y.1.names.length ≤ 3
def fewB (x : Sp) : Bool := decide (x.2.size ≤ 1000) && decide (x.1.names.length ≤ 3) && decide (x.2.len ≤ 7) && (inner x.2).all fun y => decide (y.1.names.length ≤ 3)
theorem few_iff {x : Sp} (h : fewB x = true) : Few x := by
 unfold fewB at h
 simp only [Bool.and_eq_true, decide_eq_true_eq, List.all_eq_true] at h
 exact ⟨h.1.1.1, h.1.1.2, h.1.2, h.2⟩
theorem all_few : (([1, 2, 3] : List Nat).all fun v => ((rootD, rootF v) :: inner (rootF v)).all fewB) = true := by decide
theorem zero_few : Few (zeroD, .nil) := few_iff (by decide)
theorem few_in {v : Int} {x : Sp} (h1 : 1 ≤ v) (h2 : v ≤ 3) (h : x = (rootD, rootF v.toNat) ∨ x ∈ inner (rootF v.toNat)) : Few x := by
 have hv : v.toNat ∈ ([1, 2, 3] : List Nat) := by
  have : v.toNat = 1 ∨ v.toNat = 2 ∨ v.toNat = 3 := by omega
  simpa using this
 have h3 := List.all_eq_true.1 (List.all_eq_true.1 all_few _ hv)
 rcases h with rfl | h
 ·exact few_iff (h3 _ (by simp))
 ·exact few_iff (h3 _ (by simp [h]))
theorem same_l {w : World} {cs cs' : List Value} {x : Sp} (h : Lies w cs x) (h' : Lies w cs' x) (hf : Few x) : Calls Tryd.prog 15 #[.agg cs.toArray, .agg cs'.toArray] w (AnsP (.bool true) w) := by
 obtain ⟨S, N, hS, hN, h⟩ := h
 obtain ⟨S', N', hS', hN', h'⟩ := h'
 exact rsame_any x.2 x.1 cs cs' w S N S' N' h h' hS hN hS' hN' (Nat.le_trans hf.1 (by omega)) (Nat.le_trans hf.2.1 (by omega)) (fun y hy => Nat.le_trans (hf.2.2.2 y hy) (by omega))
theorem find_c {W0 : World} (C : FindC W0) {w : World} {cs : List Value} {x : Sp} (n : List UInt8) (hw : Below W0.heap.size W0 w) (h : Lies w cs x) (hf : Few x) : Calls Tryd.prog 19 #[.agg cs.toArray, .string (txt n)] w (AnsP (.int .i64 (findI n x.2)) w) := by
 obtain ⟨S, N, hS, hN, h⟩ := h
 exact C n S N cs x w h hS (Nat.le_trans hf.2.2.1 (by omega)) hw
def LieSp (x : Sp × Nat) (w : World) (r : Ending) (w' : World) : Prop := ∃ cs, r = .returned (.tuple #[.agg cs.toArray, .int .i64 (x.2 : Int)]) ∧ Lies w' cs x.1 ∧ Below w.heap.size w w'
theorem RSpP.lie {x : Sp × Nat} {w : World} {r : Ending} {w' : World} (h : RSpP x w r w') : LieSp x w r w' := by
 obtain ⟨cs, e, h, hb⟩ := h
 exact ⟨cs, e, ⟨_, _, fun g hg => hg.2, fun g hg => hg.2, h⟩, hb⟩
theorem SpP.lie {x : Sp × Nat} {w : World} {r : Ending} {w' : World} (h : SpP x w r w') : LieSp x w r w' := by
 obtain ⟨cs, e, h, hb⟩ := h
 exact ⟨cs, e, h.lies, hb⟩
end Go.Proofs.YtikmilcdibldhaaDoor
