/- SpvFnJ -/
import Derived.Test.YtodlhgflfcadmaaGreatUM29
set_option linter.unusedSimpArgs false
set_option linter.unusedVariables false
set_option maxRecDepth 100000
set_option maxHeartbeats 8000000
namespace Go.Proofs.YtodlhgflfcadmaaGreat
open Go.RowKit
theorem NewX.sp {base : Nat} {w : World} {cs : List Value} {x : Sp} (h : NewX base w cs x) : NewSp base w cs x := h.new
theorem root_no (v : Int) (h1 : v ≠ 1) (h2 : v ≠ 2) (h3 : v ≠ 3) (w : World) : Calls Tryz.prog 25 #[.int .i64 v] w (SpP (rootX v) w) := by
 have HX : Hid (rootX v = ((zeroD, .nil), 28)) := hHd (by unfold rootX; rw [if_pos (by omega)])
 have e1 : (v == 1) = false := beq_eq_false_iff_ne.2 h1
 have e2 : (v == 2) = false := beq_eq_false_iff_ne.2 h2
 have e3 : (v == 3) = false := beq_eq_false_iff_ne.2 h3
 clear h1 h2 h3
 go_enter Tryz.func25, Tryz.ntmps25
 go_wp2
 refine bodyPost_ret (res_cell_tmp rfl _ _ w.heap.size 61 _ (0, 0) _ rfl (heap_alloc_new w _) Tryz.underlying61 rfl (by kernel_rfl)) rfl ?_
 exact ⟨spC zeroD (.slice none 0 0) (.slice none 0 0), by rw [HX.out]; rfl, by rw [HX.out]; exact ⟨fun _ => False, fun _ => False, fun g h => h.elim, fun g h => h.elim, leaf_n rfl⟩, bAl⟩
theorem root_1 (w : World) : Calls Tryz.prog 25 #[.int .i64 1] w (SpP (rootX 1) w) := by
 have HX : Hid (rootX 1 = ((rootD, rootF 1), 0)) := hHd rfl
 have H0 : Hid (Below w.heap.size w (w.alloc (.cells (cS ⟨#[]⟩ 0 0 0 0 (.slice none 0 0) false 0 (.slice none 0 0)) 61))) := hHd bAl
 have R0 : Hid (Blk (w.alloc (.cells (cS ⟨#[]⟩ 0 0 0 0 (.slice none 0 0) false 0 (.slice none 0 0)) 61)) w.heap.size 61 (cS ⟨#[]⟩ 0 0 0 0 (.slice none 0 0) false 0 (.slice none 0 0))) := hHd (Blk.new w _ _)
 have S0 : Hid ((w.alloc (.cells (cS ⟨#[]⟩ 0 0 0 0 (.slice none 0 0) false 0 (.slice none 0 0)) 61)).heap.size = w.heap.size + 1) := hHd (by simp)
 have NF : Hid (Calls Tryz.prog 39 #[] (w.alloc (.cells (cS ⟨#[]⟩ 0 0 0 0 (.slice none 0 0) false 0 (.slice none 0 0)) 61)) (NewXP (rootD, rootF 1) (w.alloc (.cells (cS ⟨#[]⟩ 0 0 0 0 (.slice none 0 0) false 0 (.slice none 0 0)) 61)))) := hHd (first_any _)
 obtain ⟨x, hx⟩ : ∃ x : Sp, x = (rootD, rootF 1) := ⟨_, rfl⟩
 rw [← hx] at HX NF
 clear hx
 go_enter Tryz.func25, Tryz.ntmps25
 go_wp2_with fail
 refine NF.out.mono ?_
 rintro r w1 ⟨cs, rfl, hX, hB⟩
 obtain ⟨B, m, A, c, rfl⟩ := hX.shape
 have R1 := hHd (R0.out.below hB R0.out.lt)
 have RE : Hid (Blk (set9 w1 w.heap.size (.string (txt x.1.name)) (.int .i64 (x.1.kind : Int)) (.int .i64 (x.1.typ : Int)) (.int .u64 (x.1.low : Int)) (.int .u64 (x.1.high : Int)) (.slice B x.1.names.length m) (.bool x.1.must) (.int .i64 (x.1.most : Int)) (.slice A x.2.len c)) w.heap.size 61 (cT x.1.name x.1.kind x.1.typ x.1.low x.1.high x.1.names x.1.must x.1.most B m A x.2.len c)) := hHd (R1.out.set9 _ _ _ _ _ _ _ _ _)
 have HE : Hid (Below w.heap.size w (set9 w1 w.heap.size (.string (txt x.1.name)) (.int .i64 (x.1.kind : Int)) (.int .i64 (x.1.typ : Int)) (.int .u64 (x.1.low : Int)) (.int .u64 (x.1.high : Int)) (.slice B x.1.names.length m) (.bool x.1.must) (.int .i64 (x.1.most : Int)) (.slice A x.2.len c))) := hHd ((H0.out.trans (hB.mono H0.out.size)).trans (set9_below (Nat.le_refl _)))
 have XE : Hid (NewSp w.heap.size (set9 w1 w.heap.size (.string (txt x.1.name)) (.int .i64 (x.1.kind : Int)) (.int .i64 (x.1.typ : Int)) (.int .u64 (x.1.low : Int)) (.int .u64 (x.1.high : Int)) (.slice B x.1.names.length m) (.bool x.1.must) (.int .i64 (x.1.most : Int)) (.slice A x.2.len c)) [.string (txt x.1.name), .int .i64 (x.1.kind : Int), .int .i64 (x.1.typ : Int), .int .u64 (x.1.low : Int), .int .u64 (x.1.high : Int), .slice B x.1.names.length m, .bool x.1.must, .int .i64 (x.1.most : Int), .slice A x.2.len c] x) := hHd (((hX.set9 (by rw [S0.out]; omega) _ _ _ _ _ _ _ _ _).mono H0.out.size).sp)
 have f0 : w1.frozen? ⟨w.heap.size, 0, none⟩ = false := R1.out.frozen 0
 have q0 := (R1.out.cell 0).trans rfl
 have f1 : w1.frozen? ⟨w.heap.size, 1, none⟩ = false := R1.out.frozen 1
 have q1 := (R1.out.cell 1).trans rfl
 have f2 : w1.frozen? ⟨w.heap.size, 2, none⟩ = false := R1.out.frozen 2
 have q2 := (R1.out.cell 2).trans rfl
 have f3 : w1.frozen? ⟨w.heap.size, 3, none⟩ = false := R1.out.frozen 3
 have q3 := (R1.out.cell 3).trans rfl
 have f4 : w1.frozen? ⟨w.heap.size, 4, none⟩ = false := R1.out.frozen 4
 have q4 := (R1.out.cell 4).trans rfl
 have f5 : w1.frozen? ⟨w.heap.size, 5, none⟩ = false := R1.out.frozen 5
 have q5 := (R1.out.cell 5).trans rfl
 have f6 : w1.frozen? ⟨w.heap.size, 6, none⟩ = false := R1.out.frozen 6
 have q6 := (R1.out.cell 6).trans rfl
 have f7 : w1.frozen? ⟨w.heap.size, 7, none⟩ = false := R1.out.frozen 7
 have q7 := (R1.out.cell 7).trans rfl
 have f8 : w1.frozen? ⟨w.heap.size, 8, none⟩ = false := R1.out.frozen 8
 have q8 := (R1.out.cell 8).trans rfl
 clear hX hB R0 H0 NF R1
 go_wp2
 refine bodyPost_ret (res_cell_tmp rfl _ _ w.heap.size 61 _ (0, 0) _ rfl RE.out Tryz.underlying61 rfl (by kernel_rfl)) rfl ?_
 exact ⟨_, by rw [HX.out]; rfl, by rw [HX.out]; exact XE.out, HE.out⟩
theorem root_2 (w : World) : Calls Tryz.prog 25 #[.int .i64 2] w (SpP (rootX 2) w) := by
 have HX : Hid (rootX 2 = ((rootD, rootF 2), 0)) := hHd rfl
 have H0 : Hid (Below w.heap.size w (w.alloc (.cells (cS ⟨#[]⟩ 0 0 0 0 (.slice none 0 0) false 0 (.slice none 0 0)) 61))) := hHd bAl
 have R0 : Hid (Blk (w.alloc (.cells (cS ⟨#[]⟩ 0 0 0 0 (.slice none 0 0) false 0 (.slice none 0 0)) 61)) w.heap.size 61 (cS ⟨#[]⟩ 0 0 0 0 (.slice none 0 0) false 0 (.slice none 0 0))) := hHd (Blk.new w _ _)
 have S0 : Hid ((w.alloc (.cells (cS ⟨#[]⟩ 0 0 0 0 (.slice none 0 0) false 0 (.slice none 0 0)) 61)).heap.size = w.heap.size + 1) := hHd (by simp)
 have NF : Hid (Calls Tryz.prog 40 #[] (w.alloc (.cells (cS ⟨#[]⟩ 0 0 0 0 (.slice none 0 0) false 0 (.slice none 0 0)) 61)) (NewXP (rootD, rootF 2) (w.alloc (.cells (cS ⟨#[]⟩ 0 0 0 0 (.slice none 0 0) false 0 (.slice none 0 0)) 61)))) := hHd (second_any _)
 obtain ⟨x, hx⟩ : ∃ x : Sp, x = (rootD, rootF 2) := ⟨_, rfl⟩
 rw [← hx] at HX NF
 clear hx
 go_enter Tryz.func25, Tryz.ntmps25
 go_wp2_with fail
 refine NF.out.mono ?_
 rintro r w1 ⟨cs, rfl, hX, hB⟩
 obtain ⟨B, m, A, c, rfl⟩ := hX.shape
 have R1 := hHd (R0.out.below hB R0.out.lt)
 have RE : Hid (Blk (set9 w1 w.heap.size (.string (txt x.1.name)) (.int .i64 (x.1.kind : Int)) (.int .i64 (x.1.typ : Int)) (.int .u64 (x.1.low : Int)) (.int .u64 (x.1.high : Int)) (.slice B x.1.names.length m) (.bool x.1.must) (.int .i64 (x.1.most : Int)) (.slice A x.2.len c)) w.heap.size 61 (cT x.1.name x.1.kind x.1.typ x.1.low x.1.high x.1.names x.1.must x.1.most B m A x.2.len c)) := hHd (R1.out.set9 _ _ _ _ _ _ _ _ _)
 have HE : Hid (Below w.heap.size w (set9 w1 w.heap.size (.string (txt x.1.name)) (.int .i64 (x.1.kind : Int)) (.int .i64 (x.1.typ : Int)) (.int .u64 (x.1.low : Int)) (.int .u64 (x.1.high : Int)) (.slice B x.1.names.length m) (.bool x.1.must) (.int .i64 (x.1.most : Int)) (.slice A x.2.len c))) := hHd ((H0.out.trans (hB.mono H0.out.size)).trans (set9_below (Nat.le_refl _)))
 have XE : Hid (NewSp w.heap.size (set9 w1 w.heap.size (.string (txt x.1.name)) (.int .i64 (x.1.kind : Int)) (.int .i64 (x.1.typ : Int)) (.int .u64 (x.1.low : Int)) (.int .u64 (x.1.high : Int)) (.slice B x.1.names.length m) (.bool x.1.must) (.int .i64 (x.1.most : Int)) (.slice A x.2.len c)) [.string (txt x.1.name), .int .i64 (x.1.kind : Int), .int .i64 (x.1.typ : Int), .int .u64 (x.1.low : Int), .int .u64 (x.1.high : Int), .slice B x.1.names.length m, .bool x.1.must, .int .i64 (x.1.most : Int), .slice A x.2.len c] x) := hHd (((hX.set9 (by rw [S0.out]; omega) _ _ _ _ _ _ _ _ _).mono H0.out.size).sp)
 have f0 : w1.frozen? ⟨w.heap.size, 0, none⟩ = false := R1.out.frozen 0
 have q0 := (R1.out.cell 0).trans rfl
 have f1 : w1.frozen? ⟨w.heap.size, 1, none⟩ = false := R1.out.frozen 1
 have q1 := (R1.out.cell 1).trans rfl
 have f2 : w1.frozen? ⟨w.heap.size, 2, none⟩ = false := R1.out.frozen 2
 have q2 := (R1.out.cell 2).trans rfl
 have f3 : w1.frozen? ⟨w.heap.size, 3, none⟩ = false := R1.out.frozen 3
 have q3 := (R1.out.cell 3).trans rfl
 have f4 : w1.frozen? ⟨w.heap.size, 4, none⟩ = false := R1.out.frozen 4
 have q4 := (R1.out.cell 4).trans rfl
 have f5 : w1.frozen? ⟨w.heap.size, 5, none⟩ = false := R1.out.frozen 5
 have q5 := (R1.out.cell 5).trans rfl
 have f6 : w1.frozen? ⟨w.heap.size, 6, none⟩ = false := R1.out.frozen 6
 have q6 := (R1.out.cell 6).trans rfl
 have f7 : w1.frozen? ⟨w.heap.size, 7, none⟩ = false := R1.out.frozen 7
 have q7 := (R1.out.cell 7).trans rfl
 have f8 : w1.frozen? ⟨w.heap.size, 8, none⟩ = false := R1.out.frozen 8
 have q8 := (R1.out.cell 8).trans rfl
 clear hX hB R0 H0 NF R1
 go_wp2
 refine bodyPost_ret (res_cell_tmp rfl _ _ w.heap.size 61 _ (0, 0) _ rfl RE.out Tryz.underlying61 rfl (by kernel_rfl)) rfl ?_
 exact ⟨_, by rw [HX.out]; rfl, by rw [HX.out]; exact XE.out, HE.out⟩
theorem root_3 (w : World) : Calls Tryz.prog 25 #[.int .i64 3] w (SpP (rootX 3) w) := by
 have HX : Hid (rootX 3 = ((rootD, rootF 3), 0)) := hHd rfl
 have H0 : Hid (Below w.heap.size w (w.alloc (.cells (cS ⟨#[]⟩ 0 0 0 0 (.slice none 0 0) false 0 (.slice none 0 0)) 61))) := hHd bAl
 have R0 : Hid (Blk (w.alloc (.cells (cS ⟨#[]⟩ 0 0 0 0 (.slice none 0 0) false 0 (.slice none 0 0)) 61)) w.heap.size 61 (cS ⟨#[]⟩ 0 0 0 0 (.slice none 0 0) false 0 (.slice none 0 0))) := hHd (Blk.new w _ _)
 have S0 : Hid ((w.alloc (.cells (cS ⟨#[]⟩ 0 0 0 0 (.slice none 0 0) false 0 (.slice none 0 0)) 61)).heap.size = w.heap.size + 1) := hHd (by simp)
 have NF : Hid (Calls Tryz.prog 41 #[] (w.alloc (.cells (cS ⟨#[]⟩ 0 0 0 0 (.slice none 0 0) false 0 (.slice none 0 0)) 61)) (NewXP (rootD, rootF 3) (w.alloc (.cells (cS ⟨#[]⟩ 0 0 0 0 (.slice none 0 0) false 0 (.slice none 0 0)) 61)))) := hHd (third_any _)
 obtain ⟨x, hx⟩ : ∃ x : Sp, x = (rootD, rootF 3) := ⟨_, rfl⟩
 rw [← hx] at HX NF
 clear hx
 go_enter Tryz.func25, Tryz.ntmps25
 go_wp2_with fail
 refine NF.out.mono ?_
 rintro r w1 ⟨cs, rfl, hX, hB⟩
 obtain ⟨B, m, A, c, rfl⟩ := hX.shape
 have R1 := hHd (R0.out.below hB R0.out.lt)
 have RE : Hid (Blk (set9 w1 w.heap.size (.string (txt x.1.name)) (.int .i64 (x.1.kind : Int)) (.int .i64 (x.1.typ : Int)) (.int .u64 (x.1.low : Int)) (.int .u64 (x.1.high : Int)) (.slice B x.1.names.length m) (.bool x.1.must) (.int .i64 (x.1.most : Int)) (.slice A x.2.len c)) w.heap.size 61 (cT x.1.name x.1.kind x.1.typ x.1.low x.1.high x.1.names x.1.must x.1.most B m A x.2.len c)) := hHd (R1.out.set9 _ _ _ _ _ _ _ _ _)
 have HE : Hid (Below w.heap.size w (set9 w1 w.heap.size (.string (txt x.1.name)) (.int .i64 (x.1.kind : Int)) (.int .i64 (x.1.typ : Int)) (.int .u64 (x.1.low : Int)) (.int .u64 (x.1.high : Int)) (.slice B x.1.names.length m) (.bool x.1.must) (.int .i64 (x.1.most : Int)) (.slice A x.2.len c))) := hHd ((H0.out.trans (hB.mono H0.out.size)).trans (set9_below (Nat.le_refl _)))
 have XE : Hid (NewSp w.heap.size (set9 w1 w.heap.size (.string (txt x.1.name)) (.int .i64 (x.1.kind : Int)) (.int .i64 (x.1.typ : Int)) (.int .u64 (x.1.low : Int)) (.int .u64 (x.1.high : Int)) (.slice B x.1.names.length m) (.bool x.1.must) (.int .i64 (x.1.most : Int)) (.slice A x.2.len c)) [.string (txt x.1.name), .int .i64 (x.1.kind : Int), .int .i64 (x.1.typ : Int), .int .u64 (x.1.low : Int), .int .u64 (x.1.high : Int), .slice B x.1.names.length m, .bool x.1.must, .int .i64 (x.1.most : Int), .slice A x.2.len c] x) := hHd (((hX.set9 (by rw [S0.out]; omega) _ _ _ _ _ _ _ _ _).mono H0.out.size).sp)
 have f0 : w1.frozen? ⟨w.heap.size, 0, none⟩ = false := R1.out.frozen 0
 have q0 := (R1.out.cell 0).trans rfl
 have f1 : w1.frozen? ⟨w.heap.size, 1, none⟩ = false := R1.out.frozen 1
 have q1 := (R1.out.cell 1).trans rfl
 have f2 : w1.frozen? ⟨w.heap.size, 2, none⟩ = false := R1.out.frozen 2
 have q2 := (R1.out.cell 2).trans rfl
 have f3 : w1.frozen? ⟨w.heap.size, 3, none⟩ = false := R1.out.frozen 3
 have q3 := (R1.out.cell 3).trans rfl
 have f4 : w1.frozen? ⟨w.heap.size, 4, none⟩ = false := R1.out.frozen 4
 have q4 := (R1.out.cell 4).trans rfl
 have f5 : w1.frozen? ⟨w.heap.size, 5, none⟩ = false := R1.out.frozen 5
 have q5 := (R1.out.cell 5).trans rfl
 have f6 : w1.frozen? ⟨w.heap.size, 6, none⟩ = false := R1.out.frozen 6
 have q6 := (R1.out.cell 6).trans rfl
 have f7 : w1.frozen? ⟨w.heap.size, 7, none⟩ = false := R1.out.frozen 7
 have q7 := (R1.out.cell 7).trans rfl
 have f8 : w1.frozen? ⟨w.heap.size, 8, none⟩ = false := R1.out.frozen 8
 have q8 := (R1.out.cell 8).trans rfl
 clear hX hB R0 H0 NF R1
 go_wp2
 refine bodyPost_ret (res_cell_tmp rfl _ _ w.heap.size 61 _ (0, 0) _ rfl RE.out Tryz.underlying61 rfl (by kernel_rfl)) rfl ?_
 exact ⟨_, by rw [HX.out]; rfl, by rw [HX.out]; exact XE.out, HE.out⟩
theorem root_any (v : Int) (w : World) : Calls Tryz.prog 25 #[.int .i64 v] w (SpP (rootX v) w) := by
 by_cases h1 : v = 1
 ·subst h1; exact root_1 w
 by_cases h2 : v = 2
 ·subst h2; exact root_2 w
 by_cases h3 : v = 3
 ·subst h3; exact root_3 w
 exact root_no v h1 h2 h3 w
theorem tag_any (i : Int) (S N : Nat → Prop) (cs : List Value) (x : Sp) (w : World) (h0 : -9223372036854775808 ≤ i) (h1 : i ≤ 9223372036854775807) (hx : SpN w S N cs x) (hS : ∀ g, S g → g < w.heap.size) (hl : x.2.len ≤ 1000000) :
  Calls Tryz.prog 43 #[.agg cs.toArray, .int .i64 i] w (AnsP (.int .u64 (tagX x.2 i : Int)) w) := by
 obtain ⟨B, m, A, c, d, rfl, -, -, hk⟩ := hx.shape
 have hB : Below w.heap.size w (w.alloc (.cells (cT x.1.name x.1.kind x.1.typ x.1.low x.1.high x.1.names x.1.must x.1.most B m A x.2.len c) 61)) := bAl
 have HB := hHd hB
 have HK := hHd hk
 clear hk hx hB
 by_cases hneg : i < 0
 ·have HV : Hid (((tagX x.2 i : Nat) : Int) = 0) := hHd (by rw [tag_low _ hneg]; rfl)
  go_enter Tryz.func43, Tryz.ntmps43
  go_wp2
  go_ret
  exact ⟨by rw [HV.out]; rfl, HB.out⟩
 obtain ⟨k, rfl⟩ : ∃ k : Nat, i = (k : Int) := ⟨i.toNat, by omega⟩
 by_cases hlt : k < x.2.len
 ·obtain ⟨a, q, hg⟩ := Fr.get_some hlt
  obtain ⟨b, o, c', cs', e, -, hSb, hN, hcl⟩ := HK.out.at hg
  injection e with e1 e2 e3
  subst e1 e3
  obtain ⟨B', m', A', c'', d', rfl, -, -, -⟩ := SpN.shape (x := (a, q)) hN
  have i1 : (0 : Int) ≤ (k : Int) := by omega
  have i2 : (k : Int) < (x.2.len : Int) := by omega
  have i4 : ¬ (x.2.len : Int) ≤ (k : Int) := by omega
  have i3 : (k : Int) ≤ 1000000 := by omega
  have q0 : (w.alloc (.cells (cS (txt x.1.name) x.1.kind x.1.typ x.1.low x.1.high (.slice B x.1.names.length m) x.1.must x.1.most (.slice (some ⟨b, o, none⟩) x.2.len c)) 61)).cell? ⟨b, o + k * 9 + 1, none⟩ = some (.int .i64 (a.kind : Int)) := (HB.out.cell (p := ⟨b, o + k * 9 + 1, none⟩) (hS b hSb)).trans (hcl 1 _ rfl)
  have HT := hHd (tag_in hg)
  clear hcl hN hg e2 hSb
  by_cases hn : a.kind = 1
  ·have n1 : ((a.kind : Int) == 1) = true := by rw [hn]; rfl
   have n2 : ((a.kind : Int) != 1) = false := by rw [hn]; rfl
   have HV : Hid (((tagX x.2 (k : Int) : Nat) : Int) = 2 * ((k : Int) + 1)) := hHd (by rw [HT.out, if_pos hn]; omega)
   clear hn HT
   go_enter Tryz.func43, Tryz.ntmps43
   go_wp2
   go_ret
   exact ⟨by rw [HV.out]; rfl, HB.out⟩
  ·have n1 : ((a.kind : Int) == 1) = false := beq_eq_false_iff_ne.2 (by omega)
   have n2 : ((a.kind : Int) != 1) = true := by unfold bne; rw [n1]; rfl
   have HV : Hid (((tagX x.2 (k : Int) : Nat) : Int) = 2 * ((k : Int) + 1) + 1) := hHd (by rw [HT.out, if_neg hn]; omega)
   clear hn HT
   go_enter Tryz.func43, Tryz.ntmps43
   go_wp2
   go_ret
   exact ⟨by rw [HV.out]; rfl, HB.out⟩
 ·have HV : Hid (((tagX x.2 (k : Int) : Nat) : Int) = 0) := hHd (by rw [tag_high _ (by omega)]; rfl)
  have i4 : (x.2.len : Int) ≤ (k : Int) := by omega
  clear hlt
  go_enter Tryz.func43, Tryz.ntmps43
  go_wp2
  go_ret
  exact ⟨by rw [HV.out]; rfl, HB.out⟩
end Go.Proofs.YtodlhgflfcadmaaGreat
