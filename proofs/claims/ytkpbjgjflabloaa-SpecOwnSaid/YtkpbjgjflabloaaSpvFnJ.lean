/-
  What package spec's Root, Tag and Kid answer. Written by wip/tools/mk07spv.py. No condition but those of each theorem.
-/
import Derived.Test.YtkpbjgjflabloaaSpvFnI
namespace Go.Proofs.Ytkpbjgjflabloaa
open Go.RowKit
set_option linter.unusedSimpArgs false
set_option linter.unusedVariables false

theorem SpcD.lim {w : World} {N : Nat → Prop} {cs : List Value} {a : SpD} (h : SpcD w N cs a) : SpcD w (fun g => N g ∧ g < w.heap.size) cs a := by
  obtain ⟨nv, kv, d, h1, h2, h3, h4⟩ := h
  refine ⟨nv, kv, d, h1, h2, fun h0 => ⟨h3 h0, ?_⟩, h4⟩
  obtain ⟨A, c, _, _, h5⟩ := h2
  exact (h5 (by rw [txts_len]; exact h0)).1
theorem FrAt.lim {w : World} {S N : Nat → Prop} : ∀ {f : SpF} {b o : Nat}, FrAt SpcD 9 8 w S N f b o → FrAt SpcD 9 8 w S (fun g => N g ∧ g < w.heap.size) f b o := by
  intro f
  induction f with
  | nil => intro b o _; trivial
  | cons a k r ihk ihr =>
    intro b o ⟨⟨cs, h1, h2, h3, A, c, h4, h5, h6⟩, h7⟩
    refine ⟨⟨cs, h1, h2, h3.lim, A, c, h4, h5, fun h0 => ?_⟩, ihr h7⟩
    obtain ⟨b', o', h8, h9, h10⟩ := h6 h0
    exact ⟨b', o', h8, h9, ihk h10⟩
theorem SpN.lim {w : World} {S N : Nat → Prop} {cs : List Value} {x : Sp} (h : SpN w S N cs x) : SpN w S (fun g => N g ∧ g < w.heap.size) cs x := by
  obtain ⟨h1, h2, v, h3, A, c, h4, h5, h6⟩ := h
  refine ⟨h1, h2.lim, v, h3, A, c, h4, h5, fun h0 => ?_⟩
  obtain ⟨b, o, h7, h8, h9⟩ := h6 h0
  exact ⟨b, o, h7, h8, h9.lim⟩
theorem findC (W0 : World) : FindC W0 := fun n S N cs x w hx hS hl _ => find_any n S _ cs x w hx.lim hS (fun g hg => hg.2) hl
theorem NewX.sp {base : Nat} {w : World} {cs : List Value} {x : Sp} (h : NewX base w cs x) : NewSp base w cs x := h.new
set_option maxRecDepth 100000 in
set_option maxHeartbeats 1000000 in
theorem root_no (v : Int) (h1 : v ≠ 1) (h2 : v ≠ 2) (h3 : v ≠ 3) (w : World) : Calls Try.prog 8 #[.int .i64 v] w (SpP (rootX v) w) := by
  have HX : Hid (rootX v = ((zeroD, .nil), 28)) := Lib.hid (by unfold rootX; rw [if_pos (by omega)])
  have e1 : (v == 1) = false := beq_eq_false_iff_ne.2 h1
  have e2 : (v == 2) = false := beq_eq_false_iff_ne.2 h2
  have e3 : (v == 3) = false := beq_eq_false_iff_ne.2 h3
  clear h1 h2 h3
  go_enter Try.func8, Try.ntmps8
  go_wp2
  refine bodyPost_ret (res_cell_tmp rfl _ _ w.heap.size 27 _ (0, 0) _ rfl (heap_alloc_new w _) Try.underlying27 rfl (by kernel_rfl)) rfl ?_
  exact ⟨spC zeroD (.slice none 0 0) (.slice none 0 0), by rw [HX.out]; rfl, by rw [HX.out]; exact ⟨fun _ => False, fun _ => False, fun g h => h.elim, fun g h => h.elim, leaf_n rfl⟩, (Below.refl _ _).alloc (Nat.le_refl _) _⟩
set_option maxRecDepth 100000 in
set_option maxHeartbeats 2000000 in
theorem root_1 (w : World) : Calls Try.prog 8 #[.int .i64 1] w (SpP (rootX 1) w) := by
  have HX : Hid (rootX 1 = ((rootD, rootF 1), 0)) := Lib.hid rfl
  have H0 : Hid (Below w.heap.size w (w.alloc (.cells #[.string ⟨#[]⟩, .int .i64 0, .int .i64 0, .int .u64 0, .int .u64 0, .slice none 0 0, .bool false, .int .i64 0, .slice none 0 0] 27))) := Lib.hid ((Below.refl _ _).alloc (Nat.le_refl _) _)
  have R0 : Hid (Blk (w.alloc (.cells #[.string ⟨#[]⟩, .int .i64 0, .int .i64 0, .int .u64 0, .int .u64 0, .slice none 0 0, .bool false, .int .i64 0, .slice none 0 0] 27)) w.heap.size 27 #[.string ⟨#[]⟩, .int .i64 0, .int .i64 0, .int .u64 0, .int .u64 0, .slice none 0 0, .bool false, .int .i64 0, .slice none 0 0]) := Lib.hid (Blk.new w _ _)
  have S0 : Hid ((w.alloc (.cells #[.string ⟨#[]⟩, .int .i64 0, .int .i64 0, .int .u64 0, .int .u64 0, .slice none 0 0, .bool false, .int .i64 0, .slice none 0 0] 27)).heap.size = w.heap.size + 1) := Lib.hid (by simp)
  have NF : Hid (Calls Try.prog 20 #[] (w.alloc (.cells #[.string ⟨#[]⟩, .int .i64 0, .int .i64 0, .int .u64 0, .int .u64 0, .slice none 0 0, .bool false, .int .i64 0, .slice none 0 0] 27)) (NewXP (rootD, rootF 1) (w.alloc (.cells #[.string ⟨#[]⟩, .int .i64 0, .int .i64 0, .int .u64 0, .int .u64 0, .slice none 0 0, .bool false, .int .i64 0, .slice none 0 0] 27)))) := Lib.hid (first_any _)
  obtain ⟨x, hx⟩ : ∃ x : Sp, x = (rootD, rootF 1) := ⟨_, rfl⟩
  rw [← hx] at HX NF
  clear hx
  go_enter Try.func8, Try.ntmps8
  go_wp2_with fail
  refine NF.out.mono ?_
  rintro r w1 ⟨cs, rfl, hX, hB⟩
  obtain ⟨B, m, A, c, rfl⟩ := hX.shape
  have R1 := Lib.hid (R0.out.below hB R0.out.lt)
  have RE : Hid (Blk (set9 w1 w.heap.size (.string (txt x.1.name)) (.int .i64 (x.1.kind : Int)) (.int .i64 (x.1.typ : Int)) (.int .u64 (x.1.low : Int)) (.int .u64 (x.1.high : Int)) (.slice B x.1.names.length m) (.bool x.1.must) (.int .i64 (x.1.most : Int)) (.slice A x.2.len c)) w.heap.size 27 #[.string (txt x.1.name), .int .i64 (x.1.kind : Int), .int .i64 (x.1.typ : Int), .int .u64 (x.1.low : Int), .int .u64 (x.1.high : Int), .slice B x.1.names.length m, .bool x.1.must, .int .i64 (x.1.most : Int), .slice A x.2.len c]) := Lib.hid (R1.out.set9 _ _ _ _ _ _ _ _ _)
  have HE : Hid (Below w.heap.size w (set9 w1 w.heap.size (.string (txt x.1.name)) (.int .i64 (x.1.kind : Int)) (.int .i64 (x.1.typ : Int)) (.int .u64 (x.1.low : Int)) (.int .u64 (x.1.high : Int)) (.slice B x.1.names.length m) (.bool x.1.must) (.int .i64 (x.1.most : Int)) (.slice A x.2.len c))) := Lib.hid ((H0.out.trans (hB.mono H0.out.size)).trans (set9_below (Nat.le_refl _)))
  have XE : Hid (NewSp w.heap.size (set9 w1 w.heap.size (.string (txt x.1.name)) (.int .i64 (x.1.kind : Int)) (.int .i64 (x.1.typ : Int)) (.int .u64 (x.1.low : Int)) (.int .u64 (x.1.high : Int)) (.slice B x.1.names.length m) (.bool x.1.must) (.int .i64 (x.1.most : Int)) (.slice A x.2.len c)) [.string (txt x.1.name), .int .i64 (x.1.kind : Int), .int .i64 (x.1.typ : Int), .int .u64 (x.1.low : Int), .int .u64 (x.1.high : Int), .slice B x.1.names.length m, .bool x.1.must, .int .i64 (x.1.most : Int), .slice A x.2.len c] x) := Lib.hid (((hX.set9 (by rw [S0.out]; omega) _ _ _ _ _ _ _ _ _).mono H0.out.size).sp)
  have f0 : w1.frozen? ⟨w.heap.size, 0, none⟩ = false := R1.out.frozen 0
  have q0 := (R1.out.cell 0).trans rfl
  have f1 : w1.frozen? ⟨w.heap.size, 1, none⟩ = false := R1.out.frozen 1
  have q1 := (R1.out.cell 1).trans rfl
  have f2 : w1.frozen? ⟨w.heap.size, 2, none⟩ = false := R1.out.frozen 2
  have q2 := (R1.out.cell 2).trans rfl
  have f3 : w1.frozen? ⟨w.heap.size, 3, none⟩ = false := R1.out.frozen 3
  have q3 := (R1.out.cell 3).trans rfl
  have f4 : w1.frozen? ⟨w.heap.size, 4, none⟩ = false := R1.out.frozen 4
  have q4 := (R1.out.cell 4).trans rfl
  have f5 : w1.frozen? ⟨w.heap.size, 5, none⟩ = false := R1.out.frozen 5
  have q5 := (R1.out.cell 5).trans rfl
  have f6 : w1.frozen? ⟨w.heap.size, 6, none⟩ = false := R1.out.frozen 6
  have q6 := (R1.out.cell 6).trans rfl
  have f7 : w1.frozen? ⟨w.heap.size, 7, none⟩ = false := R1.out.frozen 7
  have q7 := (R1.out.cell 7).trans rfl
  have f8 : w1.frozen? ⟨w.heap.size, 8, none⟩ = false := R1.out.frozen 8
  have q8 := (R1.out.cell 8).trans rfl
  clear hX hB R0 H0 NF R1
  go_wp2
  refine bodyPost_ret (res_cell_tmp rfl _ _ w.heap.size 27 _ (0, 0) _ rfl RE.out Try.underlying27 rfl (by kernel_rfl)) rfl ?_
  exact ⟨_, by rw [HX.out]; rfl, by rw [HX.out]; exact XE.out, HE.out⟩
set_option maxRecDepth 100000 in
set_option maxHeartbeats 2000000 in
theorem root_2 (w : World) : Calls Try.prog 8 #[.int .i64 2] w (SpP (rootX 2) w) := by
  have HX : Hid (rootX 2 = ((rootD, rootF 2), 0)) := Lib.hid rfl
  have H0 : Hid (Below w.heap.size w (w.alloc (.cells #[.string ⟨#[]⟩, .int .i64 0, .int .i64 0, .int .u64 0, .int .u64 0, .slice none 0 0, .bool false, .int .i64 0, .slice none 0 0] 27))) := Lib.hid ((Below.refl _ _).alloc (Nat.le_refl _) _)
  have R0 : Hid (Blk (w.alloc (.cells #[.string ⟨#[]⟩, .int .i64 0, .int .i64 0, .int .u64 0, .int .u64 0, .slice none 0 0, .bool false, .int .i64 0, .slice none 0 0] 27)) w.heap.size 27 #[.string ⟨#[]⟩, .int .i64 0, .int .i64 0, .int .u64 0, .int .u64 0, .slice none 0 0, .bool false, .int .i64 0, .slice none 0 0]) := Lib.hid (Blk.new w _ _)
  have S0 : Hid ((w.alloc (.cells #[.string ⟨#[]⟩, .int .i64 0, .int .i64 0, .int .u64 0, .int .u64 0, .slice none 0 0, .bool false, .int .i64 0, .slice none 0 0] 27)).heap.size = w.heap.size + 1) := Lib.hid (by simp)
  have NF : Hid (Calls Try.prog 21 #[] (w.alloc (.cells #[.string ⟨#[]⟩, .int .i64 0, .int .i64 0, .int .u64 0, .int .u64 0, .slice none 0 0, .bool false, .int .i64 0, .slice none 0 0] 27)) (NewXP (rootD, rootF 2) (w.alloc (.cells #[.string ⟨#[]⟩, .int .i64 0, .int .i64 0, .int .u64 0, .int .u64 0, .slice none 0 0, .bool false, .int .i64 0, .slice none 0 0] 27)))) := Lib.hid (second_any _)
  obtain ⟨x, hx⟩ : ∃ x : Sp, x = (rootD, rootF 2) := ⟨_, rfl⟩
  rw [← hx] at HX NF
  clear hx
  go_enter Try.func8, Try.ntmps8
  go_wp2_with fail
  refine NF.out.mono ?_
  rintro r w1 ⟨cs, rfl, hX, hB⟩
  obtain ⟨B, m, A, c, rfl⟩ := hX.shape
  have R1 := Lib.hid (R0.out.below hB R0.out.lt)
  have RE : Hid (Blk (set9 w1 w.heap.size (.string (txt x.1.name)) (.int .i64 (x.1.kind : Int)) (.int .i64 (x.1.typ : Int)) (.int .u64 (x.1.low : Int)) (.int .u64 (x.1.high : Int)) (.slice B x.1.names.length m) (.bool x.1.must) (.int .i64 (x.1.most : Int)) (.slice A x.2.len c)) w.heap.size 27 #[.string (txt x.1.name), .int .i64 (x.1.kind : Int), .int .i64 (x.1.typ : Int), .int .u64 (x.1.low : Int), .int .u64 (x.1.high : Int), .slice B x.1.names.length m, .bool x.1.must, .int .i64 (x.1.most : Int), .slice A x.2.len c]) := Lib.hid (R1.out.set9 _ _ _ _ _ _ _ _ _)
  have HE : Hid (Below w.heap.size w (set9 w1 w.heap.size (.string (txt x.1.name)) (.int .i64 (x.1.kind : Int)) (.int .i64 (x.1.typ : Int)) (.int .u64 (x.1.low : Int)) (.int .u64 (x.1.high : Int)) (.slice B x.1.names.length m) (.bool x.1.must) (.int .i64 (x.1.most : Int)) (.slice A x.2.len c))) := Lib.hid ((H0.out.trans (hB.mono H0.out.size)).trans (set9_below (Nat.le_refl _)))
  have XE : Hid (NewSp w.heap.size (set9 w1 w.heap.size (.string (txt x.1.name)) (.int .i64 (x.1.kind : Int)) (.int .i64 (x.1.typ : Int)) (.int .u64 (x.1.low : Int)) (.int .u64 (x.1.high : Int)) (.slice B x.1.names.length m) (.bool x.1.must) (.int .i64 (x.1.most : Int)) (.slice A x.2.len c)) [.string (txt x.1.name), .int .i64 (x.1.kind : Int), .int .i64 (x.1.typ : Int), .int .u64 (x.1.low : Int), .int .u64 (x.1.high : Int), .slice B x.1.names.length m, .bool x.1.must, .int .i64 (x.1.most : Int), .slice A x.2.len c] x) := Lib.hid (((hX.set9 (by rw [S0.out]; omega) _ _ _ _ _ _ _ _ _).mono H0.out.size).sp)
  have f0 : w1.frozen? ⟨w.heap.size, 0, none⟩ = false := R1.out.frozen 0
  have q0 := (R1.out.cell 0).trans rfl
  have f1 : w1.frozen? ⟨w.heap.size, 1, none⟩ = false := R1.out.frozen 1
  have q1 := (R1.out.cell 1).trans rfl
  have f2 : w1.frozen? ⟨w.heap.size, 2, none⟩ = false := R1.out.frozen 2
  have q2 := (R1.out.cell 2).trans rfl
  have f3 : w1.frozen? ⟨w.heap.size, 3, none⟩ = false := R1.out.frozen 3
  have q3 := (R1.out.cell 3).trans rfl
  have f4 : w1.frozen? ⟨w.heap.size, 4, none⟩ = false := R1.out.frozen 4
  have q4 := (R1.out.cell 4).trans rfl
  have f5 : w1.frozen? ⟨w.heap.size, 5, none⟩ = false := R1.out.frozen 5
  have q5 := (R1.out.cell 5).trans rfl
  have f6 : w1.frozen? ⟨w.heap.size, 6, none⟩ = false := R1.out.frozen 6
  have q6 := (R1.out.cell 6).trans rfl
  have f7 : w1.frozen? ⟨w.heap.size, 7, none⟩ = false := R1.out.frozen 7
  have q7 := (R1.out.cell 7).trans rfl
  have f8 : w1.frozen? ⟨w.heap.size, 8, none⟩ = false := R1.out.frozen 8
  have q8 := (R1.out.cell 8).trans rfl
  clear hX hB R0 H0 NF R1
  go_wp2
  refine bodyPost_ret (res_cell_tmp rfl _ _ w.heap.size 27 _ (0, 0) _ rfl RE.out Try.underlying27 rfl (by kernel_rfl)) rfl ?_
  exact ⟨_, by rw [HX.out]; rfl, by rw [HX.out]; exact XE.out, HE.out⟩
set_option maxRecDepth 100000 in
set_option maxHeartbeats 2000000 in
theorem root_3 (w : World) : Calls Try.prog 8 #[.int .i64 3] w (SpP (rootX 3) w) := by
  have HX : Hid (rootX 3 = ((rootD, rootF 3), 0)) := Lib.hid rfl
  have H0 : Hid (Below w.heap.size w (w.alloc (.cells #[.string ⟨#[]⟩, .int .i64 0, .int .i64 0, .int .u64 0, .int .u64 0, .slice none 0 0, .bool false, .int .i64 0, .slice none 0 0] 27))) := Lib.hid ((Below.refl _ _).alloc (Nat.le_refl _) _)
  have R0 : Hid (Blk (w.alloc (.cells #[.string ⟨#[]⟩, .int .i64 0, .int .i64 0, .int .u64 0, .int .u64 0, .slice none 0 0, .bool false, .int .i64 0, .slice none 0 0] 27)) w.heap.size 27 #[.string ⟨#[]⟩, .int .i64 0, .int .i64 0, .int .u64 0, .int .u64 0, .slice none 0 0, .bool false, .int .i64 0, .slice none 0 0]) := Lib.hid (Blk.new w _ _)
  have S0 : Hid ((w.alloc (.cells #[.string ⟨#[]⟩, .int .i64 0, .int .i64 0, .int .u64 0, .int .u64 0, .slice none 0 0, .bool false, .int .i64 0, .slice none 0 0] 27)).heap.size = w.heap.size + 1) := Lib.hid (by simp)
  have NF : Hid (Calls Try.prog 22 #[] (w.alloc (.cells #[.string ⟨#[]⟩, .int .i64 0, .int .i64 0, .int .u64 0, .int .u64 0, .slice none 0 0, .bool false, .int .i64 0, .slice none 0 0] 27)) (NewXP (rootD, rootF 3) (w.alloc (.cells #[.string ⟨#[]⟩, .int .i64 0, .int .i64 0, .int .u64 0, .int .u64 0, .slice none 0 0, .bool false, .int .i64 0, .slice none 0 0] 27)))) := Lib.hid (third_any _)
  obtain ⟨x, hx⟩ : ∃ x : Sp, x = (rootD, rootF 3) := ⟨_, rfl⟩
  rw [← hx] at HX NF
  clear hx
  go_enter Try.func8, Try.ntmps8
  go_wp2_with fail
  refine NF.out.mono ?_
  rintro r w1 ⟨cs, rfl, hX, hB⟩
  obtain ⟨B, m, A, c, rfl⟩ := hX.shape
  have R1 := Lib.hid (R0.out.below hB R0.out.lt)
  have RE : Hid (Blk (set9 w1 w.heap.size (.string (txt x.1.name)) (.int .i64 (x.1.kind : Int)) (.int .i64 (x.1.typ : Int)) (.int .u64 (x.1.low : Int)) (.int .u64 (x.1.high : Int)) (.slice B x.1.names.length m) (.bool x.1.must) (.int .i64 (x.1.most : Int)) (.slice A x.2.len c)) w.heap.size 27 #[.string (txt x.1.name), .int .i64 (x.1.kind : Int), .int .i64 (x.1.typ : Int), .int .u64 (x.1.low : Int), .int .u64 (x.1.high : Int), .slice B x.1.names.length m, .bool x.1.must, .int .i64 (x.1.most : Int), .slice A x.2.len c]) := Lib.hid (R1.out.set9 _ _ _ _ _ _ _ _ _)
  have HE : Hid (Below w.heap.size w (set9 w1 w.heap.size (.string (txt x.1.name)) (.int .i64 (x.1.kind : Int)) (.int .i64 (x.1.typ : Int)) (.int .u64 (x.1.low : Int)) (.int .u64 (x.1.high : Int)) (.slice B x.1.names.length m) (.bool x.1.must) (.int .i64 (x.1.most : Int)) (.slice A x.2.len c))) := Lib.hid ((H0.out.trans (hB.mono H0.out.size)).trans (set9_below (Nat.le_refl _)))
  have XE : Hid (NewSp w.heap.size (set9 w1 w.heap.size (.string (txt x.1.name)) (.int .i64 (x.1.kind : Int)) (.int .i64 (x.1.typ : Int)) (.int .u64 (x.1.low : Int)) (.int .u64 (x.1.high : Int)) (.slice B x.1.names.length m) (.bool x.1.must) (.int .i64 (x.1.most : Int)) (.slice A x.2.len c)) [.string (txt x.1.name), .int .i64 (x.1.kind : Int), .int .i64 (x.1.typ : Int), .int .u64 (x.1.low : Int), .int .u64 (x.1.high : Int), .slice B x.1.names.length m, .bool x.1.must, .int .i64 (x.1.most : Int), .slice A x.2.len c] x) := Lib.hid (((hX.set9 (by rw [S0.out]; omega) _ _ _ _ _ _ _ _ _).mono H0.out.size).sp)
  have f0 : w1.frozen? ⟨w.heap.size, 0, none⟩ = false := R1.out.frozen 0
  have q0 := (R1.out.cell 0).trans rfl
  have f1 : w1.frozen? ⟨w.heap.size, 1, none⟩ = false := R1.out.frozen 1
  have q1 := (R1.out.cell 1).trans rfl
  have f2 : w1.frozen? ⟨w.heap.size, 2, none⟩ = false := R1.out.frozen 2
  have q2 := (R1.out.cell 2).trans rfl
  have f3 : w1.frozen? ⟨w.heap.size, 3, none⟩ = false := R1.out.frozen 3
  have q3 := (R1.out.cell 3).trans rfl
  have f4 : w1.frozen? ⟨w.heap.size, 4, none⟩ = false := R1.out.frozen 4
  have q4 := (R1.out.cell 4).trans rfl
  have f5 : w1.frozen? ⟨w.heap.size, 5, none⟩ = false := R1.out.frozen 5
  have q5 := (R1.out.cell 5).trans rfl
  have f6 : w1.frozen? ⟨w.heap.size, 6, none⟩ = false := R1.out.frozen 6
  have q6 := (R1.out.cell 6).trans rfl
  have f7 : w1.frozen? ⟨w.heap.size, 7, none⟩ = false := R1.out.frozen 7
  have q7 := (R1.out.cell 7).trans rfl
  have f8 : w1.frozen? ⟨w.heap.size, 8, none⟩ = false := R1.out.frozen 8
  have q8 := (R1.out.cell 8).trans rfl
  clear hX hB R0 H0 NF R1
  go_wp2
  refine bodyPost_ret (res_cell_tmp rfl _ _ w.heap.size 27 _ (0, 0) _ rfl RE.out Try.underlying27 rfl (by kernel_rfl)) rfl ?_
  exact ⟨_, by rw [HX.out]; rfl, by rw [HX.out]; exact XE.out, HE.out⟩
theorem root_any (v : Int) (w : World) : Calls Try.prog 8 #[.int .i64 v] w (SpP (rootX v) w) := by
  by_cases h1 : v = 1
  · subst h1; exact root_1 w
  by_cases h2 : v = 2
  · subst h2; exact root_2 w
  by_cases h3 : v = 3
  · subst h3; exact root_3 w
  exact root_no v h1 h2 h3 w
set_option maxRecDepth 100000 in
set_option maxHeartbeats 1000000 in
theorem tag_any (i : Int) (S N : Nat → Prop) (cs : List Value) (x : Sp) (w : World) (h0 : -9223372036854775808 ≤ i) (h1 : i ≤ 9223372036854775807) (hx : SpN w S N cs x) (hS : ∀ g, S g → g < w.heap.size) (hl : x.2.len ≤ 1000000) :
    Calls Try.prog 18 #[.agg cs.toArray, .int .i64 i] w (AnsP (.int .u64 (tagX x.2 i : Int)) w) := by
  obtain ⟨B, m, A, c, d, rfl, -, -, hk⟩ := hx.shape
  have hB : Below w.heap.size w (w.alloc (.cells #[.string (txt x.1.name), .int .i64 (x.1.kind : Int), .int .i64 (x.1.typ : Int), .int .u64 (x.1.low : Int), .int .u64 (x.1.high : Int), .slice B x.1.names.length m, .bool x.1.must, .int .i64 (x.1.most : Int), .slice A x.2.len c] 27)) := (Below.refl _ _).alloc (Nat.le_refl _) _
  have HB := Lib.hid hB
  have HK := Lib.hid hk
  clear hk hx hB
  by_cases hneg : i < 0
  · have HV : Hid (((tagX x.2 i : Nat) : Int) = 0) := Lib.hid (by rw [tag_low _ hneg]; rfl)
    go_enter Try.func18, Try.ntmps18
    go_wp2
    go_ret
    exact ⟨by rw [HV.out]; rfl, HB.out⟩
  obtain ⟨k, rfl⟩ : ∃ k : Nat, i = (k : Int) := ⟨i.toNat, by omega⟩
  by_cases hlt : k < x.2.len
  · obtain ⟨a, q, hg⟩ := Fr.get_some hlt
    obtain ⟨b, o, c', cs', e, -, hSb, hN, hcl⟩ := HK.out.at hg
    injection e with e1 e2 e3
    subst e1 e3
    obtain ⟨B', m', A', c'', d', rfl, -, -, -⟩ := SpN.shape (x := (a, q)) hN
    have i1 : (0 : Int) ≤ (k : Int) := by omega
    have i2 : (k : Int) < (x.2.len : Int) := by omega
    have i4 : ¬ (x.2.len : Int) ≤ (k : Int) := by omega
    have i3 : (k : Int) ≤ 1000000 := by omega
    have q0 : (w.alloc (.cells #[.string (txt x.1.name), .int .i64 (x.1.kind : Int), .int .i64 (x.1.typ : Int), .int .u64 (x.1.low : Int), .int .u64 (x.1.high : Int), .slice B x.1.names.length m, .bool x.1.must, .int .i64 (x.1.most : Int), .slice (some ⟨b, o, none⟩) x.2.len c] 27)).cell? ⟨b, o + k * 9 + 1, none⟩ = some (.int .i64 (a.kind : Int)) := (HB.out.cell (p := ⟨b, o + k * 9 + 1, none⟩) (hS b hSb)).trans (hcl 1 _ rfl)
    have HT := Lib.hid (tag_in hg)
    clear hcl hN hg e2 hSb
    by_cases hn : a.kind = 1
    · have n1 : ((a.kind : Int) == 1) = true := by rw [hn]; rfl
      have n2 : ((a.kind : Int) != 1) = false := by rw [hn]; rfl
      have HV : Hid (((tagX x.2 (k : Int) : Nat) : Int) = 2 * ((k : Int) + 1)) := Lib.hid (by rw [HT.out, if_pos hn]; omega)
      clear hn HT
      go_enter Try.func18, Try.ntmps18
      go_wp2
      go_ret
      exact ⟨by rw [HV.out]; rfl, HB.out⟩
    · have n1 : ((a.kind : Int) == 1) = false := beq_eq_false_iff_ne.2 (by omega)
      have n2 : ((a.kind : Int) != 1) = true := by unfold bne; rw [n1]; rfl
      have HV : Hid (((tagX x.2 (k : Int) : Nat) : Int) = 2 * ((k : Int) + 1) + 1) := Lib.hid (by rw [HT.out, if_neg hn]; omega)
      clear hn HT
      go_enter Try.func18, Try.ntmps18
      go_wp2
      go_ret
      exact ⟨by rw [HV.out]; rfl, HB.out⟩
  · have HV : Hid (((tagX x.2 (k : Int) : Nat) : Int) = 0) := Lib.hid (by rw [tag_high _ (by omega)]; rfl)
    have i4 : (x.2.len : Int) ≤ (k : Int) := by omega
    clear hlt
    go_enter Try.func18, Try.ntmps18
    go_wp2
    go_ret
    exact ⟨by rw [HV.out]; rfl, HB.out⟩

set_option maxRecDepth 100000 in
set_option maxHeartbeats 1000000 in
theorem kid_any (t : Nat) (S N : Nat → Prop) (cs : List Value) (x : Sp) (w : World) (hx : SpN w S N cs x) (hS : ∀ g, S g → g < w.heap.size) (hN : ∀ g, N g → g < w.heap.size) (hl : x.2.len ≤ 1000000) :
    Calls Try.prog 16 #[.agg cs.toArray, .int .u64 (t : Int)] w (AnsP (.int .i64 (kidX x.2 t)) w) := by
  obtain ⟨B, m, A, c, d, rfl, -, -, -⟩ := hx.shape
  have hB : Below w.heap.size w (w.alloc (.cells #[.string (txt x.1.name), .int .i64 (x.1.kind : Int), .int .i64 (x.1.typ : Int), .int .u64 (x.1.low : Int), .int .u64 (x.1.high : Int), .slice B x.1.names.length m, .bool x.1.must, .int .i64 (x.1.most : Int), .slice A x.2.len c] 27)) := (Below.refl _ _).alloc (Nat.le_refl _) _
  have HB := Lib.hid hB
  have hc : ∀ wr, Below w.heap.size w wr → SpN wr S N [.string (txt x.1.name), .int .i64 (x.1.kind : Int), .int .i64 (x.1.typ : Int), .int .u64 (x.1.low : Int), .int .u64 (x.1.high : Int), .slice B x.1.names.length m, .bool x.1.must, .int .i64 (x.1.most : Int), .slice A x.2.len c] x := fun wr hb => hx.kept stay_spc (fun g hg => hb.block g (hS g hg)) (fun _ h => h) (fun g hg => hb.block g (hN g hg)) (fun _ h => h)
  have HX := Lib.hid hc
  clear hx hB hc
  go_enter Try.func16, Try.ntmps16
  go_wp2
  have HK0 := Lib.hid (Blk.new w 27 #[.string (txt x.1.name), .int .i64 (x.1.kind : Int), .int .i64 (x.1.typ : Int), .int .u64 (x.1.low : Int), .int .u64 (x.1.high : Int), .slice B x.1.names.length m, .bool x.1.must, .int .i64 (x.1.most : Int), .slice A x.2.len c])
  have HE : Hid (∃ w0, w0 = (w.alloc (.cells #[.string (txt x.1.name), .int .i64 (x.1.kind : Int), .int .i64 (x.1.typ : Int), .int .u64 (x.1.low : Int), .int .u64 (x.1.high : Int), .slice B x.1.names.length m, .bool x.1.must, .int .i64 (x.1.most : Int), .slice A x.2.len c] 27))) := Lib.hid ⟨_, rfl⟩
  obtain ⟨w0, hw0⟩ := HE.out
  rw [← hw0] at HB HK0 ⊢
  clear hw0 HE
  go_loopw [9] (fun i wr => ∃ k : Nat, k ≤ x.2.len ∧ i = .int .i64 (k : Int) ∧ Hid (∀ j y, j < k → x.2.get? j = some y → 2 * (0 + j) + 2 + (if y.1.kind = 1 then 0 else 1) ≠ t) ∧ Below w.heap.size w wr ∧ Blk wr w.heap.size 27 #[.string (txt x.1.name), .int .i64 (x.1.kind : Int), .int .i64 (x.1.typ : Int), .int .u64 (x.1.low : Int), .int .u64 (x.1.high : Int), .slice B x.1.names.length m, .bool x.1.must, .int .i64 (x.1.most : Int), .slice A x.2.len c]) (fun i _ => x.2.len - (intOf i).toNat)
  case atStart => exact ⟨0, Nat.zero_le _, rfl, Lib.hid (fun j y h => by omega), HB.out, HK0.out⟩
  case round =>
    obtain ⟨k, hk, rfl, HL, hB, hblk⟩ := hrel
    have HB1 := Lib.hid hB
    have HK1 := Lib.hid hblk
    have c8 : wr.cell? ⟨w.heap.size, 8, none⟩ = some (.slice A x.2.len c) := (hblk.cell 8).trans rfl
    by_cases hlt : k < x.2.len
    · have i2 : (k : Int) < (x.2.len : Int) := by omega
      obtain ⟨a, q, hg⟩ := Fr.get_some hlt
      have HT := Lib.hid (tag_in hg)
      have HG := Lib.hid hg
      have HC := Lib.hid (tag_any (k : Int) S N _ x wr (by omega) (by omega) (HX.out wr hB) (fun g hg => Nat.lt_of_lt_of_le (hS g hg) hB.size) hl)
      have k0 := (hblk.cell 0).trans rfl
      have k1 := (hblk.cell 1).trans rfl
      have k2 := (hblk.cell 2).trans rfl
      have k3 := (hblk.cell 3).trans rfl
      have k4 := (hblk.cell 4).trans rfl
      have k5 := (hblk.cell 5).trans rfl
      have k6 := (hblk.cell 6).trans rfl
      have k7 := (hblk.cell 7).trans rfl
      clear hB hg hblk
      go_wp2_with fail
      refine HC.out.mono ?_
      rintro r w2 ⟨rfl, hB2⟩
      have HB2 := Lib.hid (HB1.out.trans (hB2.mono HB1.out.size))
      have HK2 := Lib.hid (HK1.out.below hB2 HK1.out.lt)
      clear hB2 HC c8 k0 k1 k2 k3 k4 k5 k6 k7
      obtain ⟨T, hT⟩ : ∃ T, T = tagX x.2 (k : Int) := ⟨_, rfl⟩
      rw [← hT] at HT ⊢
      clear hT
      by_cases e : T = t
      · have HF : Hid (kidX x.2 t = (k : Int)) := Lib.hid (by unfold kidX; rw [kid_is HG.out (by rw [Nat.zero_add, ← HT.out, e]) HL.out, Nat.zero_add])
        have e1 : ((T : Int) == (t : Int)) = true := beq_iff_eq.2 (by rw [e])
        clear e
        go_wp2
        go_ret
        exact ⟨by rw [HF.out]; rfl, HB2.out⟩
      · have e1 : ((T : Int) == (t : Int)) = false := beq_eq_false_iff_ne.2 (by omega)
        have HL2 : Hid (∀ j y, j < k + 1 → x.2.get? j = some y → 2 * (0 + j) + 2 + (if y.1.kind = 1 then 0 else 1) ≠ t) := Lib.hid (fun j y hj hy => by
          by_cases ej : j = k
          · subst ej
            rw [HG.out] at hy
            injection hy with hy
            subst hy
            rw [Nat.zero_add, ← HT.out]
            exact e
          · exact HL.out j y (by omega) hy)
        have HQ := Lib.hid (And.intro HB2.out HK2.out)
        clear e HL
        go_wp2
        go_roundw
        case rel => exact ⟨k + 1, by omega, by go_num, HL2, HQ.out.1, HQ.out.2⟩
        case measure => simp [intOf]; omega
    · have HF : Hid (kidX x.2 t = -1) := Lib.hid (by unfold kidX; rw [kid_no (fun j y hy => HL.out j y (by have := Fr.get_lt hy; omega) hy)])
      have i2 : ¬ (k : Int) < (x.2.len : Int) := by omega
      clear hB hblk
      go_wp2
      go_ret
      exact ⟨by rw [HF.out]; rfl, HB1.out⟩

end Go.Proofs.Ytkpbjgjflabloaa
