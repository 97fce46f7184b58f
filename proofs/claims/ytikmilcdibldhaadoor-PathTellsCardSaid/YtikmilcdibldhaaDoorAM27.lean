/- SpvFnJ -/
import Derived.Test.YtikmilcdibldhaaDoorAM0
import Derived.Test.YtikmilcdibldhaaDoorAM26
set_option linter.unusedSimpArgs false
set_option linter.unusedVariables false
namespace Go.Proofs.YtikmilcdibldhaaDoor
open Go.RowKit
theorem SpcD.lim {w : World} {N : Nat → Prop} {cs : List Value} {a : SpD} (h : SpcD w N cs a) : SpcD w (fun g => N g ∧ g < w.heap.size) cs a := by
 obtain ⟨nv, kv, d, h1, h2, h3, h4⟩ := h
 refine ⟨nv, kv, d, h1, h2, fun h0 => ⟨h3 h0, ?_⟩, h4⟩
 obtain ⟨A, c, _, _, h5⟩ := h2
 exact (h5 (by rw [txts_len]; exact h0)).1
theorem FrAt.lim {w : World} {S N : Nat → Prop} : ∀ {f : SpF} {b o : Nat}, FrAt SpcD 9 8 w S N f b o → FrAt SpcD 9 8 w S (fun g => N g ∧ g < w.heap.size) f b o := by
 intro f
 induction f with
 | nil => intro b o _; trivial
 | cons a k r ihk ihr =>
  intro b o ⟨⟨cs, h1, h2, h3, A, c, h4, h5, h6⟩, h7⟩
  refine ⟨⟨cs, h1, h2, h3.lim, A, c, h4, h5, fun h0 => ?_⟩, ihr h7⟩
  obtain ⟨b', o', h8, h9, h10⟩ := h6 h0
  exact ⟨b', o', h8, h9, ihk h10⟩
theorem SpN.lim {w : World} {S N : Nat → Prop} {cs : List Value} {x : Sp} (h : SpN w S N cs x) : SpN w S (fun g => N g ∧ g < w.heap.size) cs x := by
 obtain ⟨h1, h2, v, h3, A, c, h4, h5, h6⟩ := h
 refine ⟨h1, h2.lim, v, h3, A, c, h4, h5, fun h0 => ?_⟩
 obtain ⟨b, o, h7, h8, h9⟩ := h6 h0
 exact ⟨b, o, h7, h8, h9.lim⟩
theorem findC (W0 : World) : FindC W0 := fun n S N cs x w hx hS hl _ => sfind_any n S _ cs x w hx.lim hS (fun g hg => hg.2) hl
theorem NewX.sp {base : Nat} {w : World} {cs : List Value} {x : Sp} (h : NewX base w cs x) : NewSp base w cs x := h.new
set_option maxRecDepth 100000 in
set_option maxHeartbeats 1000000 in
theorem root_no (v : Int) (h1 : v ≠ 1) (h2 : v ≠ 2) (h3 : v ≠ 3) (w : World) : Calls Tryd.prog 26 #[.int .i64 v] w (SpP (rootX v) w) := by
 have HX : Hid (rootX v = ((zeroD, .nil), 28)) := Lib.hid (by unfold rootX; rw [if_pos (by omega)])
 have e1 : (v == 1) = false := beq_eq_false_iff_ne.2 h1
 have e2 : (v == 2) = false := beq_eq_false_iff_ne.2 h2
 have e3 : (v == 3) = false := beq_eq_false_iff_ne.2 h3
 clear h1 h2 h3
 go_enter Tryd.func26, Tryd.ntmps26
 go_wp2
 refine bodyPost_ret (res_cell_tmp rfl _ _ w.heap.size 34 _ (0, 0) _ rfl (heap_alloc_new w _) Tryd.underlying34 rfl (by kernel_rfl)) rfl ?_
 exact ⟨spC zeroD (.slice none 0 0) (.slice none 0 0), by rw [HX.out]; rfl, by rw [HX.out]; exact ⟨fun _ => False, fun _ => False, fun g h => h.elim, fun g h => h.elim, leaf_n rfl⟩, (Below.refl _ _).alloc (Nat.le_refl _) _⟩
set_option maxRecDepth 100000 in
set_option maxHeartbeats 2000000 in
theorem root_1 (w : World) : Calls Tryd.prog 26 #[.int .i64 1] w (SpP (rootX 1) w) := by
 have HX : Hid (rootX 1 = ((rootD, rootF 1), 0)) := Lib.hid rfl
 have H0 : Hid (Below w.heap.size w (w.alloc (.cells #[.string ⟨#[]⟩, .int .i64 0, .int .i64 0, .int .u64 0, .int .u64 0, .slice none 0 0, .bool false, .int .i64 0, .slice none 0 0] 34))) := Lib.hid ((Below.refl _ _).alloc (Nat.le_refl _) _)
 have R0 : Hid (Blk (w.alloc (.cells #[.string ⟨#[]⟩, .int .i64 0, .int .i64 0, .int .u64 0, .int .u64 0, .slice none 0 0, .bool false, .int .i64 0, .slice none 0 0] 34)) w.heap.size 34 #[.string ⟨#[]⟩, .int .i64 0, .int .i64 0, .int .u64 0, .int .u64 0, .slice none 0 0, .bool false, .int .i64 0, .slice none 0 0]) := Lib.hid (Blk.new w _ _)
 have S0 : Hid ((w.alloc (.cells #[.string ⟨#[]⟩, .int .i64 0, .int .i64 0, .int .u64 0, .int .u64 0, .slice none 0 0, .bool false, .int .i64 0, .slice none 0 0] 34)).heap.size = w.heap.size + 1) := Lib.hid (by simp)
 have NF : Hid (Calls Tryd.prog 38 #[] (w.alloc (.cells #[.string ⟨#[]⟩, .int .i64 0, .int .i64 0, .int .u64 0, .int .u64 0, .slice none 0 0, .bool false, .int .i64 0, .slice none 0 0] 34)) (NewXP (rootD, rootF 1) (w.alloc (.cells #[.string ⟨#[]⟩, .int .i64 0, .int .i64 0, .int .u64 0, .int .u64 0, .slice none 0 0, .bool false, .int .i64 0, .slice none 0 0] 34)))) := Lib.hid (first_any _)
 obtain ⟨x, hx⟩ : ∃ x : Sp, x = (rootD, rootF 1) := ⟨_, rfl⟩
 rw [← hx] at HX NF
 clear hx
 go_enter Tryd.func26, Tryd.ntmps26
 go_wp2_with fail
 refine NF.out.mono ?_
 rintro r w1 ⟨cs, rfl, hX, hB⟩
 obtain ⟨B, m, A, c, rfl⟩ := hX.shape
 have R1 := Lib.hid (R0.out.below hB R0.out.lt)
 have RE : Hid (Blk (set9 w1 w.heap.size (.string (txt x.1.name)) (.int .i64 (x.1.kind : Int)) (.int .i64 (x.1.typ : Int)) (.int .u64 (x.1.low : Int)) (.int .u64 (x.1.high : Int)) (.slice B x.1.names.length m) (.bool x.1.must) (.int .i64 (x.1.most : Int)) (.slice A x.2.len c)) w.heap.size 34 #[.string (txt x.1.name), .int .i64 (x.1.kind : Int), .int .i64 (x.1.typ : Int), .int .u64 (x.1.low : Int), .int .u64 (x.1.high : Int), .slice B x.1.names.length m, .bool x.1.must, .int .i64 (x.1.most : Int), .slice A x.2.len c]) := Lib.hid (R1.out.set9 _ _ _ _ _ _ _ _ _)
 have HE : Hid (Below w.heap.size w (set9 w1 w.heap.size (.string (txt x.1.name)) (.int .i64 (x.1.kind : Int)) (.int .i64 (x.1.typ : Int)) (.int .u64 (x.1.low : Int)) (.int .u64 (x.1.high : Int)) (.slice B x.1.names.length m) (.bool x.1.must) (.int .i64 (x.1.most : Int)) (.slice A x.2.len c))) := Lib.hid ((H0.out.trans (hB.mono H0.out.size)).trans (set9_below (Nat.le_refl _)))
 have XE : Hid (NewSp w.heap.size (set9 w1 w.heap.size (.string (txt x.1.name)) (.int .i64 (x.1.kind : Int)) (.int .i64 (x.1.typ : Int)) (.int .u64 (x.1.low : Int)) (.int .u64 (x.1.high : Int)) (.slice B x.1.names.length m) (.bool x.1.must) (.int .i64 (x.1.most : Int)) (.slice A x.2.len c)) [.string (txt x.1.name), .int .i64 (x.1.kind : Int), .int .i64 (x.1.typ : Int), .int .u64 (x.1.low : Int), .int .u64 (x.1.high : Int), .slice B x.1.names.length m, .bool x.1.must, .int .i64 (x.1.most : Int), .slice A x.2.len c] x) := Lib.hid (((hX.set9 (by rw [S0.out]; omega) _ _ _ _ _ _ _ _ _).mono H0.out.size).sp)
 have f0 : w1.frozen? ⟨w.heap.size, 0, none⟩ = false := R1.out.frozen 0
 have q0 := (R1.out.cell 0).trans rfl
 have f1 : w1.frozen? ⟨w.heap.size, 1, none⟩ = false := R1.out.frozen 1
 have q1 := (R1.out.cell 1).trans rfl
 have f2 : w1.frozen? ⟨w.heap.size, 2, none⟩ = false := R1.out.frozen 2
 have q2 := (R1.out.cell 2).trans rfl
 have f3 : w1.frozen? ⟨w.heap.size, 3, none⟩ = false := R1.out.frozen 3
 have q3 := (R1.out.cell 3).trans rfl
 have f4 : w1.frozen? ⟨w.heap.size, 4, none⟩ = false := R1.out.frozen 4
 have q4 := (R1.out.cell 4).trans rfl
 have f5 : w1.frozen? ⟨w.heap.size, 5, none⟩ = false := R1.out.frozen 5
 have q5 := (R1.out.cell 5).trans rfl
 have f6 : w1.frozen? ⟨w.heap.size, 6, none⟩ = false := R1.out.frozen 6
 have q6 := (R1.out.cell 6).trans rfl
 have f7 : w1.frozen? ⟨w.heap.size, 7, none⟩ = false := R1.out.frozen 7
 have q7 := (R1.out.cell 7).trans rfl
 have f8 : w1.frozen? ⟨w.heap.size, 8, none⟩ = false := R1.out.frozen 8
 have q8 := (R1.out.cell 8).trans rfl
 clear hX hB R0 H0 NF R1
 go_wp2
 refine bodyPost_ret (res_cell_tmp rfl _ _ w.heap.size 34 _ (0, 0) _ rfl RE.out Tryd.underlying34 rfl (by kernel_rfl)) rfl ?_
 exact ⟨_, by rw [HX.out]; rfl, by rw [HX.out]; exact XE.out, HE.out⟩
set_option maxRecDepth 100000 in
set_option maxHeartbeats 2000000 in
theorem root_2 (w : World) : Calls Tryd.prog 26 #[.int .i64 2] w (SpP (rootX 2) w) := by
 have HX : Hid (rootX 2 = ((rootD, rootF 2), 0)) := Lib.hid rfl
 have H0 : Hid (Below w.heap.size w (w.alloc (.cells #[.string ⟨#[]⟩, .int .i64 0, .int .i64 0, .int .u64 0, .int .u64 0, .slice none 0 0, .bool false, .int .i64 0, .slice none 0 0] 34))) := Lib.hid ((Below.refl _ _).alloc (Nat.le_refl _) _)
 have R0 : Hid (Blk (w.alloc (.cells #[.string ⟨#[]⟩, .int .i64 0, .int .i64 0, .int .u64 0, .int .u64 0, .slice none 0 0, .bool false, .int .i64 0, .slice none 0 0] 34)) w.heap.size 34 #[.string ⟨#[]⟩, .int .i64 0, .int .i64 0, .int .u64 0, .int .u64 0, .slice none 0 0, .bool false, .int .i64 0, .slice none 0 0]) := Lib.hid (Blk.new w _ _)
 have S0 : Hid ((w.alloc (.cells #[.string ⟨#[]⟩, .int .i64 0, .int .i64 0, .int .u64 0, .int .u64 0, .slice none 0 0, .bool false, .int .i64 0, .slice none 0 0] 34)).heap.size = w.heap.size + 1) := Lib.hid (by simp)
 have NF : Hid (Calls Tryd.prog 39 #[] (w.alloc (.cells #[.string ⟨#[]⟩, .int .i64 0, .int .i64 0, .int .u64 0, .int .u64 0, .slice none 0 0, .bool false, .int .i64 0, .slice none 0 0] 34)) (NewXP (rootD, rootF 2) (w.alloc (.cells #[.string ⟨#[]⟩, .int .i64 0, .int .i64 0, .int .u64 0, .int .u64 0, .slice none 0 0, .bool false, .int .i64 0, .slice none 0 0] 34)))) := Lib.hid (second_any _)
 obtain ⟨x, hx⟩ : ∃ x : Sp, x = (rootD, rootF 2) := ⟨_, rfl⟩
 rw [← hx] at HX NF
 clear hx
 go_enter Tryd.func26, Tryd.ntmps26
 go_wp2_with fail
 refine NF.out.mono ?_
 rintro r w1 ⟨cs, rfl, hX, hB⟩
 obtain ⟨B, m, A, c, rfl⟩ := hX.shape
 have R1 := Lib.hid (R0.out.below hB R0.out.lt)
 have RE : Hid (Blk (set9 w1 w.heap.size (.string (txt x.1.name)) (.int .i64 (x.1.kind : Int)) (.int .i64 (x.1.typ : Int)) (.int .u64 (x.1.low : Int)) (.int .u64 (x.1.high : Int)) (.slice B x.1.names.length m) (.bool x.1.must) (.int .i64 (x.1.most : Int)) (.slice A x.2.len c)) w.heap.size 34 #[.string (txt x.1.name), .int .i64 (x.1.kind : Int), .int .i64 (x.1.typ : Int), .int .u64 (x.1.low : Int), .int .u64 (x.1.high : Int), .slice B x.1.names.length m, .bool x.1.must, .int .i64 (x.1.most : Int), .slice A x.2.len c]) := Lib.hid (R1.out.set9 _ _ _ _ _ _ _ _ _)
 have HE : Hid (Below w.heap.size w (set9 w1 w.heap.size (.string (txt x.1.name)) (.int .i64 (x.1.kind : Int)) (.int .i64 (x.1.typ : Int)) (.int .u64 (x.1.low : Int)) (.int .u64 (x.1.high : Int)) (.slice B x.1.names.length m) (.bool x.1.must) (.int .i64 (x.1.most : Int)) (.slice A x.2.len c))) := Lib.hid ((H0.out.trans (hB.mono H0.out.size)).trans (set9_below (Nat.le_refl _)))
 have XE : Hid (NewSp w.heap.size (set9 w1 w.heap.size (.string (txt x.1.name)) (.int .i64 (x.1.kind : Int)) (.int .i64 (x.1.typ : Int)) (.int .u64 (x.1.low : Int)) (.int .u64 (x.1.high : Int)) (.slice B x.1.names.length m) (.bool x.1.must) (.int .i64 (x.1.most : Int)) (.slice A x.2.len c)) [.string (txt x.1.name), .int .i64 (x.1.kind : Int), .int .i64 (x.1.typ : Int), .int .u64 (x.1.low : Int), .int .u64 (x.1.high : Int), .slice B x.1.names.length m, .bool x.1.must, .int .i64 (x.1.most : Int), .slice A x.2.len c] x) := Lib.hid (((hX.set9 (by rw [S0.out]; omega) _ _ _ _ _ _ _ _ _).mono H0.out.size).sp)
 have f0 : w1.frozen? ⟨w.heap.size, 0, none⟩ = false := R1.out.frozen 0
 have q0 := (R1.out.cell 0).trans rfl
 have f1 : w1.frozen? ⟨w.heap.size, 1, none⟩ = false := R1.out.frozen 1
 have q1 := (R1.out.cell 1).trans rfl
 have f2 : w1.frozen? ⟨w.heap.size, 2, none⟩ = false := R1.out.frozen 2
 have q2 := (R1.out.cell 2).trans rfl
 have f3 : w1.frozen? ⟨w.heap.size, 3, none⟩ = false := R1.out.frozen 3
 have q3 := (R1.out.cell 3).trans rfl
 have f4 : w1.frozen? ⟨w.heap.size, 4, none⟩ = false := R1.out.frozen 4
 have q4 := (R1.out.cell 4).trans rfl
 have f5 : w1.frozen? ⟨w.heap.size, 5, none⟩ = false := R1.out.frozen 5
 have q5 := (R1.out.cell 5).trans rfl
 have f6 : w1.frozen? ⟨w.heap.size, 6, none⟩ = false := R1.out.frozen 6
 have q6 := (R1.out.cell 6).trans rfl
 have f7 : w1.frozen? ⟨w.heap.size, 7, none⟩ = false := R1.out.frozen 7
 have q7 := (R1.out.cell 7).trans rfl
 have f8 : w1.frozen? ⟨w.heap.size, 8, none⟩ = false := R1.out.frozen 8
 have q8 := (R1.out.cell 8).trans rfl
 clear hX hB R0 H0 NF R1
 go_wp2
 refine bodyPost_ret (res_cell_tmp rfl _ _ w.heap.size 34 _ (0, 0) _ rfl RE.out Tryd.underlying34 rfl (by kernel_rfl)) rfl ?_
 exact ⟨_, by rw [HX.out]; rfl, by rw [HX.out]; exact XE.out, HE.out⟩
set_option maxRecDepth 100000 in
set_option maxHeartbeats 2000000 in
theorem root_3 (w : World) : Calls Tryd.prog 26 #[.int .i64 3] w (SpP (rootX 3) w) := by
 have HX : Hid (rootX 3 = ((rootD, rootF 3), 0)) := Lib.hid rfl
 have H0 : Hid (Below w.heap.size w (w.alloc (.cells #[.string ⟨#[]⟩, .int .i64 0, .int .i64 0, .int .u64 0, .int .u64 0, .slice none 0 0, .bool false, .int .i64 0, .slice none 0 0] 34))) := Lib.hid ((Below.refl _ _).alloc (Nat.le_refl _) _)
 have R0 : Hid (Blk (w.alloc (.cells #[.string ⟨#[]⟩, .int .i64 0, .int .i64 0, .int .u64 0, .int .u64 0, .slice none 0 0, .bool false, .int .i64 0, .slice none 0 0] 34)) w.heap.size 34 #[.string ⟨#[]⟩, .int .i64 0, .int .i64 0, .int .u64 0, .int .u64 0, .slice none 0 0, .bool false, .int .i64 0, .slice none 0 0]) := Lib.hid (Blk.new w _ _)
 have S0 : Hid ((w.alloc (.cells #[.string ⟨#[]⟩, .int .i64 0, .int .i64 0, .int .u64 0, .int .u64 0, .slice none 0 0, .bool false, .int .i64 0, .slice none 0 0] 34)).heap.size = w.heap.size + 1) := Lib.hid (by simp)
 have NF : Hid (Calls Tryd.prog 40 #[] (w.alloc (.cells #[.string ⟨#[]⟩, .int .i64 0, .int .i64 0, .int .u64 0, .int .u64 0, .slice none 0 0, .bool false, .int .i64 0, .slice none 0 0] 34)) (NewXP (rootD, rootF 3) (w.alloc (.cells #[.string ⟨#[]⟩, .int .i64 0, .int .i64 0, .int .u64 0, .int .u64 0, .slice none 0 0, .bool false, .int .i64 0, .slice none 0 0] 34)))) := Lib.hid (third_any _)
 obtain ⟨x, hx⟩ : ∃ x : Sp, x = (rootD, rootF 3) := ⟨_, rfl⟩
 rw [← hx] at HX NF
 clear hx
 go_enter Tryd.func26, Tryd.ntmps26
 go_wp2_with fail
 refine NF.out.mono ?_
 rintro r w1 ⟨cs, rfl, hX, hB⟩
 obtain ⟨B, m, A, c, rfl⟩ := hX.shape
 have R1 := Lib.hid (R0.out.below hB R0.out.lt)
 have RE : Hid (Blk (set9 w1 w.heap.size (.string (txt x.1.name)) (.int .i64 (x.1.kind : Int)) (.int .i64 (x.1.typ : Int)) (.int .u64 (x.1.low : Int)) (.int .u64 (x.1.high : Int)) (.slice B x.1.names.length m) (.bool x.1.must) (.int .i64 (x.1.most : Int)) (.slice A x.2.len c)) w.heap.size 34 #[.string (txt x.1.name), .int .i64 (x.1.kind : Int), .int .i64 (x.1.typ : Int), .int .u64 (x.1.low : Int), .int .u64 (x.1.high : Int), .slice B x.1.names.length m, .bool x.1.must, .int .i64 (x.1.most : Int), .slice A x.2.len c]) := Lib.hid (R1.out.set9 _ _ _ _ _ _ _ _ _)
 have HE : Hid (Below w.heap.size w (set9 w1 w.heap.size (.string (txt x.1.name)) (.int .i64 (x.1.kind : Int)) (.int .i64 (x.1.typ : Int)) (.int .u64 (x.1.low : Int)) (.int .u64 (x.1.high : Int)) (.slice B x.1.names.length m) (.bool x.1.must) (.int .i64 (x.1.most : Int)) (.slice A x.2.len c))) := Lib.hid ((H0.out.trans (hB.mono H0.out.size)).trans (set9_below (Nat.le_refl _)))
 have XE : Hid (NewSp w.heap.size (set9 w1 w.heap.size (.string (txt x.1.name)) (.int .i64 (x.1.kind : Int)) (.int .i64 (x.1.typ : Int)) (.int .u64 (x.1.low : Int)) (.int .u64 (x.1.high : Int)) (.slice B x.1.names.length m) (.bool x.1.must) (.int .i64 (x.1.most : Int)) (.slice A x.2.len c)) [.string (txt x.1.name), .int .i64 (x.1.kind : Int), .int .i64 (x.1.typ : Int), .int .u64 (x.1.low : Int), .int .u64 (x.1.high : Int), .slice B x.1.names.length m, .bool x.1.must, .int .i64 (x.1.most : Int), .slice A x.2.len c] x) := Lib.hid (((hX.set9 (by rw [S0.out]; omega) _ _ _ _ _ _ _ _ _).mono H0.out.size).sp)
 have f0 : w1.frozen? ⟨w.heap.size, 0, none⟩ = false := R1.out.frozen 0
 have q0 := (R1.out.cell 0).trans rfl
 have f1 : w1.frozen? ⟨w.heap.size, 1, none⟩ = false := R1.out.frozen 1
 have q1 := (R1.out.cell 1).trans rfl
 have f2 : w1.frozen? ⟨w.heap.size, 2, none⟩ = false := R1.out.frozen 2
 have q2 := (R1.out.cell 2).trans rfl
 have f3 : w1.frozen? ⟨w.heap.size, 3, none⟩ = false := R1.out.frozen 3
 have q3 := (R1.out.cell 3).trans rfl
 have f4 : w1.frozen? ⟨w.heap.size, 4, none⟩ = false := R1.out.frozen 4
 have q4 := (R1.out.cell 4).trans rfl
 have f5 : w1.frozen? ⟨w.heap.size, 5, none⟩ = false := R1.out.frozen 5
 have q5 := (R1.out.cell 5).trans rfl
 have f6 : w1.frozen? ⟨w.heap.size, 6, none⟩ = false := R1.out.frozen 6
 have q6 := (R1.out.cell 6).trans rfl
 have f7 : w1.frozen? ⟨w.heap.size, 7, none⟩ = false := R1.out.frozen 7
 have q7 := (R1.out.cell 7).trans rfl
 have f8 : w1.frozen? ⟨w.heap.size, 8, none⟩ = false := R1.out.frozen 8
 have q8 := (R1.out.cell 8).trans rfl
 clear hX hB R0 H0 NF R1
 go_wp2
 refine bodyPost_ret (res_cell_tmp rfl _ _ w.heap.size 34 _ (0, 0) _ rfl RE.out Tryd.underlying34 rfl (by kernel_rfl)) rfl ?_
 exact ⟨_, by rw [HX.out]; rfl, by rw [HX.out]; exact XE.out, HE.out⟩
theorem root_any (v : Int) (w : World) : Calls Tryd.prog 26 #[.int .i64 v] w (SpP (rootX v) w) := by
 by_cases h1 : v = 1
 ·subst h1; exact root_1 w
 by_cases h2 : v = 2
 ·subst h2; exact root_2 w
 by_cases h3 : v = 3
 ·subst h3; exact root_3 w
 exact root_no v h1 h2 h3 w
end Go.Proofs.YtikmilcdibldhaaDoor
