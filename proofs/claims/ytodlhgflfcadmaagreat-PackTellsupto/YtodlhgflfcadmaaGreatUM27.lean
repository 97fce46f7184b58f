/- SpvFnC -/
import Derived.Test.YtodlhgflfcadmaaGreatUM26
set_option linter.unusedSimpArgs false
set_option linter.unusedVariables false
set_option maxRecDepth 100000
set_option maxHeartbeats 8000000
namespace Go.Proofs.YtodlhgflfcadmaaGreat
open Go.RowKit
theorem SOwnT.leaf {w : World} {base : Nat} {R : Nat → Prop} {a : SpD} {r : SpF} {ys : List Value} {F : List Nat} (h : a.names = []) (hr : SOwnT w base R r ys F) : SOwnT w base R (.cons a .nil r) (spC a (.slice none 0 0) (.slice none 0 0) ++ ys) F :=
 ⟨_, ys, [], [], F, .slice none 0 0, rfl, rfl, rfl, ⟨.slice none 0 0, .slice none 0 0, 0, rfl, by rw [h]; exact ⟨none, 0, rfl, Nat.le_refl _, fun h => absurd h (by simp [txts])⟩, by rw [h]; intro h; simp at h, rfl⟩, rfl, OwnK.nil _ _ _ _, ⟨rfl, rfl⟩, hr⟩
theorem SOwnT.list {w : World} {base : Nat} {R : Nat → Prop} {a : SpD} {k r : SpF} {zs ys : List Value} {F G : List Nat} {g n : Nat} (h : a.names = []) (hn : k.len = n) (hm : n ≤ maxLen) (hb : Blk w g 61 zs.toArray) (hg : base ≤ g) (hk : SOwnT w base R k zs F) (hr : SOwnT w base R r ys G) :
  SOwnT w base R (.cons a k r) (spC a (.slice none 0 0) (.slice (some ⟨g, 0, none⟩) n n) ++ ys) ((g :: F) ++ G) := by
 subst hn
 exact ⟨_, ys, zs, F, G, .slice (some ⟨g, 0, none⟩) k.len k.len, rfl, rfl, rfl, ⟨.slice none 0 0, _, 0, rfl, by rw [h]; exact ⟨none, 0, rfl, Nat.le_refl _, fun h => absurd h (by simp [txts])⟩, by rw [h]; intro h; simp at h, rfl⟩, rfl, OwnK.lit hb hg hk.len hm, hk, hr⟩
theorem OwnX.box {w : World} {base : Nat} {R : Nat → Prop} {a : SpD} {k : SpF} {zs : List Value} {F : List Nat} {g n : Nat} (h : a.names = []) (hn : k.len = n) (hm : n ≤ maxLen) (hb : Blk w g 61 zs.toArray) (hg : base ≤ g) (hk : SOwnT w base R k zs F) :
  OwnX w base R (spC a (.slice none 0 0) (.slice (some ⟨g, 0, none⟩) n n)) (a, k) (g :: F) := by
 subst hn
 exact ⟨.slice (some ⟨g, 0, none⟩) k.len k.len, rfl, ⟨.slice none 0 0, _, 0, rfl, by rw [h]; exact ⟨none, 0, rfl, Nat.le_refl _, fun h => absurd h (by simp [txts])⟩, by rw [h]; intro h; simp at h, rfl⟩, rfl, zs, F, rfl, OwnK.lit hb hg hk.len hm, hk⟩
def NewXP (x : Sp) (w : World) (r : Ending) (w' : World) : Prop := ∃ cs, r = .returned (.agg cs.toArray) ∧ NewX w.heap.size w' cs x ∧ Below w.heap.size w w'
theorem rootF_one : rootF 1 = .cons (leafD nSystem 5 false) .nil (.cons (listD nPort 4) (.cons (leafD nUp 3 false) .nil (.cons (listD nClass 8) (.cons (numD nQuantum 1 1500 100000) .nil (.cons (numD nRate 2 0 1000000) .nil (.cons (numD nBurst 1 1500 1000000) .nil (.cons (numD nLimit 1 1 64) .nil .nil)))) (.cons (listD nRule 16) (.cons (numD nLow 1 0 65535) .nil (.cons (numD nHigh 1 0 65535) .nil (.cons (leafD nClass 6 true) .nil .nil))) (.cons (leafD nDefault 6 true) .nil .nil)))) .nil) := by decide
abbrev lf (a : SpD) : List Value := spC a (.slice none 0 0) (.slice none 0 0)
abbrev ls (a : SpD) (g n : Nat) : List Value := spC a (.slice none 0 0) (.slice (some ⟨g, 0, none⟩) n n)
theorem first_new {W : World} {base b1 b2 b3 b4 : Nat} (e1 : base < b1) (e2 : base < b2) (e3 : base < b3) (e4 : base < b4) (d1 : b1 < b2) (d2 : b1 < b3) (d3 : b2 < b3) (d4 : b1 < b4) (d5 : b2 < b4) (d6 : b3 < b4)
  (k1 : Blk W b1 61 (lf (numD nQuantum 1 1500 100000) ++ (lf (numD nRate 2 0 1000000) ++ (lf (numD nBurst 1 1500 1000000) ++ (lf (numD nLimit 1 1 64) ++ [])))).toArray)
  (k2 : Blk W b2 61 (lf (numD nLow 1 0 65535) ++ (lf (numD nHigh 1 0 65535) ++ (lf (leafD nClass 6 true) ++ []))).toArray)
  (k3 : Blk W b3 61 (lf (leafD nUp 3 false) ++ (ls (listD nClass 8) b1 4 ++ (ls (listD nRule 16) b2 3 ++ (lf (leafD nDefault 6 true) ++ [])))).toArray)
  (k4 : Blk W b4 61 (lf (leafD nSystem 5 false) ++ (ls (listD nPort 4) b3 4 ++ [])).toArray) :
  NewX base W (ls rootD b4 2) (rootD, rootF 1) := by
 have hm : (4 : Nat) ≤ maxLen := by unfold maxLen; omega
 have hm3 : (3 : Nat) ≤ maxLen := by unfold maxLen; omega
 have hm2 : (2 : Nat) ≤ maxLen := by unfold maxLen; omega
 rw [rootF_one]
 refine ⟨b4 :: ((b3 :: ((b1 :: []) ++ ((b2 :: []) ++ []))) ++ []), fun _ => False, ?_, fun g h => h.elim, ?_⟩
 ·simp only [List.cons_append, List.nil_append, List.append_nil, List.nodup_cons, List.mem_cons, List.not_mem_nil, or_false, not_or, not_false_eq_true, List.nodup_nil, and_true]
  omega
 ·have nilT : SOwnT W base (fun _ => False) .nil [] [] := ⟨rfl, rfl⟩
  exact OwnX.box rfl rfl hm2 k4 (Nat.le_of_lt e4) (.leaf rfl (.list rfl rfl hm k3 (Nat.le_of_lt e3) (.leaf rfl (.list rfl rfl hm k1 (Nat.le_of_lt e1) (.leaf rfl (.leaf rfl (.leaf rfl (.leaf rfl nilT)))) (.list rfl rfl hm3 k2 (Nat.le_of_lt e2) (.leaf rfl (.leaf rfl (.leaf rfl nilT))) (.leaf rfl nilT)))) nilT))
theorem first_any (w : World) : Calls Tryz.prog 39 #[] w (NewXP (rootD, rootF 1) w) := by
 have N1 : ∀ W, Hid (Calls Tryz.prog 67 #[.string ⟨#[115, 121, 115, 116, 101, 109]⟩, .int .i64 5] W (fun r w' => r = .returned (.agg (cS ⟨#[115, 121, 115, 116, 101, 109]⟩ 1 5 0 0 (.slice none 0 0) false 0 (.slice none 0 0))) ∧ Below W.heap.size W w')) := fun W => hHd (leaf_any nSystem 5 W)
 have N2 : ∀ W, Hid (Calls Tryz.prog 67 #[.string ⟨#[117, 112]⟩, .int .i64 3] W (fun r w' => r = .returned (.agg (cS ⟨#[117, 112]⟩ 1 3 0 0 (.slice none 0 0) false 0 (.slice none 0 0))) ∧ Below W.heap.size W w')) := fun W => hHd (leaf_any nUp 3 W)
 have N3 : ∀ W, Hid (Calls Tryz.prog 70 #[.string ⟨#[113, 117, 97, 110, 116, 117, 109]⟩, .int .i64 1, .int .u64 1500, .int .u64 100000] W (fun r w' => r = .returned (.agg (cS ⟨#[113, 117, 97, 110, 116, 117, 109]⟩ 1 1 1500 100000 (.slice none 0 0) false 0 (.slice none 0 0))) ∧ Below W.heap.size W w')) := fun W => hHd (number_any nQuantum 1 1500 100000 W)
 have N4 : ∀ W, Hid (Calls Tryz.prog 69 #[.agg (cS ⟨#[113, 117, 97, 110, 116, 117, 109]⟩ 1 1 1500 100000 (.slice none 0 0) false 0 (.slice none 0 0))] W (fun r w' => r = .returned (.agg (cS ⟨#[113, 117, 97, 110, 116, 117, 109]⟩ 1 1 1500 100000 (.slice none 0 0) true 0 (.slice none 0 0))) ∧ Below W.heap.size W w')) := fun W => hHd (must_any ⟨nQuantum, 1, 1, 1500, 100000, [], false, 0⟩ none none 0 0 0 0 W)
 have N5 : ∀ W, Hid (Calls Tryz.prog 70 #[.string ⟨#[114, 97, 116, 101]⟩, .int .i64 2, .int .u64 0, .int .u64 1000000] W (fun r w' => r = .returned (.agg (cS ⟨#[114, 97, 116, 101]⟩ 1 2 0 1000000 (.slice none 0 0) false 0 (.slice none 0 0))) ∧ Below W.heap.size W w')) := fun W => hHd (number_any nRate 2 0 1000000 W)
 have N6 : ∀ W, Hid (Calls Tryz.prog 69 #[.agg (cS ⟨#[114, 97, 116, 101]⟩ 1 2 0 1000000 (.slice none 0 0) false 0 (.slice none 0 0))] W (fun r w' => r = .returned (.agg (cS ⟨#[114, 97, 116, 101]⟩ 1 2 0 1000000 (.slice none 0 0) true 0 (.slice none 0 0))) ∧ Below W.heap.size W w')) := fun W => hHd (must_any ⟨nRate, 1, 2, 0, 1000000, [], false, 0⟩ none none 0 0 0 0 W)
 have N7 : ∀ W, Hid (Calls Tryz.prog 70 #[.string ⟨#[98, 117, 114, 115, 116]⟩, .int .i64 1, .int .u64 1500, .int .u64 1000000] W (fun r w' => r = .returned (.agg (cS ⟨#[98, 117, 114, 115, 116]⟩ 1 1 1500 1000000 (.slice none 0 0) false 0 (.slice none 0 0))) ∧ Below W.heap.size W w')) := fun W => hHd (number_any nBurst 1 1500 1000000 W)
 have N8 : ∀ W, Hid (Calls Tryz.prog 69 #[.agg (cS ⟨#[98, 117, 114, 115, 116]⟩ 1 1 1500 1000000 (.slice none 0 0) false 0 (.slice none 0 0))] W (fun r w' => r = .returned (.agg (cS ⟨#[98, 117, 114, 115, 116]⟩ 1 1 1500 1000000 (.slice none 0 0) true 0 (.slice none 0 0))) ∧ Below W.heap.size W w')) := fun W => hHd (must_any ⟨nBurst, 1, 1, 1500, 1000000, [], false, 0⟩ none none 0 0 0 0 W)
 have N9 : ∀ W, Hid (Calls Tryz.prog 70 #[.string ⟨#[108, 105, 109, 105, 116]⟩, .int .i64 1, .int .u64 1, .int .u64 64] W (fun r w' => r = .returned (.agg (cS ⟨#[108, 105, 109, 105, 116]⟩ 1 1 1 64 (.slice none 0 0) false 0 (.slice none 0 0))) ∧ Below W.heap.size W w')) := fun W => hHd (number_any nLimit 1 1 64 W)
 have N10 : ∀ W, Hid (Calls Tryz.prog 69 #[.agg (cS ⟨#[108, 105, 109, 105, 116]⟩ 1 1 1 64 (.slice none 0 0) false 0 (.slice none 0 0))] W (fun r w' => r = .returned (.agg (cS ⟨#[108, 105, 109, 105, 116]⟩ 1 1 1 64 (.slice none 0 0) true 0 (.slice none 0 0))) ∧ Below W.heap.size W w')) := fun W => hHd (must_any ⟨nLimit, 1, 1, 1, 64, [], false, 0⟩ none none 0 0 0 0 W)
 have N11 : ∀ W g, Hid (Calls Tryz.prog 68 #[.string ⟨#[99, 108, 97, 115, 115]⟩, .int .i64 8, .slice (some ⟨g, 0, none⟩) 4 4] W (fun r w' => r = .returned (.agg (cS ⟨#[99, 108, 97, 115, 115]⟩ 3 0 0 0 (.slice none 0 0) false 8 (.slice (some ⟨g, 0, none⟩) 4 4))) ∧ Below W.heap.size W w')) := fun W g => hHd (list_any nClass 8 (some ⟨g, 0, none⟩) 4 4 W)
 have N12 : ∀ W, Hid (Calls Tryz.prog 70 #[.string ⟨#[108, 111, 119]⟩, .int .i64 1, .int .u64 0, .int .u64 65535] W (fun r w' => r = .returned (.agg (cS ⟨#[108, 111, 119]⟩ 1 1 0 65535 (.slice none 0 0) false 0 (.slice none 0 0))) ∧ Below W.heap.size W w')) := fun W => hHd (number_any nLow 1 0 65535 W)
 have N13 : ∀ W, Hid (Calls Tryz.prog 69 #[.agg (cS ⟨#[108, 111, 119]⟩ 1 1 0 65535 (.slice none 0 0) false 0 (.slice none 0 0))] W (fun r w' => r = .returned (.agg (cS ⟨#[108, 111, 119]⟩ 1 1 0 65535 (.slice none 0 0) true 0 (.slice none 0 0))) ∧ Below W.heap.size W w')) := fun W => hHd (must_any ⟨nLow, 1, 1, 0, 65535, [], false, 0⟩ none none 0 0 0 0 W)
 have N14 : ∀ W, Hid (Calls Tryz.prog 70 #[.string ⟨#[104, 105, 103, 104]⟩, .int .i64 1, .int .u64 0, .int .u64 65535] W (fun r w' => r = .returned (.agg (cS ⟨#[104, 105, 103, 104]⟩ 1 1 0 65535 (.slice none 0 0) false 0 (.slice none 0 0))) ∧ Below W.heap.size W w')) := fun W => hHd (number_any nHigh 1 0 65535 W)
 have N15 : ∀ W, Hid (Calls Tryz.prog 69 #[.agg (cS ⟨#[104, 105, 103, 104]⟩ 1 1 0 65535 (.slice none 0 0) false 0 (.slice none 0 0))] W (fun r w' => r = .returned (.agg (cS ⟨#[104, 105, 103, 104]⟩ 1 1 0 65535 (.slice none 0 0) true 0 (.slice none 0 0))) ∧ Below W.heap.size W w')) := fun W => hHd (must_any ⟨nHigh, 1, 1, 0, 65535, [], false, 0⟩ none none 0 0 0 0 W)
 have N16 : ∀ W, Hid (Calls Tryz.prog 67 #[.string ⟨#[99, 108, 97, 115, 115]⟩, .int .i64 6] W (fun r w' => r = .returned (.agg (cS ⟨#[99, 108, 97, 115, 115]⟩ 1 6 0 0 (.slice none 0 0) false 0 (.slice none 0 0))) ∧ Below W.heap.size W w')) := fun W => hHd (leaf_any nClass 6 W)
 have N17 : ∀ W, Hid (Calls Tryz.prog 69 #[.agg (cS ⟨#[99, 108, 97, 115, 115]⟩ 1 6 0 0 (.slice none 0 0) false 0 (.slice none 0 0))] W (fun r w' => r = .returned (.agg (cS ⟨#[99, 108, 97, 115, 115]⟩ 1 6 0 0 (.slice none 0 0) true 0 (.slice none 0 0))) ∧ Below W.heap.size W w')) := fun W => hHd (must_any ⟨nClass, 1, 6, 0, 0, [], false, 0⟩ none none 0 0 0 0 W)
 have N18 : ∀ W g, Hid (Calls Tryz.prog 68 #[.string ⟨#[114, 117, 108, 101]⟩, .int .i64 16, .slice (some ⟨g, 0, none⟩) 3 3] W (fun r w' => r = .returned (.agg (cS ⟨#[114, 117, 108, 101]⟩ 3 0 0 0 (.slice none 0 0) false 16 (.slice (some ⟨g, 0, none⟩) 3 3))) ∧ Below W.heap.size W w')) := fun W g => hHd (list_any nRule 16 (some ⟨g, 0, none⟩) 3 3 W)
 have N19 : ∀ W, Hid (Calls Tryz.prog 67 #[.string ⟨#[100, 101, 102, 97, 117, 108, 116]⟩, .int .i64 6] W (fun r w' => r = .returned (.agg (cS ⟨#[100, 101, 102, 97, 117, 108, 116]⟩ 1 6 0 0 (.slice none 0 0) false 0 (.slice none 0 0))) ∧ Below W.heap.size W w')) := fun W => hHd (leaf_any nDefault 6 W)
 have N20 : ∀ W, Hid (Calls Tryz.prog 69 #[.agg (cS ⟨#[100, 101, 102, 97, 117, 108, 116]⟩ 1 6 0 0 (.slice none 0 0) false 0 (.slice none 0 0))] W (fun r w' => r = .returned (.agg (cS ⟨#[100, 101, 102, 97, 117, 108, 116]⟩ 1 6 0 0 (.slice none 0 0) true 0 (.slice none 0 0))) ∧ Below W.heap.size W w')) := fun W => hHd (must_any ⟨nDefault, 1, 6, 0, 0, [], false, 0⟩ none none 0 0 0 0 W)
 have N21 : ∀ W g, Hid (Calls Tryz.prog 68 #[.string ⟨#[112, 111, 114, 116]⟩, .int .i64 4, .slice (some ⟨g, 0, none⟩) 4 4] W (fun r w' => r = .returned (.agg (cS ⟨#[112, 111, 114, 116]⟩ 3 0 0 0 (.slice none 0 0) false 4 (.slice (some ⟨g, 0, none⟩) 4 4))) ∧ Below W.heap.size W w')) := fun W g => hHd (list_any nPort 4 (some ⟨g, 0, none⟩) 4 4 W)
 have N22 : ∀ W g, Hid (Calls Tryz.prog 66 #[.string ⟨#[]⟩, .slice (some ⟨g, 0, none⟩) 2 2] W (fun r w' => r = .returned (.agg (cS ⟨#[]⟩ 2 0 0 0 (.slice none 0 0) false 0 (.slice (some ⟨g, 0, none⟩) 2 2))) ∧ Below W.heap.size W w')) := fun W g => hHd (box_any [] (some ⟨g, 0, none⟩) 2 2 W)
 have H0 : Hid (Below w.heap.size w (w.alloc (.cells (cS ⟨#[]⟩ 0 0 0 0 (.slice none 0 0) false 0 (.slice none 0 0)) 61))) := hHd bAl
 have R0 : Hid (Blk (w.alloc (.cells (cS ⟨#[]⟩ 0 0 0 0 (.slice none 0 0) false 0 (.slice none 0 0)) 61)) w.heap.size 61 (cS ⟨#[]⟩ 0 0 0 0 (.slice none 0 0) false 0 (.slice none 0 0))) := hHd (Blk.new w _ _)
 go_enter Tryz.func39, Tryz.ntmps39
 go_wp2_with fail
 refine (N1 _).out.mono ?_
 rintro r w1 ⟨rfl, hB⟩
 have H1 : Hid (Below w.heap.size w w1) := hHd (H0.out.trans (hB.mono H0.out.size))
 have R1 : Hid (Blk w1 w.heap.size 61 (cS ⟨#[]⟩ 0 0 0 0 (.slice none 0 0) false 0 (.slice none 0 0))) := hHd (R0.out.below hB R0.out.lt)
 clear hB H0 R0
 go_wp2_with fail
 refine (N2 _).out.mono ?_
 rintro r w2 ⟨rfl, hB⟩
 have H2 : Hid (Below w.heap.size w w2) := hHd (H1.out.trans (hB.mono H1.out.size))
 have R2 : Hid (Blk w2 w.heap.size 61 (cS ⟨#[]⟩ 0 0 0 0 (.slice none 0 0) false 0 (.slice none 0 0))) := hHd (R1.out.below hB R1.out.lt)
 clear hB H1 R1
 go_wp2_with fail
 refine (N3 _).out.mono ?_
 rintro r w3 ⟨rfl, hB⟩
 have H3 : Hid (Below w.heap.size w w3) := hHd (H2.out.trans (hB.mono H2.out.size))
 have R3 : Hid (Blk w3 w.heap.size 61 (cS ⟨#[]⟩ 0 0 0 0 (.slice none 0 0) false 0 (.slice none 0 0))) := hHd (R2.out.below hB R2.out.lt)
 clear hB H2 R2
 go_wp2_with fail
 refine (N4 _).out.mono ?_
 rintro r w4 ⟨rfl, hB⟩
 have H4 : Hid (Below w.heap.size w w4) := hHd (H3.out.trans (hB.mono H3.out.size))
 have R4 : Hid (Blk w4 w.heap.size 61 (cS ⟨#[]⟩ 0 0 0 0 (.slice none 0 0) false 0 (.slice none 0 0))) := hHd (R3.out.below hB R3.out.lt)
 clear hB H3 R3
 go_wp2_with fail
 refine (N5 _).out.mono ?_
 rintro r w5 ⟨rfl, hB⟩
 have H5 : Hid (Below w.heap.size w w5) := hHd (H4.out.trans (hB.mono H4.out.size))
 have R5 : Hid (Blk w5 w.heap.size 61 (cS ⟨#[]⟩ 0 0 0 0 (.slice none 0 0) false 0 (.slice none 0 0))) := hHd (R4.out.below hB R4.out.lt)
 clear hB H4 R4
 go_wp2_with fail
 refine (N6 _).out.mono ?_
 rintro r w6 ⟨rfl, hB⟩
 have H6 : Hid (Below w.heap.size w w6) := hHd (H5.out.trans (hB.mono H5.out.size))
 have R6 : Hid (Blk w6 w.heap.size 61 (cS ⟨#[]⟩ 0 0 0 0 (.slice none 0 0) false 0 (.slice none 0 0))) := hHd (R5.out.below hB R5.out.lt)
 clear hB H5 R5
 go_wp2_with fail
 refine (N7 _).out.mono ?_
 rintro r w7 ⟨rfl, hB⟩
 have H7 : Hid (Below w.heap.size w w7) := hHd (H6.out.trans (hB.mono H6.out.size))
 have R7 : Hid (Blk w7 w.heap.size 61 (cS ⟨#[]⟩ 0 0 0 0 (.slice none 0 0) false 0 (.slice none 0 0))) := hHd (R6.out.below hB R6.out.lt)
 clear hB H6 R6
 go_wp2_with fail
 refine (N8 _).out.mono ?_
 rintro r w8 ⟨rfl, hB⟩
 have H8 : Hid (Below w.heap.size w w8) := hHd (H7.out.trans (hB.mono H7.out.size))
 have R8 : Hid (Blk w8 w.heap.size 61 (cS ⟨#[]⟩ 0 0 0 0 (.slice none 0 0) false 0 (.slice none 0 0))) := hHd (R7.out.below hB R7.out.lt)
 clear hB H7 R7
 go_wp2_with fail
 refine (N9 _).out.mono ?_
 rintro r w9 ⟨rfl, hB⟩
 have H9 : Hid (Below w.heap.size w w9) := hHd (H8.out.trans (hB.mono H8.out.size))
 have R9 : Hid (Blk w9 w.heap.size 61 (cS ⟨#[]⟩ 0 0 0 0 (.slice none 0 0) false 0 (.slice none 0 0))) := hHd (R8.out.below hB R8.out.lt)
 clear hB H8 R8
 go_wp2_with fail
 refine (N10 _).out.mono ?_
 rintro r w10 ⟨rfl, hB⟩
 have H10 : Hid (Below w.heap.size w w10) := hHd (H9.out.trans (hB.mono H9.out.size))
 have R10 : Hid (Blk w10 w.heap.size 61 (cS ⟨#[]⟩ 0 0 0 0 (.slice none 0 0) false 0 (.slice none 0 0))) := hHd (R9.out.below hB R9.out.lt)
 clear hB H9 R9
 have HS1 : Hid (Below w.heap.size w (w10.alloc (.cells lQ4 61))) := hHd (H10.out.alloc H10.out.size _)
 have RS1 : Hid (Blk (w10.alloc (.cells lQ4 61)) w.heap.size 61 (cS ⟨#[]⟩ 0 0 0 0 (.slice none 0 0) false 0 (.slice none 0 0))) := hHd (R10.out.alloc _)
 have KS1_1 : Hid (Blk (w10.alloc (.cells lQ4 61)) w10.heap.size 61 lQ4) := hHd (Blk.new w10 _ _)
 have G1 : Hid (w.heap.size < w10.heap.size) := hHd (R10.out.lt)
 go_wp2_with fail
 refine (N11 _ _).out.mono ?_
 rintro r w11 ⟨rfl, hB⟩
 have H11 : Hid (Below w.heap.size w w11) := hHd (HS1.out.trans (hB.mono HS1.out.size))
 have R11 : Hid (Blk w11 w.heap.size 61 (cS ⟨#[]⟩ 0 0 0 0 (.slice none 0 0) false 0 (.slice none 0 0))) := hHd (RS1.out.below hB RS1.out.lt)
 have K11_1 : Hid (Blk w11 w10.heap.size 61 lQ4) := hHd (KS1_1.out.below hB KS1_1.out.lt)
 clear hB HS1 RS1 KS1_1
 go_wp2_with fail
 refine (N12 _).out.mono ?_
 rintro r w12 ⟨rfl, hB⟩
 have H12 : Hid (Below w.heap.size w w12) := hHd (H11.out.trans (hB.mono H11.out.size))
 have R12 : Hid (Blk w12 w.heap.size 61 (cS ⟨#[]⟩ 0 0 0 0 (.slice none 0 0) false 0 (.slice none 0 0))) := hHd (R11.out.below hB R11.out.lt)
 have K12_1 : Hid (Blk w12 w10.heap.size 61 lQ4) := hHd (K11_1.out.below hB K11_1.out.lt)
 clear hB H11 R11 K11_1
 go_wp2_with fail
 refine (N13 _).out.mono ?_
 rintro r w13 ⟨rfl, hB⟩
 have H13 : Hid (Below w.heap.size w w13) := hHd (H12.out.trans (hB.mono H12.out.size))
 have R13 : Hid (Blk w13 w.heap.size 61 (cS ⟨#[]⟩ 0 0 0 0 (.slice none 0 0) false 0 (.slice none 0 0))) := hHd (R12.out.below hB R12.out.lt)
 have K13_1 : Hid (Blk w13 w10.heap.size 61 lQ4) := hHd (K12_1.out.below hB K12_1.out.lt)
 clear hB H12 R12 K12_1
 go_wp2_with fail
 refine (N14 _).out.mono ?_
 rintro r w14 ⟨rfl, hB⟩
 have H14 : Hid (Below w.heap.size w w14) := hHd (H13.out.trans (hB.mono H13.out.size))
 have R14 : Hid (Blk w14 w.heap.size 61 (cS ⟨#[]⟩ 0 0 0 0 (.slice none 0 0) false 0 (.slice none 0 0))) := hHd (R13.out.below hB R13.out.lt)
 have K14_1 : Hid (Blk w14 w10.heap.size 61 lQ4) := hHd (K13_1.out.below hB K13_1.out.lt)
 clear hB H13 R13 K13_1
 go_wp2_with fail
 refine (N15 _).out.mono ?_
 rintro r w15 ⟨rfl, hB⟩
 have H15 : Hid (Below w.heap.size w w15) := hHd (H14.out.trans (hB.mono H14.out.size))
 have R15 : Hid (Blk w15 w.heap.size 61 (cS ⟨#[]⟩ 0 0 0 0 (.slice none 0 0) false 0 (.slice none 0 0))) := hHd (R14.out.below hB R14.out.lt)
 have K15_1 : Hid (Blk w15 w10.heap.size 61 lQ4) := hHd (K14_1.out.below hB K14_1.out.lt)
 clear hB H14 R14 K14_1
 go_wp2_with fail
 refine (N16 _).out.mono ?_
 rintro r w16 ⟨rfl, hB⟩
 have H16 : Hid (Below w.heap.size w w16) := hHd (H15.out.trans (hB.mono H15.out.size))
 have R16 : Hid (Blk w16 w.heap.size 61 (cS ⟨#[]⟩ 0 0 0 0 (.slice none 0 0) false 0 (.slice none 0 0))) := hHd (R15.out.below hB R15.out.lt)
 have K16_1 : Hid (Blk w16 w10.heap.size 61 lQ4) := hHd (K15_1.out.below hB K15_1.out.lt)
 clear hB H15 R15 K15_1
 go_wp2_with fail
 refine (N17 _).out.mono ?_
 rintro r w17 ⟨rfl, hB⟩
 have H17 : Hid (Below w.heap.size w w17) := hHd (H16.out.trans (hB.mono H16.out.size))
 have R17 : Hid (Blk w17 w.heap.size 61 (cS ⟨#[]⟩ 0 0 0 0 (.slice none 0 0) false 0 (.slice none 0 0))) := hHd (R16.out.below hB R16.out.lt)
 have K17_1 : Hid (Blk w17 w10.heap.size 61 lQ4) := hHd (K16_1.out.below hB K16_1.out.lt)
 clear hB H16 R16 K16_1
 have HS2 : Hid (Below w.heap.size w (w17.alloc (.cells lLo 61))) := hHd (H17.out.alloc H17.out.size _)
 have RS2 : Hid (Blk (w17.alloc (.cells lLo 61)) w.heap.size 61 (cS ⟨#[]⟩ 0 0 0 0 (.slice none 0 0) false 0 (.slice none 0 0))) := hHd (R17.out.alloc _)
 have KS2_1 : Hid (Blk (w17.alloc (.cells lLo 61)) w10.heap.size 61 lQ4) := hHd (K17_1.out.alloc _)
 have D2_1 : Hid (w10.heap.size < w17.heap.size) := hHd (K17_1.out.lt)
 have KS2_2 : Hid (Blk (w17.alloc (.cells lLo 61)) w17.heap.size 61 lLo) := hHd (Blk.new w17 _ _)
 have G2 : Hid (w.heap.size < w17.heap.size) := hHd (R17.out.lt)
 go_wp2_with fail
 refine (N18 _ _).out.mono ?_
 rintro r w18 ⟨rfl, hB⟩
 have H18 : Hid (Below w.heap.size w w18) := hHd (HS2.out.trans (hB.mono HS2.out.size))
 have R18 : Hid (Blk w18 w.heap.size 61 (cS ⟨#[]⟩ 0 0 0 0 (.slice none 0 0) false 0 (.slice none 0 0))) := hHd (RS2.out.below hB RS2.out.lt)
 have K18_1 : Hid (Blk w18 w10.heap.size 61 lQ4) := hHd (KS2_1.out.below hB KS2_1.out.lt)
 have K18_2 : Hid (Blk w18 w17.heap.size 61 lLo) := hHd (KS2_2.out.below hB KS2_2.out.lt)
 clear hB HS2 RS2 KS2_1 KS2_2
 go_wp2_with fail
 refine (N19 _).out.mono ?_
 rintro r w19 ⟨rfl, hB⟩
 have H19 : Hid (Below w.heap.size w w19) := hHd (H18.out.trans (hB.mono H18.out.size))
 have R19 : Hid (Blk w19 w.heap.size 61 (cS ⟨#[]⟩ 0 0 0 0 (.slice none 0 0) false 0 (.slice none 0 0))) := hHd (R18.out.below hB R18.out.lt)
 have K19_1 : Hid (Blk w19 w10.heap.size 61 lQ4) := hHd (K18_1.out.below hB K18_1.out.lt)
 have K19_2 : Hid (Blk w19 w17.heap.size 61 lLo) := hHd (K18_2.out.below hB K18_2.out.lt)
 clear hB H18 R18 K18_1 K18_2
 go_wp2_with fail
 refine (N20 _).out.mono ?_
 rintro r w20 ⟨rfl, hB⟩
 have H20 : Hid (Below w.heap.size w w20) := hHd (H19.out.trans (hB.mono H19.out.size))
 have R20 : Hid (Blk w20 w.heap.size 61 (cS ⟨#[]⟩ 0 0 0 0 (.slice none 0 0) false 0 (.slice none 0 0))) := hHd (R19.out.below hB R19.out.lt)
 have K20_1 : Hid (Blk w20 w10.heap.size 61 lQ4) := hHd (K19_1.out.below hB K19_1.out.lt)
 have K20_2 : Hid (Blk w20 w17.heap.size 61 lLo) := hHd (K19_2.out.below hB K19_2.out.lt)
 clear hB H19 R19 K19_1 K19_2
 have HS3 : Hid (Below w.heap.size w (w20.alloc (.cells (lUp (.slice (some ⟨w10.heap.size, 0, none⟩) 4 4) (.slice (some ⟨w17.heap.size, 0, none⟩) 3 3)) 61))) := hHd (H20.out.alloc H20.out.size _)
 have RS3 : Hid (Blk (w20.alloc (.cells (lUp (.slice (some ⟨w10.heap.size, 0, none⟩) 4 4) (.slice (some ⟨w17.heap.size, 0, none⟩) 3 3)) 61)) w.heap.size 61 (cS ⟨#[]⟩ 0 0 0 0 (.slice none 0 0) false 0 (.slice none 0 0))) := hHd (R20.out.alloc _)
 have KS3_1 : Hid (Blk (w20.alloc (.cells (lUp (.slice (some ⟨w10.heap.size, 0, none⟩) 4 4) (.slice (some ⟨w17.heap.size, 0, none⟩) 3 3)) 61)) w10.heap.size 61 lQ4) := hHd (K20_1.out.alloc _)
 have KS3_2 : Hid (Blk (w20.alloc (.cells (lUp (.slice (some ⟨w10.heap.size, 0, none⟩) 4 4) (.slice (some ⟨w17.heap.size, 0, none⟩) 3 3)) 61)) w17.heap.size 61 lLo) := hHd (K20_2.out.alloc _)
 have D3_1 : Hid (w10.heap.size < w20.heap.size) := hHd (K20_1.out.lt)
 have D3_2 : Hid (w17.heap.size < w20.heap.size) := hHd (K20_2.out.lt)
 have KS3_3 : Hid (Blk (w20.alloc (.cells (lUp (.slice (some ⟨w10.heap.size, 0, none⟩) 4 4) (.slice (some ⟨w17.heap.size, 0, none⟩) 3 3)) 61)) w20.heap.size 61 (lUp (.slice (some ⟨w10.heap.size, 0, none⟩) 4 4) (.slice (some ⟨w17.heap.size, 0, none⟩) 3 3))) := hHd (Blk.new w20 _ _)
 have G3 : Hid (w.heap.size < w20.heap.size) := hHd (R20.out.lt)
 go_wp2_with fail
 refine (N21 _ _).out.mono ?_
 rintro r w21 ⟨rfl, hB⟩
 have H21 : Hid (Below w.heap.size w w21) := hHd (HS3.out.trans (hB.mono HS3.out.size))
 have R21 : Hid (Blk w21 w.heap.size 61 (cS ⟨#[]⟩ 0 0 0 0 (.slice none 0 0) false 0 (.slice none 0 0))) := hHd (RS3.out.below hB RS3.out.lt)
 have K21_1 : Hid (Blk w21 w10.heap.size 61 lQ4) := hHd (KS3_1.out.below hB KS3_1.out.lt)
 have K21_2 : Hid (Blk w21 w17.heap.size 61 lLo) := hHd (KS3_2.out.below hB KS3_2.out.lt)
 have K21_3 : Hid (Blk w21 w20.heap.size 61 (lUp (.slice (some ⟨w10.heap.size, 0, none⟩) 4 4) (.slice (some ⟨w17.heap.size, 0, none⟩) 3 3))) := hHd (KS3_3.out.below hB KS3_3.out.lt)
 clear hB HS3 RS3 KS3_1 KS3_2 KS3_3
 have HS4 : Hid (Below w.heap.size w (w21.alloc (.cells (lSy (.slice (some ⟨w20.heap.size, 0, none⟩) 4 4)) 61))) := hHd (H21.out.alloc H21.out.size _)
 have RS4 : Hid (Blk (w21.alloc (.cells (lSy (.slice (some ⟨w20.heap.size, 0, none⟩) 4 4)) 61)) w.heap.size 61 (cS ⟨#[]⟩ 0 0 0 0 (.slice none 0 0) false 0 (.slice none 0 0))) := hHd (R21.out.alloc _)
 have KS4_1 : Hid (Blk (w21.alloc (.cells (lSy (.slice (some ⟨w20.heap.size, 0, none⟩) 4 4)) 61)) w10.heap.size 61 lQ4) := hHd (K21_1.out.alloc _)
 have KS4_2 : Hid (Blk (w21.alloc (.cells (lSy (.slice (some ⟨w20.heap.size, 0, none⟩) 4 4)) 61)) w17.heap.size 61 lLo) := hHd (K21_2.out.alloc _)
 have KS4_3 : Hid (Blk (w21.alloc (.cells (lSy (.slice (some ⟨w20.heap.size, 0, none⟩) 4 4)) 61)) w20.heap.size 61 (lUp (.slice (some ⟨w10.heap.size, 0, none⟩) 4 4) (.slice (some ⟨w17.heap.size, 0, none⟩) 3 3))) := hHd (K21_3.out.alloc _)
 have D4_1 : Hid (w10.heap.size < w21.heap.size) := hHd (K21_1.out.lt)
 have D4_2 : Hid (w17.heap.size < w21.heap.size) := hHd (K21_2.out.lt)
 have D4_3 : Hid (w20.heap.size < w21.heap.size) := hHd (K21_3.out.lt)
 have KS4_4 : Hid (Blk (w21.alloc (.cells (lSy (.slice (some ⟨w20.heap.size, 0, none⟩) 4 4)) 61)) w21.heap.size 61 (lSy (.slice (some ⟨w20.heap.size, 0, none⟩) 4 4))) := hHd (Blk.new w21 _ _)
 have G4 : Hid (w.heap.size < w21.heap.size) := hHd (R21.out.lt)
 go_wp2_with fail
 refine (N22 _ _).out.mono ?_
 rintro r w22 ⟨rfl, hB⟩
 have H22 : Hid (Below w.heap.size w w22) := hHd (HS4.out.trans (hB.mono HS4.out.size))
 have R22 : Hid (Blk w22 w.heap.size 61 (cS ⟨#[]⟩ 0 0 0 0 (.slice none 0 0) false 0 (.slice none 0 0))) := hHd (RS4.out.below hB RS4.out.lt)
 have K22_1 : Hid (Blk w22 w10.heap.size 61 lQ4) := hHd (KS4_1.out.below hB KS4_1.out.lt)
 have K22_2 : Hid (Blk w22 w17.heap.size 61 lLo) := hHd (KS4_2.out.below hB KS4_2.out.lt)
 have K22_3 : Hid (Blk w22 w20.heap.size 61 (lUp (.slice (some ⟨w10.heap.size, 0, none⟩) 4 4) (.slice (some ⟨w17.heap.size, 0, none⟩) 3 3))) := hHd (KS4_3.out.below hB KS4_3.out.lt)
 have K22_4 : Hid (Blk w22 w21.heap.size 61 (lSy (.slice (some ⟨w20.heap.size, 0, none⟩) 4 4))) := hHd (KS4_4.out.below hB KS4_4.out.lt)
 clear hB HS4 RS4 KS4_1 KS4_2 KS4_3 KS4_4
 have RE : Hid (Blk (set9 w22 w.heap.size (.string ⟨#[]⟩) (.int .i64 2) (.int .i64 0) (.int .u64 0) (.int .u64 0) (.slice none 0 0) (.bool false) (.int .i64 0) (.slice (some ⟨w21.heap.size, 0, none⟩) 2 2)) w.heap.size 61 (cS ⟨#[]⟩ 2 0 0 0 (.slice none 0 0) false 0 (.slice (some ⟨w21.heap.size, 0, none⟩) 2 2))) := hHd (R22.out.set9 _ _ _ _ _ _ _ _ _)
 have HE : Hid (Below w.heap.size w (set9 w22 w.heap.size (.string ⟨#[]⟩) (.int .i64 2) (.int .i64 0) (.int .u64 0) (.int .u64 0) (.slice none 0 0) (.bool false) (.int .i64 0) (.slice (some ⟨w21.heap.size, 0, none⟩) 2 2))) := hHd (H22.out.trans (set9_below (Nat.le_refl _)))
 have KE1 : Hid (Blk (set9 w22 w.heap.size (.string ⟨#[]⟩) (.int .i64 2) (.int .i64 0) (.int .u64 0) (.int .u64 0) (.slice none 0 0) (.bool false) (.int .i64 0) (.slice (some ⟨w21.heap.size, 0, none⟩) 2 2)) w10.heap.size 61 lQ4) := hHd ((set9_other (by have := G1.out; omega)).trans K22_1.out)
 have KE2 : Hid (Blk (set9 w22 w.heap.size (.string ⟨#[]⟩) (.int .i64 2) (.int .i64 0) (.int .u64 0) (.int .u64 0) (.slice none 0 0) (.bool false) (.int .i64 0) (.slice (some ⟨w21.heap.size, 0, none⟩) 2 2)) w17.heap.size 61 lLo) := hHd ((set9_other (by have := G2.out; omega)).trans K22_2.out)
 have KE3 : Hid (Blk (set9 w22 w.heap.size (.string ⟨#[]⟩) (.int .i64 2) (.int .i64 0) (.int .u64 0) (.int .u64 0) (.slice none 0 0) (.bool false) (.int .i64 0) (.slice (some ⟨w21.heap.size, 0, none⟩) 2 2)) w20.heap.size 61 (lUp (.slice (some ⟨w10.heap.size, 0, none⟩) 4 4) (.slice (some ⟨w17.heap.size, 0, none⟩) 3 3))) := hHd ((set9_other (by have := G3.out; omega)).trans K22_3.out)
 have KE4 : Hid (Blk (set9 w22 w.heap.size (.string ⟨#[]⟩) (.int .i64 2) (.int .i64 0) (.int .u64 0) (.int .u64 0) (.slice none 0 0) (.bool false) (.int .i64 0) (.slice (some ⟨w21.heap.size, 0, none⟩) 2 2)) w21.heap.size 61 (lSy (.slice (some ⟨w20.heap.size, 0, none⟩) 4 4))) := hHd ((set9_other (by have := G4.out; omega)).trans K22_4.out)
 have NX : Hid (NewX w.heap.size (set9 w22 w.heap.size (.string ⟨#[]⟩) (.int .i64 2) (.int .i64 0) (.int .u64 0) (.int .u64 0) (.slice none 0 0) (.bool false) (.int .i64 0) (.slice (some ⟨w21.heap.size, 0, none⟩) 2 2)) (spC rootD (.slice none 0 0) (.slice (some ⟨w21.heap.size, 0, none⟩) 2 2)) (rootD, rootF 1)) := hHd (first_new G1.out G2.out G3.out G4.out D2_1.out D3_1.out D3_2.out D4_1.out D4_2.out D4_3.out KE1.out KE2.out KE3.out KE4.out)
 clear KE1 KE2 KE3 KE4 D2_1 D3_1 D3_2 D4_1 D4_2 D4_3 G1 G2 G3 G4 H22 K22_1 K22_2 K22_3 K22_4 N1 N2 N3 N4 N5 N6 N7 N8 N9 N10 N11 N12 N13 N14 N15 N16 N17 N18 N19 N20 N21 N22
 have f0 : w22.frozen? ⟨w.heap.size, 0, none⟩ = false := R22.out.frozen 0
 have f1 : w22.frozen? ⟨w.heap.size, 1, none⟩ = false := R22.out.frozen 1
 have f2 : w22.frozen? ⟨w.heap.size, 2, none⟩ = false := R22.out.frozen 2
 have f3 : w22.frozen? ⟨w.heap.size, 3, none⟩ = false := R22.out.frozen 3
 have f4 : w22.frozen? ⟨w.heap.size, 4, none⟩ = false := R22.out.frozen 4
 have f5 : w22.frozen? ⟨w.heap.size, 5, none⟩ = false := R22.out.frozen 5
 have f6 : w22.frozen? ⟨w.heap.size, 6, none⟩ = false := R22.out.frozen 6
 have f7 : w22.frozen? ⟨w.heap.size, 7, none⟩ = false := R22.out.frozen 7
 have f8 : w22.frozen? ⟨w.heap.size, 8, none⟩ = false := R22.out.frozen 8
 have q0 : w22.cell? ⟨w.heap.size, 0, none⟩ = some (.string ⟨#[]⟩) := R22.out.cell 0
 have q1 : w22.cell? ⟨w.heap.size, 1, none⟩ = some (.int .i64 0) := R22.out.cell 1
 have q2 : w22.cell? ⟨w.heap.size, 2, none⟩ = some (.int .i64 0) := R22.out.cell 2
 have q3 : w22.cell? ⟨w.heap.size, 3, none⟩ = some (.int .u64 0) := R22.out.cell 3
 have q4 : w22.cell? ⟨w.heap.size, 4, none⟩ = some (.int .u64 0) := R22.out.cell 4
 have q5 : w22.cell? ⟨w.heap.size, 5, none⟩ = some (.slice none 0 0) := R22.out.cell 5
 have q6 : w22.cell? ⟨w.heap.size, 6, none⟩ = some (.bool false) := R22.out.cell 6
 have q7 : w22.cell? ⟨w.heap.size, 7, none⟩ = some (.int .i64 0) := R22.out.cell 7
 have q8 : w22.cell? ⟨w.heap.size, 8, none⟩ = some (.slice none 0 0) := R22.out.cell 8
 clear R22
 go_wp2
 refine bodyPost_ret (results_cell_row rfl _ _ w.heap.size 61 _ (0, 0) _ rfl RE.out Tryz.underlying61 rfl (by kernel_rfl)) rfl ?_
 exact ⟨_, rfl, NX.out, HE.out⟩
end Go.Proofs.YtodlhgflfcadmaaGreat
