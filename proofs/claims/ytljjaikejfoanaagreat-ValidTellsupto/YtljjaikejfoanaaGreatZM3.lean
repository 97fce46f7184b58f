/- What ValidTells stands on: SpcRefB, SclRefC. -/
import Derived.Test.YtljjaikejfoanaaGreatZM0
import Derived.Test.YtljjaikejfoanaaGreatZM1
import Derived.Test.YtljjaikejfoanaaGreatZM2
import Derived.Laws.Rows
import Derived.Outline
set_option linter.unusedSimpArgs false
set_option linter.unusedVariables false
namespace Go.Proofs.YtljjaikejfoanaaGreat
open Go.RowKit
theorem infoS : (Tryz.prog.info? 41).map (fun i => (i.zero, i.size, i.bytes)) = some (some (.agg #[.string ⟨#[]⟩, .int .i64 0, .int .i64 0, .int .u64 0, .int .u64 0, .slice none 0 0, .bool false, .int .i64 0, .slice none 0 0]), 9, 112) := by kernel_rfl
theorem zeroS : (Value.agg #[.string ⟨#[]⟩, .int .i64 0, .int .i64 0, .int .u64 0, .int .u64 0, .slice none 0 0, .bool false, .int .i64 0, .slice none 0 0]).cells.size = 9 := by kernel_rfl
def spC (a : SpD) (nv kv : Value) : List Value := [.string (txt a.name), .int .i64 (a.kind : Int), .int .i64 (a.typ : Int), .int .u64 (a.low : Int), .int .u64 (a.high : Int), nv, .bool a.must, .int .i64 (a.most : Int), kv]
theorem leaf_n {w : World} {S N : Nat → Prop} {a : SpD} (h : a.names = []) : SpN w S N (spC a (.slice none 0 0) (.slice none 0 0)) (a, .nil) :=
  SpN.make (d := 0) (by rw [h]; exact ⟨none, 0, rfl, Nat.le_refl _, fun h => absurd h (by simp [txts])⟩) (by rw [h]; intro h; simp at h) (FrV.empty _ _ _)
theorem list_n {w : World} {S N : Nat → Prop} {a : SpD} {k : SpF} {kv : Value} (h : a.names = []) (hk : FrV SpcD 9 8 w S N kv k) : SpN w S N (spC a (.slice none 0 0) kv) (a, k) :=
  SpN.make (d := 0) (by rw [h]; exact ⟨none, 0, rfl, Nat.le_refl _, fun h => absurd h (by simp [txts])⟩) (by rw [h]; intro h; simp at h) hk
def NumP (a : SpD) (w : World) (r : Ending) (w' : World) : Prop := r = .returned (.agg (spC a (.slice none 0 0) (.slice none 0 0)).toArray) ∧ Below w.heap.size w w'
set_option maxRecDepth 100000 in
theorem srnum_any (n : List UInt8) (t lo hi : Nat) (w : World) : Calls Tryz.prog 26 #[.string (txt n), .int .i64 (t : Int), .int .u64 (lo : Int), .int .u64 (hi : Int)] w (NumP (numD n t lo hi) w) := by
  go_enter Tryz.func26, Tryz.ntmps26
  go_wp2
  exact bodyPost_ret (results_cell_row rfl _ _ w.heap.size 41 _ (0, 0) _ rfl (heap_alloc_new w _) Tryz.underlying41 rfl (by kernel_rfl)) rfl ⟨rfl, (Below.refl _ _).alloc (Nat.le_refl _) _⟩
theorem row_leaves {w : World} {S N : Nat → Prop} : ∀ (l : List SpD), (∀ a ∈ l, a.names = []) → rowG SpcD 9 8 w S N (l.flatMap fun a => spC a (.slice none 0 0) (.slice none 0 0)) (frOf (l.map fun a => (a, .nil))) := by
  intro l
  induction l with
  | nil => intro _; rfl
  | cons a l ih => intro h; exact ⟨_, _, rfl, leaf_n (h a (by simp)), ih (fun b hb => h b (by simp [hb]))⟩
def ClassP (v : Nat) (w : World) (r : Ending) (w' : World) : Prop := ∃ A c, r = .returned (.slice A (frOf (classL v)).len c) ∧ OwnG SpcD 41 9 8 w' w.heap.size (fun _ => False) (fun _ => False) (.slice A (frOf (classL v)).len c) (frOf (classL v)) ∧ Below w.heap.size w w'
set_option maxRecDepth 100000 in
set_option maxHeartbeats 2000000 in
theorem rclass_1 (w : World) : Calls Tryz.prog 27 #[.int .i64 1] w (ClassP 1 w) := by
  have N1 : ∀ W, Hid (Calls Tryz.prog 26 #[.string ⟨#[113, 117, 97, 110, 116, 117, 109]⟩, .int .i64 1, .int .u64 1500, .int .u64 100000] W (fun r w' => r = .returned (.agg #[.string ⟨#[113, 117, 97, 110, 116, 117, 109]⟩, .int .i64 1, .int .i64 1, .int .u64 1500, .int .u64 100000, .slice none 0 0, .bool true, .int .i64 0, .slice none 0 0]) ∧ Below W.heap.size W w')) := fun W => Lib.hid (srnum_any nQuantum 1 1500 100000 W)
  have N2 : ∀ W, Hid (Calls Tryz.prog 26 #[.string ⟨#[114, 97, 116, 101]⟩, .int .i64 2, .int .u64 0, .int .u64 1000000] W (fun r w' => r = .returned (.agg #[.string ⟨#[114, 97, 116, 101]⟩, .int .i64 1, .int .i64 2, .int .u64 0, .int .u64 1000000, .slice none 0 0, .bool true, .int .i64 0, .slice none 0 0]) ∧ Below W.heap.size W w')) := fun W => Lib.hid (srnum_any nRate 2 0 1000000 W)
  have N3 : ∀ W, Hid (Calls Tryz.prog 26 #[.string ⟨#[98, 117, 114, 115, 116]⟩, .int .i64 1, .int .u64 1500, .int .u64 1000000] W (fun r w' => r = .returned (.agg #[.string ⟨#[98, 117, 114, 115, 116]⟩, .int .i64 1, .int .i64 1, .int .u64 1500, .int .u64 1000000, .slice none 0 0, .bool true, .int .i64 0, .slice none 0 0]) ∧ Below W.heap.size W w')) := fun W => Lib.hid (srnum_any nBurst 1 1500 1000000 W)
  have N4 : ∀ W, Hid (Calls Tryz.prog 26 #[.string ⟨#[108, 105, 109, 105, 116]⟩, .int .i64 1, .int .u64 1, .int .u64 64] W (fun r w' => r = .returned (.agg #[.string ⟨#[108, 105, 109, 105, 116]⟩, .int .i64 1, .int .i64 1, .int .u64 1, .int .u64 64, .slice none 0 0, .bool true, .int .i64 0, .slice none 0 0]) ∧ Below W.heap.size W w')) := fun W => Lib.hid (srnum_any nLimit 1 1 64 W)
  go_enter Tryz.func27, Tryz.ntmps27
  go_wp2_with fail
  refine (N1 _).out.mono ?_
  rintro r w1 ⟨rfl, hB⟩
  have H1 := Lib.hid hB
  clear hB
  go_wp2_with fail
  refine (N2 _).out.mono ?_
  rintro r w2 ⟨rfl, hB⟩
  have H2 := Lib.hid (H1.out.trans (hB.mono H1.out.size))
  clear hB
  go_wp2_with fail
  refine (N3 _).out.mono ?_
  rintro r w3 ⟨rfl, hB⟩
  have H3 := Lib.hid (H2.out.trans (hB.mono H2.out.size))
  clear hB
  have HA : Hid (Below w.heap.size w (w3.alloc (.cells #[.string ⟨#[113, 117, 97, 110, 116, 117, 109]⟩, .int .i64 1, .int .i64 1, .int .u64 1500, .int .u64 100000, .slice none 0 0, .bool true, .int .i64 0, .slice none 0 0, .string ⟨#[114, 97, 116, 101]⟩, .int .i64 1, .int .i64 2, .int .u64 0, .int .u64 1000000, .slice none 0 0, .bool true, .int .i64 0, .slice none 0 0, .string ⟨#[98, 117, 114, 115, 116]⟩, .int .i64 1, .int .i64 1, .int .u64 1500, .int .u64 1000000, .slice none 0 0, .bool true, .int .i64 0, .slice none 0 0] 41))) := Lib.hid (H3.out.alloc H3.out.size _)
  have HO : Hid (OwnG SpcD 41 9 8 (w3.alloc (.cells #[.string ⟨#[113, 117, 97, 110, 116, 117, 109]⟩, .int .i64 1, .int .i64 1, .int .u64 1500, .int .u64 100000, .slice none 0 0, .bool true, .int .i64 0, .slice none 0 0, .string ⟨#[114, 97, 116, 101]⟩, .int .i64 1, .int .i64 2, .int .u64 0, .int .u64 1000000, .slice none 0 0, .bool true, .int .i64 0, .slice none 0 0, .string ⟨#[98, 117, 114, 115, 116]⟩, .int .i64 1, .int .i64 1, .int .u64 1500, .int .u64 1000000, .slice none 0 0, .bool true, .int .i64 0, .slice none 0 0] 41)) w.heap.size (fun _ => False) (fun _ => False) (.slice (some ⟨w3.heap.size, 0, none⟩) 3 3) (frOf [(numD nQuantum 1 1500 100000, .nil), (numD nRate 2 0 1000000, .nil), (numD nBurst 1 1500 1000000, .nil)])) := Lib.hid (OwnG.lit (Blk.new w3 _ _) H3.out.size (by decide) (row_leaves [numD nQuantum 1 1500 100000, numD nRate 2 0 1000000, numD nBurst 1 1500 1000000] (by decide)) (fun _ h => h.elim) (fun _ h => h.elim))
  go_wp2_with fail
  refine (N4 _).out.mono ?_
  rintro r w4 ⟨rfl, hB⟩
  have HO4 := Lib.hid ((HO.out.below stay_spc hB).below stay_spc ((Below.refl _ _).alloc (Nat.le_refl _) (.cells #[.string ⟨#[108, 105, 109, 105, 116]⟩, .int .i64 1, .int .i64 1, .int .u64 1, .int .u64 64, .slice none 0 0, .bool true, .int .i64 0, .slice none 0 0] 41)))
  have hb4 : Below w.heap.size w (w4.alloc (.cells #[.string ⟨#[108, 105, 109, 105, 116]⟩, .int .i64 1, .int .i64 1, .int .u64 1, .int .u64 64, .slice none 0 0, .bool true, .int .i64 0, .slice none 0 0] 41)) := (HA.out.trans (hB.mono HA.out.size)).alloc (Nat.le_trans HA.out.size hB.size) _
  have H4 := Lib.hid hb4
  clear hb4 hB
  go_wp2_with (at_builtin; refine wpList_append_g (ys := spC (numD nLimit 1 1 64) (.slice none 0 0) (.slice none 0 0)) stay_spc one_spc Tryz.underlying39 infoS zeroS (by decide) rfl (.tmp 10) (.tmp 12) rfl rfl rfl HO4.out rfl (Blk.new w4 _ _) (leaf_n rfl) ?h1 ?h2 H4.out.size ?_)
  case h1 => decide
  case h2 => decide
  intro v5 w5 hap
  have H5 := Lib.hid (H4.out.trans (hap.below HO4.out H4.out.size))
  have HO5 := Lib.hid hap.1
  obtain ⟨g5, c5, rfl⟩ := hap.2.2.2
  clear hap
  go_wp2
  go_ret
  exact ⟨_, _, rfl, HO5.out, H5.out⟩
set_option maxRecDepth 100000 in
set_option maxHeartbeats 2000000 in
theorem rclass_2 (w : World) : Calls Tryz.prog 27 #[.int .i64 2] w (ClassP 2 w) := by
  have N1 : ∀ W, Hid (Calls Tryz.prog 26 #[.string ⟨#[113, 117, 97, 110, 116, 117, 109]⟩, .int .i64 1, .int .u64 1500, .int .u64 100000] W (fun r w' => r = .returned (.agg #[.string ⟨#[113, 117, 97, 110, 116, 117, 109]⟩, .int .i64 1, .int .i64 1, .int .u64 1500, .int .u64 100000, .slice none 0 0, .bool true, .int .i64 0, .slice none 0 0]) ∧ Below W.heap.size W w')) := fun W => Lib.hid (srnum_any nQuantum 1 1500 100000 W)
  have N2 : ∀ W, Hid (Calls Tryz.prog 26 #[.string ⟨#[114, 97, 116, 101]⟩, .int .i64 2, .int .u64 0, .int .u64 1000000] W (fun r w' => r = .returned (.agg #[.string ⟨#[114, 97, 116, 101]⟩, .int .i64 1, .int .i64 2, .int .u64 0, .int .u64 1000000, .slice none 0 0, .bool true, .int .i64 0, .slice none 0 0]) ∧ Below W.heap.size W w')) := fun W => Lib.hid (srnum_any nRate 2 0 1000000 W)
  have N3 : ∀ W, Hid (Calls Tryz.prog 26 #[.string ⟨#[98, 117, 114, 115, 116]⟩, .int .i64 1, .int .u64 1500, .int .u64 1000000] W (fun r w' => r = .returned (.agg #[.string ⟨#[98, 117, 114, 115, 116]⟩, .int .i64 1, .int .i64 1, .int .u64 1500, .int .u64 1000000, .slice none 0 0, .bool true, .int .i64 0, .slice none 0 0]) ∧ Below W.heap.size W w')) := fun W => Lib.hid (srnum_any nBurst 1 1500 1000000 W)
  have N4 : ∀ W, Hid (Calls Tryz.prog 26 #[.string ⟨#[108, 105, 109, 105, 116]⟩, .int .i64 1, .int .u64 1, .int .u64 64] W (fun r w' => r = .returned (.agg #[.string ⟨#[108, 105, 109, 105, 116]⟩, .int .i64 1, .int .i64 1, .int .u64 1, .int .u64 64, .slice none 0 0, .bool true, .int .i64 0, .slice none 0 0]) ∧ Below W.heap.size W w')) := fun W => Lib.hid (srnum_any nLimit 1 1 64 W)
  go_enter Tryz.func27, Tryz.ntmps27
  go_wp2_with fail
  refine (N1 _).out.mono ?_
  rintro r w1 ⟨rfl, hB⟩
  have H1 := Lib.hid hB
  clear hB
  go_wp2_with fail
  refine (N2 _).out.mono ?_
  rintro r w2 ⟨rfl, hB⟩
  have H2 := Lib.hid (H1.out.trans (hB.mono H1.out.size))
  clear hB
  go_wp2_with fail
  refine (N3 _).out.mono ?_
  rintro r w3 ⟨rfl, hB⟩
  have H3 := Lib.hid (H2.out.trans (hB.mono H2.out.size))
  clear hB
  have HA : Hid (Below w.heap.size w (w3.alloc (.cells #[.string ⟨#[113, 117, 97, 110, 116, 117, 109]⟩, .int .i64 1, .int .i64 1, .int .u64 1500, .int .u64 100000, .slice none 0 0, .bool true, .int .i64 0, .slice none 0 0, .string ⟨#[114, 97, 116, 101]⟩, .int .i64 1, .int .i64 2, .int .u64 0, .int .u64 1000000, .slice none 0 0, .bool true, .int .i64 0, .slice none 0 0, .string ⟨#[98, 117, 114, 115, 116]⟩, .int .i64 1, .int .i64 1, .int .u64 1500, .int .u64 1000000, .slice none 0 0, .bool true, .int .i64 0, .slice none 0 0] 41))) := Lib.hid (H3.out.alloc H3.out.size _)
  have HO : Hid (OwnG SpcD 41 9 8 (w3.alloc (.cells #[.string ⟨#[113, 117, 97, 110, 116, 117, 109]⟩, .int .i64 1, .int .i64 1, .int .u64 1500, .int .u64 100000, .slice none 0 0, .bool true, .int .i64 0, .slice none 0 0, .string ⟨#[114, 97, 116, 101]⟩, .int .i64 1, .int .i64 2, .int .u64 0, .int .u64 1000000, .slice none 0 0, .bool true, .int .i64 0, .slice none 0 0, .string ⟨#[98, 117, 114, 115, 116]⟩, .int .i64 1, .int .i64 1, .int .u64 1500, .int .u64 1000000, .slice none 0 0, .bool true, .int .i64 0, .slice none 0 0] 41)) w.heap.size (fun _ => False) (fun _ => False) (.slice (some ⟨w3.heap.size, 0, none⟩) 3 3) (frOf [(numD nQuantum 1 1500 100000, .nil), (numD nRate 2 0 1000000, .nil), (numD nBurst 1 1500 1000000, .nil)])) := Lib.hid (OwnG.lit (Blk.new w3 _ _) H3.out.size (by decide) (row_leaves [numD nQuantum 1 1500 100000, numD nRate 2 0 1000000, numD nBurst 1 1500 1000000] (by decide)) (fun _ h => h.elim) (fun _ h => h.elim))
  go_wp2_with fail
  refine (N4 _).out.mono ?_
  rintro r w4 ⟨rfl, hB⟩
  have HO4 := Lib.hid ((HO.out.below stay_spc hB).below stay_spc ((Below.refl _ _).alloc (Nat.le_refl _) (.cells #[.string ⟨#[108, 105, 109, 105, 116]⟩, .int .i64 1, .int .i64 1, .int .u64 1, .int .u64 64, .slice none 0 0, .bool true, .int .i64 0, .slice none 0 0] 41)))
  have hb4 : Below w.heap.size w (w4.alloc (.cells #[.string ⟨#[108, 105, 109, 105, 116]⟩, .int .i64 1, .int .i64 1, .int .u64 1, .int .u64 64, .slice none 0 0, .bool true, .int .i64 0, .slice none 0 0] 41)) := (HA.out.trans (hB.mono HA.out.size)).alloc (Nat.le_trans HA.out.size hB.size) _
  have H4 := Lib.hid hb4
  clear hb4 hB
  go_wp2_with (at_builtin; refine wpList_append_g (ys := spC (numD nLimit 1 1 64) (.slice none 0 0) (.slice none 0 0)) stay_spc one_spc Tryz.underlying39 infoS zeroS (by decide) rfl (.tmp 10) (.tmp 12) rfl rfl rfl HO4.out rfl (Blk.new w4 _ _) (leaf_n rfl) ?h1 ?h2 H4.out.size ?_)
  case h1 => decide
  case h2 => decide
  intro v5 w5 hap
  have H5 := Lib.hid (H4.out.trans (hap.below HO4.out H4.out.size))
  have HO5 := Lib.hid hap.1
  obtain ⟨g5, c5, rfl⟩ := hap.2.2.2
  clear hap
  have HO6 := Lib.hid (HO5.out.below stay_spc ((Below.refl _ _).alloc (Nat.le_refl _) (.cells #[.string ⟨#[115, 104, 97, 112, 101, 100]⟩, .int .i64 1, .int .i64 3, .int .u64 0, .int .u64 0, .slice none 0 0, .bool true, .int .i64 0, .slice none 0 0] 41)))
  have H6 : Hid (Below w.heap.size w (w5.alloc (.cells #[.string ⟨#[115, 104, 97, 112, 101, 100]⟩, .int .i64 1, .int .i64 3, .int .u64 0, .int .u64 0, .slice none 0 0, .bool true, .int .i64 0, .slice none 0 0] 41))) := Lib.hid (H5.out.alloc H5.out.size _)
  go_wp2_with (at_builtin; refine wpList_append_g (ys := spC (leafD nShaped 3 true) (.slice none 0 0) (.slice none 0 0)) stay_spc one_spc Tryz.underlying39 infoS zeroS (by decide) rfl (.tmp 20) (.tmp 22) rfl rfl rfl HO6.out rfl (Blk.new w5 _ _) (leaf_n (a := leafD nShaped 3 true) rfl) ?h1 ?h2 H6.out.size ?_)
  case h1 => decide
  case h2 => decide
  intro v7 w7 hap
  have H7 := Lib.hid (H6.out.trans (hap.below HO6.out H6.out.size))
  have HO7 := Lib.hid hap.1
  obtain ⟨g7, c7, rfl⟩ := hap.2.2.2
  clear hap
  go_wp2
  go_ret
  exact ⟨_, _, rfl, HO7.out, H7.out⟩
set_option maxRecDepth 100000 in
set_option maxHeartbeats 2000000 in
theorem rclass_3 (w : World) : Calls Tryz.prog 27 #[.int .i64 3] w (ClassP 3 w) := by
  have N1 : ∀ W, Hid (Calls Tryz.prog 26 #[.string ⟨#[113, 117, 97, 110, 116, 117, 109]⟩, .int .i64 1, .int .u64 1500, .int .u64 100000] W (fun r w' => r = .returned (.agg #[.string ⟨#[113, 117, 97, 110, 116, 117, 109]⟩, .int .i64 1, .int .i64 1, .int .u64 1500, .int .u64 100000, .slice none 0 0, .bool true, .int .i64 0, .slice none 0 0]) ∧ Below W.heap.size W w')) := fun W => Lib.hid (srnum_any nQuantum 1 1500 100000 W)
  have N2 : ∀ W, Hid (Calls Tryz.prog 26 #[.string ⟨#[114, 97, 116, 101]⟩, .int .i64 2, .int .u64 0, .int .u64 1000000] W (fun r w' => r = .returned (.agg #[.string ⟨#[114, 97, 116, 101]⟩, .int .i64 1, .int .i64 2, .int .u64 0, .int .u64 1000000, .slice none 0 0, .bool true, .int .i64 0, .slice none 0 0]) ∧ Below W.heap.size W w')) := fun W => Lib.hid (srnum_any nRate 2 0 1000000 W)
  have N3 : ∀ W, Hid (Calls Tryz.prog 26 #[.string ⟨#[98, 117, 114, 115, 116]⟩, .int .i64 1, .int .u64 1500, .int .u64 1000000] W (fun r w' => r = .returned (.agg #[.string ⟨#[98, 117, 114, 115, 116]⟩, .int .i64 1, .int .i64 1, .int .u64 1500, .int .u64 1000000, .slice none 0 0, .bool true, .int .i64 0, .slice none 0 0]) ∧ Below W.heap.size W w')) := fun W => Lib.hid (srnum_any nBurst 1 1500 1000000 W)
  have N4 : ∀ W, Hid (Calls Tryz.prog 26 #[.string ⟨#[100, 101, 112, 116, 104]⟩, .int .i64 1, .int .u64 1, .int .u64 64] W (fun r w' => r = .returned (.agg #[.string ⟨#[100, 101, 112, 116, 104]⟩, .int .i64 1, .int .i64 1, .int .u64 1, .int .u64 64, .slice none 0 0, .bool true, .int .i64 0, .slice none 0 0]) ∧ Below W.heap.size W w')) := fun W => Lib.hid (srnum_any nDepth 1 1 64 W)
  go_enter Tryz.func27, Tryz.ntmps27
  go_wp2_with fail
  refine (N1 _).out.mono ?_
  rintro r w1 ⟨rfl, hB⟩
  have H1 := Lib.hid hB
  clear hB
  go_wp2_with fail
  refine (N2 _).out.mono ?_
  rintro r w2 ⟨rfl, hB⟩
  have H2 := Lib.hid (H1.out.trans (hB.mono H1.out.size))
  clear hB
  go_wp2_with fail
  refine (N3 _).out.mono ?_
  rintro r w3 ⟨rfl, hB⟩
  have H3 := Lib.hid (H2.out.trans (hB.mono H2.out.size))
  clear hB
  have HA : Hid (Below w.heap.size w (w3.alloc (.cells #[.string ⟨#[113, 117, 97, 110, 116, 117, 109]⟩, .int .i64 1, .int .i64 1, .int .u64 1500, .int .u64 100000, .slice none 0 0, .bool true, .int .i64 0, .slice none 0 0, .string ⟨#[114, 97, 116, 101]⟩, .int .i64 1, .int .i64 2, .int .u64 0, .int .u64 1000000, .slice none 0 0, .bool true, .int .i64 0, .slice none 0 0, .string ⟨#[98, 117, 114, 115, 116]⟩, .int .i64 1, .int .i64 1, .int .u64 1500, .int .u64 1000000, .slice none 0 0, .bool true, .int .i64 0, .slice none 0 0] 41))) := Lib.hid (H3.out.alloc H3.out.size _)
  have HO : Hid (OwnG SpcD 41 9 8 (w3.alloc (.cells #[.string ⟨#[113, 117, 97, 110, 116, 117, 109]⟩, .int .i64 1, .int .i64 1, .int .u64 1500, .int .u64 100000, .slice none 0 0, .bool true, .int .i64 0, .slice none 0 0, .string ⟨#[114, 97, 116, 101]⟩, .int .i64 1, .int .i64 2, .int .u64 0, .int .u64 1000000, .slice none 0 0, .bool true, .int .i64 0, .slice none 0 0, .string ⟨#[98, 117, 114, 115, 116]⟩, .int .i64 1, .int .i64 1, .int .u64 1500, .int .u64 1000000, .slice none 0 0, .bool true, .int .i64 0, .slice none 0 0] 41)) w.heap.size (fun _ => False) (fun _ => False) (.slice (some ⟨w3.heap.size, 0, none⟩) 3 3) (frOf [(numD nQuantum 1 1500 100000, .nil), (numD nRate 2 0 1000000, .nil), (numD nBurst 1 1500 1000000, .nil)])) := Lib.hid (OwnG.lit (Blk.new w3 _ _) H3.out.size (by decide) (row_leaves [numD nQuantum 1 1500 100000, numD nRate 2 0 1000000, numD nBurst 1 1500 1000000] (by decide)) (fun _ h => h.elim) (fun _ h => h.elim))
  go_wp2_with fail
  refine (N4 _).out.mono ?_
  rintro r w4 ⟨rfl, hB⟩
  have HO4 := Lib.hid ((HO.out.below stay_spc hB).below stay_spc ((Below.refl _ _).alloc (Nat.le_refl _) (.cells #[.string ⟨#[100, 101, 112, 116, 104]⟩, .int .i64 1, .int .i64 1, .int .u64 1, .int .u64 64, .slice none 0 0, .bool true, .int .i64 0, .slice none 0 0] 41)))
  have hb4 : Below w.heap.size w (w4.alloc (.cells #[.string ⟨#[100, 101, 112, 116, 104]⟩, .int .i64 1, .int .i64 1, .int .u64 1, .int .u64 64, .slice none 0 0, .bool true, .int .i64 0, .slice none 0 0] 41)) := (HA.out.trans (hB.mono HA.out.size)).alloc (Nat.le_trans HA.out.size hB.size) _
  have H4 := Lib.hid hb4
  clear hb4 hB
  go_wp2_with (at_builtin; refine wpList_append_g (ys := spC (numD nDepth 1 1 64) (.slice none 0 0) (.slice none 0 0)) stay_spc one_spc Tryz.underlying39 infoS zeroS (by decide) rfl (.tmp 14) (.tmp 16) rfl rfl rfl HO4.out rfl (Blk.new w4 _ _) (leaf_n rfl) ?h1 ?h2 H4.out.size ?_)
  case h1 => decide
  case h2 => decide
  intro v5 w5 hap
  have H5 := Lib.hid (H4.out.trans (hap.below HO4.out H4.out.size))
  have HO5 := Lib.hid hap.1
  obtain ⟨g5, c5, rfl⟩ := hap.2.2.2
  clear hap
  have HO6 := Lib.hid (HO5.out.below stay_spc ((Below.refl _ _).alloc (Nat.le_refl _) (.cells #[.string ⟨#[115, 104, 97, 112, 101, 100]⟩, .int .i64 1, .int .i64 3, .int .u64 0, .int .u64 0, .slice none 0 0, .bool true, .int .i64 0, .slice none 0 0] 41)))
  have H6 : Hid (Below w.heap.size w (w5.alloc (.cells #[.string ⟨#[115, 104, 97, 112, 101, 100]⟩, .int .i64 1, .int .i64 3, .int .u64 0, .int .u64 0, .slice none 0 0, .bool true, .int .i64 0, .slice none 0 0] 41))) := Lib.hid (H5.out.alloc H5.out.size _)
  go_wp2_with (at_builtin; refine wpList_append_g (ys := spC (leafD nShaped 3 true) (.slice none 0 0) (.slice none 0 0)) stay_spc one_spc Tryz.underlying39 infoS zeroS (by decide) rfl (.tmp 20) (.tmp 22) rfl rfl rfl HO6.out rfl (Blk.new w5 _ _) (leaf_n (a := leafD nShaped 3 true) rfl) ?h1 ?h2 H6.out.size ?_)
  case h1 => decide
  case h2 => decide
  intro v7 w7 hap
  have H7 := Lib.hid (H6.out.trans (hap.below HO6.out H6.out.size))
  have HO7 := Lib.hid hap.1
  obtain ⟨g7, c7, rfl⟩ := hap.2.2.2
  clear hap
  go_wp2
  go_ret
  exact ⟨_, _, rfl, HO7.out, H7.out⟩
end Go.Proofs.YtljjaikejfoanaaGreat
namespace Go.Proofs.YtljjaikejfoanaaGreat
open Go.RowKit
def RIdentP (s : List UInt8) (w : World) (r : Ending) (w' : World) : Prop := r = .returned (.bool (identX s)) ∧ w = w'
def idL (s : List UInt8) (k : Nat) : Prop := (∀ c, 0 < k → s[0]? = some c → smB c = true) ∧ ∀ j c, j < k → s[j]? = some c → nmB c = true
theorem idL_all {s : List UInt8} (h : idL s s.length) : identX s = (!s.isEmpty && decide (s.length ≤ 12)) := by
  cases s with
  | nil => rfl
  | cons c r =>
    have h1 := h.1 c (by simp) rfl
    have h2 : r.all nmB = true := List.all_eq_true.2 (fun d hd => by
      obtain ⟨j, hj, rfl⟩ := List.getElem_of_mem hd
      exact h.2 (j + 1) _ (by simp; omega) (by rw [List.getElem?_cons_succ]; exact List.getElem?_eq_getElem hj))
    simp [identX, h1, h2]
theorem id_bad {s : List UInt8} {k : Nat} {c : UInt8} (hc : s[k]? = some c) (h : smB c = false) (h2 : k = 0 ∨ nmB c = false) : identX s = false := by
  cases s with
  | nil => rfl
  | cons d r =>
    cases k with
    | zero =>
      simp at hc
      subst hc
      simp [identX, h]
    | succ k =>
      have h3 : nmB c = false := by rcases h2 with h2 | h2; cases h2; exact h2
      have h4 : r.all nmB = false := List.all_eq_false.2 ⟨c, List.mem_of_getElem? (by simpa using hc), by rw [h3]; decide⟩
      simp [identX, h4]
theorem idL_step {s : List UInt8} {k : Nat} {c : UInt8} (hc : s[k]? = some c) (h : idL s k) (h1 : smB c = true ∨ (k ≠ 0 ∧ nmB c = true)) : idL s (k + 1) := by
  have hn : nmB c = true := by rcases h1 with h1 | h1; exact sm_nm h1; exact h1.2
  refine ⟨fun d _ hd => ?_, fun j d hj hd => ?_⟩
  · by_cases e : k = 0
    · subst e
      rw [hc] at hd
      injection hd with hd
      rcases h1 with h1 | h1
      · rw [← hd]; exact h1
      · exact absurd rfl h1.1
    · exact h.1 d (by omega) hd
  · by_cases e : j = k
    · subst e
      rw [hc] at hd
      injection hd with hd
      rw [← hd]; exact hn
    · exact h.2 j d (by omega) hd
theorem sm_cases (c : UInt8) : (smB c = true ∧ 97 ≤ (c.toNat : Int) ∧ (c.toNat : Int) ≤ 122) ∨ (smB c = false ∧ (¬ 97 ≤ (c.toNat : Int) ∨ (97 ≤ (c.toNat : Int) ∧ ¬ (c.toNat : Int) ≤ 122))) := by
  unfold smB
  by_cases h1 : 97 ≤ c.toNat
  · by_cases h2 : c.toNat ≤ 122
    · exact .inl ⟨by simp [h1, h2], by omega, by omega⟩
    · exact .inr ⟨by simp [h2], .inr ⟨by omega, by omega⟩⟩
  · exact .inr ⟨by simp [h1], .inl (by omega)⟩
theorem nm_cases {c : UInt8} (h : smB c = false) : (nmB c = true ∧ (((c.toNat : Int) == 45) = true ∨ (((c.toNat : Int) == 45) = false ∧ ¬ (c.toNat : Int) < 48 ∧ ¬ 57 < (c.toNat : Int)))) ∨
    (nmB c = false ∧ ((c.toNat : Int) == 45) = false ∧ ((c.toNat : Int) < 48 ∨ (¬ (c.toNat : Int) < 48 ∧ 57 < (c.toNat : Int)))) := by
  have e45 : c = 45 ↔ c.toNat = 45 := by
    rw [← UInt8.toNat_inj]
    rfl
  unfold nmB
  rw [h]
  by_cases h0 : c = 45
  · have h45 := e45.1 h0
    exact .inl ⟨by simp [h0], .inl (by simp; omega)⟩
  · have hn : (c == 45) = false := beq_eq_false_iff_ne.2 h0
    have hm : ((c.toNat : Int) == 45) = false := beq_eq_false_iff_ne.2 (fun e => h0 (e45.2 (by omega)))
    by_cases h1 : 48 ≤ c.toNat
    · by_cases h2 : c.toNat ≤ 57
      · exact .inl ⟨by simp [h1, h2], .inr ⟨hm, by omega, by omega⟩⟩
      · exact .inr ⟨by simp [h2, hn], hm, .inr ⟨by omega, by omega⟩⟩
    · exact .inr ⟨by simp [h1, hn], hm, .inl (by omega)⟩
set_option maxRecDepth 100000 in
set_option maxHeartbeats 1000000 in
theorem rident_any (s : List UInt8) (hs : s.length ≤ 1048576) (w : World) : Calls Tryz.prog 50 #[.string (txt s)] w (RIdentP s w) := by
  have hsz := txt_size s
  have ts : (txt s).toList = s := txt_toList s
  go_enter Tryz.func50, Tryz.ntmps50
  go_wp2
  go_loop [3] (fun i => ∃ k : Nat, k ≤ s.length ∧ i = .int .i64 (k : Int) ∧ Hid (idL s k)) (fun i => s.length - (intOf i).toNat)
  case atStart => exact ⟨0, by omega, rfl, Lib.hid ⟨fun c h => by omega, fun j c h => by omega⟩⟩
  case round =>
    obtain ⟨k, hk, rfl, HK⟩ := hrel
    by_cases h1 : k < s.length
    · have d1 : (k : Int) < (s.length : Int) := by omega
      obtain ⟨c, hc⟩ : ∃ c, s[k]? = some c := ⟨_, List.getElem?_eq_getElem h1⟩
      have hin : k < (txt s).size := by rw [hsz]; exact h1
      have hix : (((txt s)[k]'hin).toNat : Int) = (c.toNat : Int) := by rw [txt_get s k h1 hin]; rw [List.getElem?_eq_getElem h1] at hc; injection hc with hc; rw [hc]
      have HC := Lib.hid hc
      rcases sm_cases c with ⟨hb, g1, g2⟩ | ⟨hb, g⟩
      · have HS := Lib.hid (idL_step hc HK.out (.inl hb))
        clear hc hb HK
        generalize c.toNat = m at hix g1 g2
        go_wp2
        go_round
        case rel => exact ⟨k + 1, by omega, by go_num, HS⟩
        case measure => simp [intOf]; omega
      · have hk0 : (k = 0 ∧ Hid (identX s = false)) ∨ (((k : Int) == 0) = false ∧ Hid (k ≠ 0)) := by
          by_cases e : k = 0
          · exact .inl ⟨e, Lib.hid (id_bad hc hb (.inl e))⟩
          · exact .inr ⟨beq_eq_false_iff_ne.2 (by omega), Lib.hid e⟩
        rcases hk0 with ⟨rfl, HF⟩ | ⟨n0, HN0⟩
        · clear hc hb HK
          generalize c.toNat = m at hix g
          rcases g with g | ⟨g, g'⟩
          all_goals
            go_wp2
            go_ret
            exact ⟨by rw [HF.out]; rfl, rfl⟩
        rcases nm_cases hb with ⟨hn, q⟩ | ⟨hn, q1, q⟩
        · have HS := Lib.hid (idL_step hc HK.out (.inr ⟨HN0.out, hn⟩))
          clear hc hb HK hn
          generalize c.toNat = m at hix g q
          have qq : (((m : Int) == 45) = true ∧ ((m : Int) != 45) = false) ∨ ((((m : Int) == 45) = false ∧ ((m : Int) != 45) = true) ∧ ¬ (m : Int) < 48 ∧ ¬ 57 < (m : Int)) := by
            rcases q with q | ⟨q, q'⟩
            · exact .inl ⟨q, by unfold bne; rw [q]; rfl⟩
            · exact .inr ⟨⟨q, by unfold bne; rw [q]; rfl⟩, q'⟩
          clear q
          rcases g with g | ⟨g, g'⟩ <;> rcases qq with ⟨q0, q⟩ | ⟨⟨q0, q⟩, q', q''⟩
          all_goals
            go_wp2
            go_round
            case rel => exact ⟨k + 1, by omega, by go_num, HS⟩
            case measure => simp [intOf]; omega
        · have HF : Hid (identX s = false) := Lib.hid (id_bad hc hb (.inr hn))
          clear hc hb HK hn
          generalize c.toNat = m at hix g q q1
          have q2 : ((m : Int) != 45) = true := by unfold bne; rw [q1]; rfl
          rcases g with g | ⟨g, g'⟩ <;> rcases q with q | ⟨q, q'⟩
          all_goals
            go_wp2
            go_ret
            exact ⟨by rw [HF.out]; rfl, rfl⟩
    · obtain rfl : k = s.length := by omega
      have HV := Lib.hid (idL_all HK.out)
      have hw : (s = []) ∨ (s.isEmpty = false ∧ ¬ (s.length : Int) ≤ 12) ∨ (s.isEmpty = false ∧ (s.length : Int) ≤ 12) := by
        cases s with
        | nil => exact .inl rfl
        | cons a r =>
          by_cases h : (a :: r).length ≤ 12
          · exact .inr (.inr ⟨rfl, by omega⟩)
          · exact .inr (.inl ⟨rfl, by omega⟩)
      clear HK h1
      rcases hw with rfl | ⟨hE, d⟩ | ⟨hE, d⟩
      · go_wp2
        go_ret
        exact ⟨by rw [HV.out]; rfl, rfl⟩
      · have HV2 : Hid (identX s = false) := Lib.hid (by rw [HV.out, hE, Bool.not_false, Bool.true_and]; exact decide_eq_false (by omega))
        clear HV
        go_wp2
        go_ret
        exact ⟨by rw [HV2.out]; rfl, rfl⟩
      · have HV2 : Hid (identX s = true) := Lib.hid (by rw [HV.out, hE, Bool.not_false, Bool.true_and]; exact decide_eq_true (by omega))
        clear HV
        go_wp2
        go_ret
        exact ⟨by rw [HV2.out]; rfl, rfl⟩
end Go.Proofs.YtljjaikejfoanaaGreat
