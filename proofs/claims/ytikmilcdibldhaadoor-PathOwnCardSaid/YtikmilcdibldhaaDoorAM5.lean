/- SpcRefA SpcRefB -/
import Derived.Test.YtikmilcdibldhaaDoorAM0
import Derived.Test.YtikmilcdibldhaaDoorAM1
import Derived.Test.YtikmilcdibldhaaDoorAM4
import Derived.Test.YtikmilcdibldhaaDoorAM2
import Derived.Laws.Rows
set_option linter.unusedSimpArgs false
set_option linter.unusedVariables false
namespace Go.Proofs.YtikmilcdibldhaaDoor
open Go.RowKit
set_option maxRecDepth 100000 in
set_option maxHeartbeats 1000000 in
theorem rfind_any (n : List UInt8) (S N : Nat → Prop) (cs : List Value) (x : Sp) (w : World) (hx : SpN w S N cs x) (hS : ∀ g, S g → g < w.heap.size) (hl : x.2.len ≤ 1000000) :
  Calls Tryd.prog 29 #[.agg cs.toArray, .string (txt n)] w (AnsP (.int .i64 (findI n x.2)) w) := by
 obtain ⟨B, m, A, c, d, rfl, -, -, hk⟩ := hx.shape
 have hB : Below w.heap.size w (w.alloc (.cells #[.string (txt x.1.name), .int .i64 (x.1.kind : Int), .int .i64 (x.1.typ : Int), .int .u64 (x.1.low : Int), .int .u64 (x.1.high : Int), .slice B x.1.names.length m, .bool x.1.must, .int .i64 (x.1.most : Int), .slice A x.2.len c] 39)) := (Below.refl _ _).alloc (Nat.le_refl _) _
 have HB := Lib.hid hB
 have tn : (txt n).toList = n := txt_toList n
 have HK := Lib.hid hk
 clear hk hx hB
 go_enter Tryd.func29, Tryd.ntmps29
 go_wp2
 go_loop [5] (fun i => ∃ k : Nat, k ≤ x.2.len ∧ i = .int .i64 (k : Int) ∧ Hid (∀ j y, j < k → x.2.get? j = some y → y.1.name ≠ n)) (fun i => x.2.len - (intOf i).toNat)
 case atStart => exact ⟨0, Nat.zero_le _, rfl, Lib.hid (fun j y h => by omega)⟩
 case round =>
  obtain ⟨k, hk, rfl, HL⟩ := hrel
  by_cases hlt : k < x.2.len
  ·obtain ⟨a, q, hg⟩ := Fr.get_some hlt
   obtain ⟨b, o, c', cs', e, -, hSb, hN, hcl⟩ := HK.out.at hg
   injection e with e1 e2 e3
   subst e1 e3
   obtain ⟨B', m', A', c'', d', rfl, -, -, -⟩ := SpN.shape (x := (a, q)) hN
   have i1 : (0 : Int) ≤ (k : Int) := by omega
   have i2 : (k : Int) < (x.2.len : Int) := by omega
   have q0 : (w.alloc (.cells #[.string (txt x.1.name), .int .i64 (x.1.kind : Int), .int .i64 (x.1.typ : Int), .int .u64 (x.1.low : Int), .int .u64 (x.1.high : Int), .slice B x.1.names.length m, .bool x.1.must, .int .i64 (x.1.most : Int), .slice (some ⟨b, o, none⟩) x.2.len c] 39)).cell? ⟨b, o + k * 9, none⟩ = some (.string (txt a.name)) := (HB.out.cell (p := ⟨b, o + k * 9, none⟩) (hS b hSb)).trans (hcl 0 _ rfl)
   have ta : (txt a.name).toList = a.name := txt_toList _
   have HG := Lib.hid hg
   clear hcl hN hg e2 hSb
   by_cases hn : a.name = n
   ·have h1 : (a.name == n) = true := beq_iff_eq.2 hn
    have HF : Hid (findI n x.2 = (k : Int)) := Lib.hid (by unfold findI; rw [find_is HG.out hn HL.out])
    clear hn
    go_wp2
    go_ret
    exact ⟨by rw [HF.out]; rfl, HB.out⟩
   ·have h1 : (a.name == n) = false := beq_eq_false_iff_ne.2 hn
    have HL2 : Hid (∀ j y, j < k + 1 → x.2.get? j = some y → y.1.name ≠ n) := Lib.hid (fun j y hj hy => by
     by_cases e : j = k
     ·subst e; rw [HG.out] at hy; injection hy with hy; subst hy; exact hn
     ·exact HL.out j y (by omega) hy)
    clear hn
    go_wp2
    go_round
    case rel => exact ⟨k + 1, by omega, by go_num, HL2⟩
    case measure => simp [intOf]; omega
  ·have HF : Hid (findI n x.2 = -1) := Lib.hid (by unfold findI; rw [find_no (fun j y hy => HL.out j y (by have := Fr.get_lt hy; omega) hy)])
   have i2 : ¬ (k : Int) < (x.2.len : Int) := by omega
   go_wp2
   go_ret
   exact ⟨by rw [HF.out]; rfl, HB.out⟩
end Go.Proofs.YtikmilcdibldhaaDoor
namespace Go.Proofs.YtikmilcdibldhaaDoor
open Go.RowKit
theorem infoS : (Tryd.prog.info? 39).map (fun i => (i.zero, i.size, i.bytes)) = some (some (.agg #[.string ⟨#[]⟩, .int .i64 0, .int .i64 0, .int .u64 0, .int .u64 0, .slice none 0 0, .bool false, .int .i64 0, .slice none 0 0]), 9, 112) := by kernel_rfl
theorem zeroS : (Value.agg #[.string ⟨#[]⟩, .int .i64 0, .int .i64 0, .int .u64 0, .int .u64 0, .slice none 0 0, .bool false, .int .i64 0, .slice none 0 0]).cells.size = 9 := by kernel_rfl
def spC (a : SpD) (nv kv : Value) : List Value := [.string (txt a.name), .int .i64 (a.kind : Int), .int .i64 (a.typ : Int), .int .u64 (a.low : Int), .int .u64 (a.high : Int), nv, .bool a.must, .int .i64 (a.most : Int), kv]
theorem leaf_n {w : World} {S N : Nat → Prop} {a : SpD} (h : a.names = []) : SpN w S N (spC a (.slice none 0 0) (.slice none 0 0)) (a, .nil) :=
 SpN.make (d := 0) (by rw [h]; exact ⟨none, 0, rfl, Nat.le_refl _, fun h => absurd h (by simp [txts])⟩) (by rw [h]; intro h; simp at h) (FrV.empty _ _ _)
theorem list_n {w : World} {S N : Nat → Prop} {a : SpD} {k : SpF} {kv : Value} (h : a.names = []) (hk : FrV SpcD 9 8 w S N kv k) : SpN w S N (spC a (.slice none 0 0) kv) (a, k) :=
 SpN.make (d := 0) (by rw [h]; exact ⟨none, 0, rfl, Nat.le_refl _, fun h => absurd h (by simp [txts])⟩) (by rw [h]; intro h; simp at h) hk
def NumP (a : SpD) (w : World) (r : Ending) (w' : World) : Prop := r = .returned (.agg (spC a (.slice none 0 0) (.slice none 0 0)).toArray) ∧ Below w.heap.size w w'
set_option maxRecDepth 100000 in
theorem srnum_any (n : List UInt8) (t lo hi : Nat) (w : World) : Calls Tryd.prog 41 #[.string (txt n), .int .i64 (t : Int), .int .u64 (lo : Int), .int .u64 (hi : Int)] w (NumP (numD n t lo hi) w) := by
 go_enter Tryd.func41, Tryd.ntmps41
 go_wp2
 exact bodyPost_ret (results_cell_row rfl _ _ w.heap.size 39 _ (0, 0) _ rfl (heap_alloc_new w _) Tryd.underlying39 rfl (by kernel_rfl)) rfl ⟨rfl, (Below.refl _ _).alloc (Nat.le_refl _) _⟩
theorem row_leaves {w : World} {S N : Nat → Prop} : ∀ (l : List SpD), (∀ a ∈ l, a.names = []) → rowG SpcD 9 8 w S N (l.flatMap fun a => spC a (.slice none 0 0) (.slice none 0 0)) (frOf (l.map fun a => (a, .nil))) := by
 intro l
 induction l with
 | nil => intro _; rfl
 | cons a l ih => intro h; exact ⟨_, _, rfl, leaf_n (h a (by simp)), ih (fun b hb => h b (by simp [hb]))⟩
def ClassP (v : Nat) (w : World) (r : Ending) (w' : World) : Prop := ∃ A c, r = .returned (.slice A (frOf (classL v)).len c) ∧ OwnG SpcD 39 9 8 w' w.heap.size (fun _ => False) (fun _ => False) (.slice A (frOf (classL v)).len c) (frOf (classL v)) ∧ Below w.heap.size w w'
set_option maxRecDepth 100000 in
set_option maxHeartbeats 2000000 in
theorem rclass_1 (w : World) : Calls Tryd.prog 42 #[.int .i64 1] w (ClassP 1 w) := by
 have N1 : ∀ W, Hid (Calls Tryd.prog 41 #[.string ⟨#[113, 117, 97, 110, 116, 117, 109]⟩, .int .i64 1, .int .u64 1500, .int .u64 100000] W (fun r w' => r = .returned (.agg #[.string ⟨#[113, 117, 97, 110, 116, 117, 109]⟩, .int .i64 1, .int .i64 1, .int .u64 1500, .int .u64 100000, .slice none 0 0, .bool true, .int .i64 0, .slice none 0 0]) ∧ Below W.heap.size W w')) := fun W => Lib.hid (srnum_any nQuantum 1 1500 100000 W)
 have N2 : ∀ W, Hid (Calls Tryd.prog 41 #[.string ⟨#[114, 97, 116, 101]⟩, .int .i64 2, .int .u64 0, .int .u64 1000000] W (fun r w' => r = .returned (.agg #[.string ⟨#[114, 97, 116, 101]⟩, .int .i64 1, .int .i64 2, .int .u64 0, .int .u64 1000000, .slice none 0 0, .bool true, .int .i64 0, .slice none 0 0]) ∧ Below W.heap.size W w')) := fun W => Lib.hid (srnum_any nRate 2 0 1000000 W)
 have N3 : ∀ W, Hid (Calls Tryd.prog 41 #[.string ⟨#[98, 117, 114, 115, 116]⟩, .int .i64 1, .int .u64 1500, .int .u64 1000000] W (fun r w' => r = .returned (.agg #[.string ⟨#[98, 117, 114, 115, 116]⟩, .int .i64 1, .int .i64 1, .int .u64 1500, .int .u64 1000000, .slice none 0 0, .bool true, .int .i64 0, .slice none 0 0]) ∧ Below W.heap.size W w')) := fun W => Lib.hid (srnum_any nBurst 1 1500 1000000 W)
 have N4 : ∀ W, Hid (Calls Tryd.prog 41 #[.string ⟨#[108, 105, 109, 105, 116]⟩, .int .i64 1, .int .u64 1, .int .u64 64] W (fun r w' => r = .returned (.agg #[.string ⟨#[108, 105, 109, 105, 116]⟩, .int .i64 1, .int .i64 1, .int .u64 1, .int .u64 64, .slice none 0 0, .bool true, .int .i64 0, .slice none 0 0]) ∧ Below W.heap.size W w')) := fun W => Lib.hid (srnum_any nLimit 1 1 64 W)
 go_enter Tryd.func42, Tryd.ntmps42
 go_wp2_with fail
 refine (N1 _).out.mono ?_
 rintro r w1 ⟨rfl, hB⟩
 have H1 := Lib.hid hB
 clear hB
 go_wp2_with fail
 refine (N2 _).out.mono ?_
 rintro r w2 ⟨rfl, hB⟩
 have H2 := Lib.hid (H1.out.trans (hB.mono H1.out.size))
 clear hB
 go_wp2_with fail
 refine (N3 _).out.mono ?_
 rintro r w3 ⟨rfl, hB⟩
 have H3 := Lib.hid (H2.out.trans (hB.mono H2.out.size))
 clear hB
 have HA : Hid (Below w.heap.size w (w3.alloc (.cells #[.string ⟨#[113, 117, 97, 110, 116, 117, 109]⟩, .int .i64 1, .int .i64 1, .int .u64 1500, .int .u64 100000, .slice none 0 0, .bool true, .int .i64 0, .slice none 0 0, .string ⟨#[114, 97, 116, 101]⟩, .int .i64 1, .int .i64 2, .int .u64 0, .int .u64 1000000, .slice none 0 0, .bool true, .int .i64 0, .slice none 0 0, .string ⟨#[98, 117, 114, 115, 116]⟩, .int .i64 1, .int .i64 1, .int .u64 1500, .int .u64 1000000, .slice none 0 0, .bool true, .int .i64 0, .slice none 0 0] 39))) := Lib.hid (H3.out.alloc H3.out.size _)
 have HO : Hid (OwnG SpcD 39 9 8 (w3.alloc (.cells #[.string ⟨#[113, 117, 97, 110, 116, 117, 109]⟩, .int .i64 1, .int .i64 1, .int .u64 1500, .int .u64 100000, .slice none 0 0, .bool true, .int .i64 0, .slice none 0 0, .string ⟨#[114, 97, 116, 101]⟩, .int .i64 1, .int .i64 2, .int .u64 0, .int .u64 1000000, .slice none 0 0, .bool true, .int .i64 0, .slice none 0 0, .string ⟨#[98, 117, 114, 115, 116]⟩, .int .i64 1, .int .i64 1, .int .u64 1500, .int .u64 1000000, .slice none 0 0, .bool true, .int .i64 0, .slice none 0 0] 39)) w.heap.size (fun _ => False) (fun _ => False) (.slice (some ⟨w3.heap.size, 0, none⟩) 3 3) (frOf [(numD nQuantum 1 1500 100000, .nil), (numD nRate 2 0 1000000, .nil), (numD nBurst 1 1500 1000000, .nil)])) := Lib.hid (OwnG.lit (Blk.new w3 _ _) H3.out.size (by decide) (row_leaves [numD nQuantum 1 1500 100000, numD nRate 2 0 1000000, numD nBurst 1 1500 1000000] (by decide)) (fun _ h => h.elim) (fun _ h => h.elim))
 go_wp2_with fail
 refine (N4 _).out.mono ?_
 rintro r w4 ⟨rfl, hB⟩
 have HO4 := Lib.hid ((HO.out.below stay_spc hB).below stay_spc ((Below.refl _ _).alloc (Nat.le_refl _) (.cells #[.string ⟨#[108, 105, 109, 105, 116]⟩, .int .i64 1, .int .i64 1, .int .u64 1, .int .u64 64, .slice none 0 0, .bool true, .int .i64 0, .slice none 0 0] 39)))
 have hb4 : Below w.heap.size w (w4.alloc (.cells #[.string ⟨#[108, 105, 109, 105, 116]⟩, .int .i64 1, .int .i64 1, .int .u64 1, .int .u64 64, .slice none 0 0, .bool true, .int .i64 0, .slice none 0 0] 39)) := (HA.out.trans (hB.mono HA.out.size)).alloc (Nat.le_trans HA.out.size hB.size) _
 have H4 := Lib.hid hb4
 clear hb4 hB
 go_wp2_with (at_builtin; refine wpList_append_g (ys := spC (numD nLimit 1 1 64) (.slice none 0 0) (.slice none 0 0)) stay_spc one_spc Tryd.underlying37 infoS zeroS (by decide) rfl (.tmp 10) (.tmp 12) rfl rfl rfl HO4.out rfl (Blk.new w4 _ _) (leaf_n rfl) ?h1 ?h2 H4.out.size ?_)
 case h1 => decide
 case h2 => decide
 intro v5 w5 hap
 have H5 := Lib.hid (H4.out.trans (hap.below HO4.out H4.out.size))
 have HO5 := Lib.hid hap.1
 obtain ⟨g5, c5, rfl⟩ := hap.2.2.2
 clear hap
 go_wp2
 go_ret
 exact ⟨_, _, rfl, HO5.out, H5.out⟩
set_option maxRecDepth 100000 in
set_option maxHeartbeats 2000000 in
theorem rclass_2 (w : World) : Calls Tryd.prog 42 #[.int .i64 2] w (ClassP 2 w) := by
 have N1 : ∀ W, Hid (Calls Tryd.prog 41 #[.string ⟨#[113, 117, 97, 110, 116, 117, 109]⟩, .int .i64 1, .int .u64 1500, .int .u64 100000] W (fun r w' => r = .returned (.agg #[.string ⟨#[113, 117, 97, 110, 116, 117, 109]⟩, .int .i64 1, .int .i64 1, .int .u64 1500, .int .u64 100000, .slice none 0 0, .bool true, .int .i64 0, .slice none 0 0]) ∧ Below W.heap.size W w')) := fun W => Lib.hid (srnum_any nQuantum 1 1500 100000 W)
 have N2 : ∀ W, Hid (Calls Tryd.prog 41 #[.string ⟨#[114, 97, 116, 101]⟩, .int .i64 2, .int .u64 0, .int .u64 1000000] W (fun r w' => r = .returned (.agg #[.string ⟨#[114, 97, 116, 101]⟩, .int .i64 1, .int .i64 2, .int .u64 0, .int .u64 1000000, .slice none 0 0, .bool true, .int .i64 0, .slice none 0 0]) ∧ Below W.heap.size W w')) := fun W => Lib.hid (srnum_any nRate 2 0 1000000 W)
 have N3 : ∀ W, Hid (Calls Tryd.prog 41 #[.string ⟨#[98, 117, 114, 115, 116]⟩, .int .i64 1, .int .u64 1500, .int .u64 1000000] W (fun r w' => r = .returned (.agg #[.string ⟨#[98, 117, 114, 115, 116]⟩, .int .i64 1, .int .i64 1, .int .u64 1500, .int .u64 1000000, .slice none 0 0, .bool true, .int .i64 0, .slice none 0 0]) ∧ Below W.heap.size W w')) := fun W => Lib.hid (srnum_any nBurst 1 1500 1000000 W)
 have N4 : ∀ W, Hid (Calls Tryd.prog 41 #[.string ⟨#[108, 105, 109, 105, 116]⟩, .int .i64 1, .int .u64 1, .int .u64 64] W (fun r w' => r = .returned (.agg #[.string ⟨#[108, 105, 109, 105, 116]⟩, .int .i64 1, .int .i64 1, .int .u64 1, .int .u64 64, .slice none 0 0, .bool true, .int .i64 0, .slice none 0 0]) ∧ Below W.heap.size W w')) := fun W => Lib.hid (srnum_any nLimit 1 1 64 W)
 go_enter Tryd.func42, Tryd.ntmps42
 go_wp2_with fail
 refine (N1 _).out.mono ?_
 rintro r w1 ⟨rfl, hB⟩
 have H1 := Lib.hid hB
 clear hB
 go_wp2_with fail
 refine (N2 _).out.mono ?_
 rintro r w2 ⟨rfl, hB⟩
 have H2 := Lib.hid (H1.out.trans (hB.mono H1.out.size))
 clear hB
 go_wp2_with fail
 refine (N3 _).out.mono ?_
 rintro r w3 ⟨rfl, hB⟩
 have H3 := Lib.hid (H2.out.trans (hB.mono H2.out.size))
 clear hB
 have HA : Hid (Below w.heap.size w (w3.alloc (.cells #[.string ⟨#[113, 117, 97, 110, 116, 117, 109]⟩, .int .i64 1, .int .i64 1, .int .u64 1500, .int .u64 100000, .slice none 0 0, .bool true, .int .i64 0, .slice none 0 0, .string ⟨#[114, 97, 116, 101]⟩, .int .i64 1, .int .i64 2, .int .u64 0, .int .u64 1000000, .slice none 0 0, .bool true, .int .i64 0, .slice none 0 0, .string ⟨#[98, 117, 114, 115, 116]⟩, .int .i64 1, .int .i64 1, .int .u64 1500, .int .u64 1000000, .slice none 0 0, .bool true, .int .i64 0, .slice none 0 0] 39))) := Lib.hid (H3.out.alloc H3.out.size _)
 have HO : Hid (OwnG SpcD 39 9 8 (w3.alloc (.cells #[.string ⟨#[113, 117, 97, 110, 116, 117, 109]⟩, .int .i64 1, .int .i64 1, .int .u64 1500, .int .u64 100000, .slice none 0 0, .bool true, .int .i64 0, .slice none 0 0, .string ⟨#[114, 97, 116, 101]⟩, .int .i64 1, .int .i64 2, .int .u64 0, .int .u64 1000000, .slice none 0 0, .bool true, .int .i64 0, .slice none 0 0, .string ⟨#[98, 117, 114, 115, 116]⟩, .int .i64 1, .int .i64 1, .int .u64 1500, .int .u64 1000000, .slice none 0 0, .bool true, .int .i64 0, .slice none 0 0] 39)) w.heap.size (fun _ => False) (fun _ => False) (.slice (some ⟨w3.heap.size, 0, none⟩) 3 3) (frOf [(numD nQuantum 1 1500 100000, .nil), (numD nRate 2 0 1000000, .nil), (numD nBurst 1 1500 1000000, .nil)])) := Lib.hid (OwnG.lit (Blk.new w3 _ _) H3.out.size (by decide) (row_leaves [numD nQuantum 1 1500 100000, numD nRate 2 0 1000000, numD nBurst 1 1500 1000000] (by decide)) (fun _ h => h.elim) (fun _ h => h.elim))
 go_wp2_with fail
 refine (N4 _).out.mono ?_
 rintro r w4 ⟨rfl, hB⟩
 have HO4 := Lib.hid ((HO.out.below stay_spc hB).below stay_spc ((Below.refl _ _).alloc (Nat.le_refl _) (.cells #[.string ⟨#[108, 105, 109, 105, 116]⟩, .int .i64 1, .int .i64 1, .int .u64 1, .int .u64 64, .slice none 0 0, .bool true, .int .i64 0, .slice none 0 0] 39)))
 have hb4 : Below w.heap.size w (w4.alloc (.cells #[.string ⟨#[108, 105, 109, 105, 116]⟩, .int .i64 1, .int .i64 1, .int .u64 1, .int .u64 64, .slice none 0 0, .bool true, .int .i64 0, .slice none 0 0] 39)) := (HA.out.trans (hB.mono HA.out.size)).alloc (Nat.le_trans HA.out.size hB.size) _
 have H4 := Lib.hid hb4
 clear hb4 hB
 go_wp2_with (at_builtin; refine wpList_append_g (ys := spC (numD nLimit 1 1 64) (.slice none 0 0) (.slice none 0 0)) stay_spc one_spc Tryd.underlying37 infoS zeroS (by decide) rfl (.tmp 10) (.tmp 12) rfl rfl rfl HO4.out rfl (Blk.new w4 _ _) (leaf_n rfl) ?h1 ?h2 H4.out.size ?_)
 case h1 => decide
 case h2 => decide
 intro v5 w5 hap
 have H5 := Lib.hid (H4.out.trans (hap.below HO4.out H4.out.size))
 have HO5 := Lib.hid hap.1
 obtain ⟨g5, c5, rfl⟩ := hap.2.2.2
 clear hap
 have HO6 := Lib.hid (HO5.out.below stay_spc ((Below.refl _ _).alloc (Nat.le_refl _) (.cells #[.string ⟨#[115, 104, 97, 112, 101, 100]⟩, .int .i64 1, .int .i64 3, .int .u64 0, .int .u64 0, .slice none 0 0, .bool true, .int .i64 0, .slice none 0 0] 39)))
 have H6 : Hid (Below w.heap.size w (w5.alloc (.cells #[.string ⟨#[115, 104, 97, 112, 101, 100]⟩, .int .i64 1, .int .i64 3, .int .u64 0, .int .u64 0, .slice none 0 0, .bool true, .int .i64 0, .slice none 0 0] 39))) := Lib.hid (H5.out.alloc H5.out.size _)
 go_wp2_with (at_builtin; refine wpList_append_g (ys := spC (leafD nShaped 3 true) (.slice none 0 0) (.slice none 0 0)) stay_spc one_spc Tryd.underlying37 infoS zeroS (by decide) rfl (.tmp 20) (.tmp 22) rfl rfl rfl HO6.out rfl (Blk.new w5 _ _) (leaf_n (a := leafD nShaped 3 true) rfl) ?h1 ?h2 H6.out.size ?_)
 case h1 => decide
 case h2 => decide
 intro v7 w7 hap
 have H7 := Lib.hid (H6.out.trans (hap.below HO6.out H6.out.size))
 have HO7 := Lib.hid hap.1
 obtain ⟨g7, c7, rfl⟩ := hap.2.2.2
 clear hap
 go_wp2
 go_ret
 exact ⟨_, _, rfl, HO7.out, H7.out⟩
set_option maxRecDepth 100000 in
set_option maxHeartbeats 2000000 in
theorem rclass_3 (w : World) : Calls Tryd.prog 42 #[.int .i64 3] w (ClassP 3 w) := by
 have N1 : ∀ W, Hid (Calls Tryd.prog 41 #[.string ⟨#[113, 117, 97, 110, 116, 117, 109]⟩, .int .i64 1, .int .u64 1500, .int .u64 100000] W (fun r w' => r = .returned (.agg #[.string ⟨#[113, 117, 97, 110, 116, 117, 109]⟩, .int .i64 1, .int .i64 1, .int .u64 1500, .int .u64 100000, .slice none 0 0, .bool true, .int .i64 0, .slice none 0 0]) ∧ Below W.heap.size W w')) := fun W => Lib.hid (srnum_any nQuantum 1 1500 100000 W)
 have N2 : ∀ W, Hid (Calls Tryd.prog 41 #[.string ⟨#[114, 97, 116, 101]⟩, .int .i64 2, .int .u64 0, .int .u64 1000000] W (fun r w' => r = .returned (.agg #[.string ⟨#[114, 97, 116, 101]⟩, .int .i64 1, .int .i64 2, .int .u64 0, .int .u64 1000000, .slice none 0 0, .bool true, .int .i64 0, .slice none 0 0]) ∧ Below W.heap.size W w')) := fun W => Lib.hid (srnum_any nRate 2 0 1000000 W)
 have N3 : ∀ W, Hid (Calls Tryd.prog 41 #[.string ⟨#[98, 117, 114, 115, 116]⟩, .int .i64 1, .int .u64 1500, .int .u64 1000000] W (fun r w' => r = .returned (.agg #[.string ⟨#[98, 117, 114, 115, 116]⟩, .int .i64 1, .int .i64 1, .int .u64 1500, .int .u64 1000000, .slice none 0 0, .bool true, .int .i64 0, .slice none 0 0]) ∧ Below W.heap.size W w')) := fun W => Lib.hid (srnum_any nBurst 1 1500 1000000 W)
 have N4 : ∀ W, Hid (Calls Tryd.prog 41 #[.string ⟨#[100, 101, 112, 116, 104]⟩, .int .i64 1, .int .u64 1, .int .u64 64] W (fun r w' => r = .returned (.agg #[.string ⟨#[100, 101, 112, 116, 104]⟩, .int .i64 1, .int .i64 1, .int .u64 1, .int .u64 64, .slice none 0 0, .bool true, .int .i64 0, .slice none 0 0]) ∧ Below W.heap.size W w')) := fun W => Lib.hid (srnum_any nDepth 1 1 64 W)
 go_enter Tryd.func42, Tryd.ntmps42
 go_wp2_with fail
 refine (N1 _).out.mono ?_
 rintro r w1 ⟨rfl, hB⟩
 have H1 := Lib.hid hB
 clear hB
 go_wp2_with fail
 refine (N2 _).out.mono ?_
 rintro r w2 ⟨rfl, hB⟩
 have H2 := Lib.hid (H1.out.trans (hB.mono H1.out.size))
 clear hB
 go_wp2_with fail
 refine (N3 _).out.mono ?_
 rintro r w3 ⟨rfl, hB⟩
 have H3 := Lib.hid (H2.out.trans (hB.mono H2.out.size))
 clear hB
 have HA : Hid (Below w.heap.size w (w3.alloc (.cells #[.string ⟨#[113, 117, 97, 110, 116, 117, 109]⟩, .int .i64 1, .int .i64 1, .int .u64 1500, .int .u64 100000, .slice none 0 0, .bool true, .int .i64 0, .slice none 0 0, .string ⟨#[114, 97, 116, 101]⟩, .int .i64 1, .int .i64 2, .int .u64 0, .int .u64 1000000, .slice none 0 0, .bool true, .int .i64 0, .slice none 0 0, .string ⟨#[98, 117, 114, 115, 116]⟩, .int .i64 1, .int .i64 1, .int .u64 1500, .int .u64 1000000, .slice none 0 0, .bool true, .int .i64 0, .slice none 0 0] 39))) := Lib.hid (H3.out.alloc H3.out.size _)
 have HO : Hid (OwnG SpcD 39 9 8 (w3.alloc (.cells #[.string ⟨#[113, 117, 97, 110, 116, 117, 109]⟩, .int .i64 1, .int .i64 1, .int .u64 1500, .int .u64 100000, .slice none 0 0, .bool true, .int .i64 0, .slice none 0 0, .string ⟨#[114, 97, 116, 101]⟩, .int .i64 1, .int .i64 2, .int .u64 0, .int .u64 1000000, .slice none 0 0, .bool true, .int .i64 0, .slice none 0 0, .string ⟨#[98, 117, 114, 115, 116]⟩, .int .i64 1, .int .i64 1, .int .u64 1500, .int .u64 1000000, .slice none 0 0, .bool true, .int .i64 0, .slice none 0 0] 39)) w.heap.size (fun _ => False) (fun _ => False) (.slice (some ⟨w3.heap.size, 0, none⟩) 3 3) (frOf [(numD nQuantum 1 1500 100000, .nil), (numD nRate 2 0 1000000, .nil), (numD nBurst 1 1500 1000000, .nil)])) := Lib.hid (OwnG.lit (Blk.new w3 _ _) H3.out.size (by decide) (row_leaves [numD nQuantum 1 1500 100000, numD nRate 2 0 1000000, numD nBurst 1 1500 1000000] (by decide)) (fun _ h => h.elim) (fun _ h => h.elim))
 go_wp2_with fail
 refine (N4 _).out.mono ?_
 rintro r w4 ⟨rfl, hB⟩
 have HO4 := Lib.hid ((HO.out.below stay_spc hB).below stay_spc ((Below.refl _ _).alloc (Nat.le_refl _) (.cells #[.string ⟨#[100, 101, 112, 116, 104]⟩, .int .i64 1, .int .i64 1, .int .u64 1, .int .u64 64, .slice none 0 0, .bool true, .int .i64 0, .slice none 0 0] 39)))
 have hb4 : Below w.heap.size w (w4.alloc (.cells #[.string ⟨#[100, 101, 112, 116, 104]⟩, .int .i64 1, .int .i64 1, .int .u64 1, .int .u64 64, .slice none 0 0, .bool true, .int .i64 0, .slice none 0 0] 39)) := (HA.out.trans (hB.mono HA.out.size)).alloc (Nat.le_trans HA.out.size hB.size) _
 have H4 := Lib.hid hb4
 clear hb4 hB
 go_wp2_with (at_builtin; refine wpList_append_g (ys := spC (numD nDepth 1 1 64) (.slice none 0 0) (.slice none 0 0)) stay_spc one_spc Tryd.underlying37 infoS zeroS (by decide) rfl (.tmp 14) (.tmp 16) rfl rfl rfl HO4.out rfl (Blk.new w4 _ _) (leaf_n rfl) ?h1 ?h2 H4.out.size ?_)
 case h1 => decide
 case h2 => decide
 intro v5 w5 hap
 have H5 := Lib.hid (H4.out.trans (hap.below HO4.out H4.out.size))
 have HO5 := Lib.hid hap.1
 obtain ⟨g5, c5, rfl⟩ := hap.2.2.2
 clear hap
 have HO6 := Lib.hid (HO5.out.below stay_spc ((Below.refl _ _).alloc (Nat.le_refl _) (.cells #[.string ⟨#[115, 104, 97, 112, 101, 100]⟩, .int .i64 1, .int .i64 3, .int .u64 0, .int .u64 0, .slice none 0 0, .bool true, .int .i64 0, .slice none 0 0] 39)))
 have H6 : Hid (Below w.heap.size w (w5.alloc (.cells #[.string ⟨#[115, 104, 97, 112, 101, 100]⟩, .int .i64 1, .int .i64 3, .int .u64 0, .int .u64 0, .slice none 0 0, .bool true, .int .i64 0, .slice none 0 0] 39))) := Lib.hid (H5.out.alloc H5.out.size _)
 go_wp2_with (at_builtin; refine wpList_append_g (ys := spC (leafD nShaped 3 true) (.slice none 0 0) (.slice none 0 0)) stay_spc one_spc Tryd.underlying37 infoS zeroS (by decide) rfl (.tmp 20) (.tmp 22) rfl rfl rfl HO6.out rfl (Blk.new w5 _ _) (leaf_n (a := leafD nShaped 3 true) rfl) ?h1 ?h2 H6.out.size ?_)
 case h1 => decide
 case h2 => decide
 intro v7 w7 hap
 have H7 := Lib.hid (H6.out.trans (hap.below HO6.out H6.out.size))
 have HO7 := Lib.hid hap.1
 obtain ⟨g7, c7, rfl⟩ := hap.2.2.2
 clear hap
 go_wp2
 go_ret
 exact ⟨_, _, rfl, HO7.out, H7.out⟩
end Go.Proofs.YtikmilcdibldhaaDoor
