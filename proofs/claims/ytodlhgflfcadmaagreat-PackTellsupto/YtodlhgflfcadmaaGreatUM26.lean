/- SpcRefC SpvFnG -/
import Derived.Test.YtodlhgflfcadmaaGreatUM25
set_option linter.unusedSimpArgs false
set_option linter.unusedVariables false
set_option maxRecDepth 100000
set_option maxHeartbeats 8000000
namespace Go.Proofs.YtodlhgflfcadmaaGreat
open Go.RowKit
def Rng (a b g : Nat) : Prop := a ≤ g ∧ g < b
def RSpP (x : Sp × Nat) (w : World) (r : Ending) (w' : World) : Prop := ∃ cs, r = .returned (.tuple #[.agg cs.toArray, .int .i64 (x.2 : Int)]) ∧ SpN w' (Rng w.heap.size w'.heap.size) (Rng w.heap.size w'.heap.size) cs x.1 ∧ Below w.heap.size w w'
theorem res_cell_tmp {P : Program} {fn : Func} {p u : Tmp} {ty : TypeId} (h : fn.results = #[.cell p ty, .tmp u]) (tmps : Array Value) (w : World) (g : Nat) (t : TypeId) (cs : Array Value) (fr : Nat × Nat) (d : TypeDesc)
  (hp : tmps.getD p undef = .pointer (some ⟨g, 0, none⟩)) (hg : w.heap[g]? = some (.cells cs t fr))
  (hu : P.underlying ty = some d) (hd : (match d with | .struct _ | .array _ _ => true | _ => false) = true) (hi : (P.info? ty).map (·.size) = some cs.size) :
  (results fn tmps).run P w = .ok (.tuple #[.agg cs, tmps.getD u undef]) w := by
 rw [results_cell_tmp h, hp]
 simp [asAddr, run_loadVar_row w g t ty cs fr d hg hu hd hi, Result.andThen]
def set9 (w : World) (b : Nat) (x0 x1 x2 x3 x4 x5 x6 x7 x8 : Value) : World := ((((((((w.setCell ⟨b, 0, none⟩ x0).setCell ⟨b, 1, none⟩ x1).setCell ⟨b, 2, none⟩ x2).setCell ⟨b, 3, none⟩ x3).setCell ⟨b, 4, none⟩ x4).setCell ⟨b, 5, none⟩ x5).setCell ⟨b, 6, none⟩ x6).setCell ⟨b, 7, none⟩ x7).setCell ⟨b, 8, none⟩ x8
theorem Blk.set9 {w : World} {b : Nat} {t : TypeId} {y0 y1 y2 y3 y4 y5 y6 y7 y8 : Value} (h : Blk w b t #[y0, y1, y2, y3, y4, y5, y6, y7, y8]) (x0 x1 x2 x3 x4 x5 x6 x7 x8 : Value) : Blk (set9 w b x0 x1 x2 x3 x4 x5 x6 x7 x8) b t #[x0, x1, x2, x3, x4, x5, x6, x7, x8] := by
 have h2 := (((((((((h).set_ 0 x0).set_ 1 x1).set_ 2 x2).set_ 3 x3).set_ 4 x4).set_ 5 x5).set_ 6 x6).set_ 7 x7).set_ 8 x8
 simp only [layS] at h2
 exact h2
theorem set9_below {B : Nat} {w : World} {b : Nat} {x0 x1 x2 x3 x4 x5 x6 x7 x8 : Value} (h : B ≤ b) : Below B w (set9 w b x0 x1 x2 x3 x4 x5 x6 x7 x8) :=
 (((((((((Below.refl B w).setCell (p := ⟨b, 0, none⟩) h x0).setCell (p := ⟨b, 1, none⟩) h x1).setCell (p := ⟨b, 2, none⟩) h x2).setCell (p := ⟨b, 3, none⟩) h x3).setCell (p := ⟨b, 4, none⟩) h x4).setCell (p := ⟨b, 5, none⟩) h x5).setCell (p := ⟨b, 6, none⟩) h x6).setCell (p := ⟨b, 7, none⟩) h x7).setCell (p := ⟨b, 8, none⟩) h x8
theorem set9_other {w : World} {b g : Nat} {x0 x1 x2 x3 x4 x5 x6 x7 x8 : Value} (h : g ≠ b) : (set9 w b x0 x1 x2 x3 x4 x5 x6 x7 x8).heap[g]? = w.heap[g]? := by
 unfold set9
 rw [Below.heap_setCell _ _ _ _ h, Below.heap_setCell _ _ _ _ h, Below.heap_setCell _ _ _ _ h, Below.heap_setCell _ _ _ _ h, Below.heap_setCell _ _ _ _ h, Below.heap_setCell _ _ _ _ h, Below.heap_setCell _ _ _ _ h, Below.heap_setCell _ _ _ _ h, Below.heap_setCell _ _ _ _ h]
theorem set9_size {w : World} {b : Nat} {x0 x1 x2 x3 x4 x5 x6 x7 x8 : Value} : (set9 w b x0 x1 x2 x3 x4 x5 x6 x7 x8).heap.size = w.heap.size := by simp [set9, World.setCell]
theorem FrV.under {w w' : World} {S N : Nat → Prop} {v : Value} {f : SpF} (h : FrV SpcD 9 8 w S N v f) (hb : Below w.heap.size w w') (hS : ∀ g, S g → g < w.heap.size) (hN : ∀ g, N g → g < w.heap.size) : FrV SpcD 9 8 w' S N v f :=
 h.kept stay_spc (fun g hg => hb.block g (hS g hg)) (fun _ h => h) (fun g hg => hb.block g (hN g hg)) (fun _ h => h)
theorem rroot_1 (w : World) : Calls Tryz.prog 27 #[.int .i64 1] w (RSpP (rootX 1) w) := by
 have N1 : ∀ W, Hid (Calls Tryz.prog 46 #[.string ⟨#[108, 111, 119]⟩, .int .i64 1, .int .u64 0, .int .u64 65535] W (fun r w' => r = .returned (.agg (cS ⟨#[108, 111, 119]⟩ 1 1 0 65535 (.slice none 0 0) true 0 (.slice none 0 0))) ∧ Below W.heap.size W w')) := fun W => hHd (srnum_any nLow 1 0 65535 W)
 have N2 : ∀ W, Hid (Calls Tryz.prog 46 #[.string ⟨#[104, 105, 103, 104]⟩, .int .i64 1, .int .u64 0, .int .u64 65535] W (fun r w' => r = .returned (.agg (cS ⟨#[104, 105, 103, 104]⟩ 1 1 0 65535 (.slice none 0 0) true 0 (.slice none 0 0))) ∧ Below W.heap.size W w')) := fun W => hHd (srnum_any nHigh 1 0 65535 W)
 have NK : ∀ W, Hid (Calls Tryz.prog 47 #[.int .i64 1] W (fun r w' => ∃ A c, r = .returned (.slice A 4 c) ∧ OwnG SpcD 67 9 8 w' W.heap.size (fun _ => False) (fun _ => False) (.slice A 4 c) (frOf (classL 1)) ∧ Below W.heap.size W w')) := fun W => hHd (rclass_1 W)
 have H0 : Hid (Below w.heap.size w (w.alloc (.cells (cS ⟨#[]⟩ 0 0 0 0 (.slice none 0 0) false 0 (.slice none 0 0)) 67))) := hHd bAl
 have R0 : Hid (Blk (w.alloc (.cells (cS ⟨#[]⟩ 0 0 0 0 (.slice none 0 0) false 0 (.slice none 0 0)) 67)) w.heap.size 67 (cS ⟨#[]⟩ 0 0 0 0 (.slice none 0 0) false 0 (.slice none 0 0))) := hHd (Blk.new w _ _)
 go_enter Tryz.func27, Tryz.ntmps27
 go_wp2_with fail
 refine (N1 _).out.mono ?_
 rintro r w1 ⟨rfl, hB⟩
 have H1 := hHd (H0.out.trans (hB.mono H0.out.size))
 have R1 := hHd (R0.out.below hB R0.out.lt)
 clear hB
 go_wp2_with fail
 refine (N2 _).out.mono ?_
 rintro r w2 ⟨rfl, hB⟩
 have H2 := hHd (H1.out.trans (hB.mono H1.out.size))
 have R2 := hHd (R1.out.below hB R1.out.lt)
 clear hB
 have H3 : Hid (Below w.heap.size w (w2.alloc (.cells lLo 67))) := hHd (H2.out.alloc H2.out.size _)
 have R3 : Hid (Blk (w2.alloc (.cells lLo 67)) w.heap.size 67 (cS ⟨#[]⟩ 0 0 0 0 (.slice none 0 0) false 0 (.slice none 0 0))) := hHd (R2.out.alloc _)
 have K3 : Hid (FrV SpcD 9 8 (w2.alloc (.cells lLo 67)) (Rng (w.heap.size + 1) (w2.heap.size + 1)) (fun _ => False) (.slice (some ⟨w2.heap.size, 0, none⟩) 3 3) (frOf ruleL)) := hHd (FrV.lit (f := frOf ruleL) ⟨R2.out.lt, Nat.lt_succ_self _⟩ (Blk.new w2 _ _) (row_leaves [numD nLow 1 0 65535, numD nHigh 1 0 65535, leafD nClass 6 true] (by decide)) (by decide))
 have s3 : Hid ((w2.alloc (.cells lLo 67)).heap.size = w2.heap.size + 1) := hHd (by simp)
 go_wp2_with fail
 refine (NK _).out.mono ?_
 rintro r w4 ⟨A, c, rfl, hO, hB⟩
 have H4 := hHd (H3.out.trans (hB.mono H3.out.size))
 have R4 := hHd (R3.out.below hB R3.out.lt)
 have z43 : w2.heap.size + 1 ≤ w4.heap.size := by have := hB.size; rw [s3.out] at this; exact this
 have z2 := H2.out.size
 have hz3 := R3.out.lt
 have K4 : Hid (FrV SpcD 9 8 w4 (Rng (w.heap.size + 1) w4.heap.size) (Rng (w.heap.size + 1) w4.heap.size) (.slice (some ⟨w2.heap.size, 0, none⟩) 3 3) (frOf ruleL)) := hHd ((K3.out.under hB (fun g hg => by rw [s3.out]; exact hg.2) (fun _ h => h.elim)).mono stay_spc (fun g hg => ⟨hg.1, Nat.lt_of_lt_of_le hg.2 z43⟩) (fun _ h => h.elim))
 have C4 : Hid (FrV SpcD 9 8 w4 (Rng (w.heap.size + 1) w4.heap.size) (Rng (w.heap.size + 1) w4.heap.size) (.slice A 4 c) (frOf (classL 1))) := hHd ((hO.frv stay_spc).mono stay_spc (fun g hg => hg.elim False.elim (fun hg => ⟨Nat.le_trans hz3 (hO.lt g hg).1, (hO.lt g hg).2⟩)) (fun _ h => h.elim))
 clear hO hB hz3
 have H5 : Hid (Below w.heap.size w (w4.alloc (.cells (lUp (.slice A 4 c) (.slice (some ⟨w2.heap.size, 0, none⟩) 3 3)) 67))) := hHd (H4.out.alloc H4.out.size _)
 have R5 : Hid (Blk (w4.alloc (.cells (lUp (.slice A 4 c) (.slice (some ⟨w2.heap.size, 0, none⟩) 3 3)) 67)) w.heap.size 67 (cS ⟨#[]⟩ 0 0 0 0 (.slice none 0 0) false 0 (.slice none 0 0))) := hHd (R4.out.alloc _)
 have hb5 : Below w4.heap.size w4 (w4.alloc (.cells (lUp (.slice A 4 c) (.slice (some ⟨w2.heap.size, 0, none⟩) 3 3)) 67)) := bAl
 have O5 : Hid (OwnG SpcD 67 9 8 (w4.alloc (.cells (lUp (.slice A 4 c) (.slice (some ⟨w2.heap.size, 0, none⟩) 3 3)) 67)) (w.heap.size + 1) (Rng (w.heap.size + 1) w4.heap.size) (Rng (w.heap.size + 1) w4.heap.size) (.slice (some ⟨w4.heap.size, 0, none⟩) 4 4) (frOf [(leafD nUp 3 false, .nil), (listD nClass 8, frOf (classL 1)), (listD nRule 16, frOf ruleL), (leafD nDefault 6 true, .nil)])) := hHd (OwnG.lit (f := frOf [(leafD nUp 3 false, .nil), (listD nClass 8, frOf (classL 1)), (listD nRule 16, frOf ruleL), (leafD nDefault 6 true, .nil)]) (Blk.new w4 _ _) R4.out.lt (by decide) ⟨spC (leafD nUp 3 false) (.slice none 0 0) (.slice none 0 0), _, rfl, leaf_n rfl, spC (listD nClass 8) (.slice none 0 0) (.slice A 4 c), _, rfl, list_n rfl (C4.out.under hb5 (fun g hg => hg.2) (fun g hg => hg.2)), spC (listD nRule 16) (.slice none 0 0) (.slice (some ⟨w2.heap.size, 0, none⟩) 3 3), _, rfl, list_n rfl (K4.out.under hb5 (fun g hg => hg.2) (fun g hg => hg.2)), spC (leafD nDefault 6 true) (.slice none 0 0) (.slice none 0 0), [], rfl, leaf_n rfl, rfl⟩ (fun k hk => ⟨Nat.lt_of_lt_of_le hk.2 hb5.size, Nat.ne_of_lt hk.2⟩) (fun k hk => ⟨Nat.lt_of_lt_of_le hk.2 hb5.size, Nat.ne_of_lt hk.2⟩))
 clear hb5
 have z4 : w.heap.size + 1 ≤ w4.heap.size := R4.out.lt
 have B8 : Hid (∀ g, w4.heap.size ≤ g → g < (w4.alloc (.cells (lUp (.slice A 4 c) (.slice (some ⟨w2.heap.size, 0, none⟩) 3 3)) 67)).heap.size → Rng (w.heap.size + 1) (w4.alloc (.cells (lUp (.slice A 4 c) (.slice (some ⟨w2.heap.size, 0, none⟩) 3 3)) 67)).heap.size g) := hHd (fun g h1 h2 => ⟨by omega, h2⟩)
 have lt8 : ∀ {g : Nat}, g < (w4.alloc (.cells (lUp (.slice A 4 c) (.slice (some ⟨w2.heap.size, 0, none⟩) 3 3)) 67)).heap.size → g < w4.heap.size + 1 := fun {g} h => by simpa using h
 have KP : Hid (FrV SpcD 9 8 (w4.alloc (.cells (lUp (.slice A 4 c) (.slice (some ⟨w2.heap.size, 0, none⟩) 3 3)) 67)) (Rng (w.heap.size + 1) (w4.heap.size + 1)) (Rng (w.heap.size + 1) (w4.heap.size + 1)) (.slice (some ⟨w4.heap.size, 0, none⟩) 4 4) (frOf (portL 1))) := hHd ((O5.out.frv stay_spc).mono stay_spc (fun g hg => hg.elim (fun hg => ⟨hg.1, lt8 (O5.out.1 g hg).1⟩) (fun hg => ⟨(O5.out.lt g hg).1, lt8 (O5.out.lt g hg).2⟩)) (fun g hg => ⟨hg.1, lt8 (O5.out.2.1 g hg).1⟩))
 have s8 : Hid ((w4.alloc (.cells (lUp (.slice A 4 c) (.slice (some ⟨w2.heap.size, 0, none⟩) 3 3)) 67)).heap.size = w4.heap.size + 1) := hHd (by simp)
 have gt8 : ∀ {g : Nat}, g < (w4.heap.size + 1) → g < (w4.alloc (.cells (lUp (.slice A 4 c) (.slice (some ⟨w2.heap.size, 0, none⟩) 3 3)) 67)).heap.size := fun {g} h => by simpa using h
 have hb9 : Below (w4.alloc (.cells (lUp (.slice A 4 c) (.slice (some ⟨w2.heap.size, 0, none⟩) 3 3)) 67)).heap.size (w4.alloc (.cells (lUp (.slice A 4 c) (.slice (some ⟨w2.heap.size, 0, none⟩) 3 3)) 67)) ((w4.alloc (.cells (lUp (.slice A 4 c) (.slice (some ⟨w2.heap.size, 0, none⟩) 3 3)) 67)).alloc (.cells (lSy (.slice (some ⟨w4.heap.size, 0, none⟩) 4 4)) 67)) := bAl
 have H9 : Hid (Below w.heap.size w ((w4.alloc (.cells (lUp (.slice A 4 c) (.slice (some ⟨w2.heap.size, 0, none⟩) 3 3)) 67)).alloc (.cells (lSy (.slice (some ⟨w4.heap.size, 0, none⟩) 4 4)) 67))) := hHd (H5.out.alloc H5.out.size _)
 have R9 : Hid (Blk ((w4.alloc (.cells (lUp (.slice A 4 c) (.slice (some ⟨w2.heap.size, 0, none⟩) 3 3)) 67)).alloc (.cells (lSy (.slice (some ⟨w4.heap.size, 0, none⟩) 4 4)) 67)) w.heap.size 67 (cS ⟨#[]⟩ 0 0 0 0 (.slice none 0 0) false 0 (.slice none 0 0))) := hHd (R5.out.alloc _)
 have O9 : Hid (OwnG SpcD 67 9 8 ((w4.alloc (.cells (lUp (.slice A 4 c) (.slice (some ⟨w2.heap.size, 0, none⟩) 3 3)) 67)).alloc (.cells (lSy (.slice (some ⟨w4.heap.size, 0, none⟩) 4 4)) 67)) (w.heap.size + 1) (Rng (w.heap.size + 1) (w4.heap.size + 1)) (Rng (w.heap.size + 1) (w4.heap.size + 1)) (.slice (some ⟨(w4.heap.size + 1), 0, none⟩) 2 2) (frOf [(leafD nSystem 5 false, .nil), (listD nPort 4, frOf (portL 1))])) := hHd (OwnG.lit (f := frOf [(leafD nSystem 5 false, .nil), (listD nPort 4, frOf (portL 1))]) (by have h := Blk.new (w4.alloc (.cells (lUp (.slice A 4 c) (.slice (some ⟨w2.heap.size, 0, none⟩) 3 3)) 67)) 67 (lSy (.slice (some ⟨w4.heap.size, 0, none⟩) 4 4)); rw [s8.out] at h; exact h) (lt8 R5.out.lt) (by decide) ⟨spC (leafD nSystem 5 false) (.slice none 0 0) (.slice none 0 0), _, rfl, leaf_n rfl, spC (listD nPort 4) (.slice none 0 0) (.slice (some ⟨w4.heap.size, 0, none⟩) 4 4), [], rfl, list_n rfl (KP.out.under hb9 (fun g hg => gt8 hg.2) (fun g hg => gt8 hg.2)), rfl⟩ (fun k hk => ⟨Nat.lt_of_lt_of_le (gt8 hk.2) hb9.size, Nat.ne_of_lt hk.2⟩) (fun k hk => ⟨Nat.lt_of_lt_of_le (gt8 hk.2) hb9.size, Nat.ne_of_lt hk.2⟩))
 clear hb9
 clear lt8 gt8 z2 z4 z43
 have f0 : ((w4.alloc (.cells (lUp (.slice A 4 c) (.slice (some ⟨w2.heap.size, 0, none⟩) 3 3)) 67)).alloc (.cells (lSy (.slice (some ⟨w4.heap.size, 0, none⟩) 4 4)) 67)).frozen? ⟨w.heap.size, 0, none⟩ = false := R9.out.frozen 0
 have f1 : ((w4.alloc (.cells (lUp (.slice A 4 c) (.slice (some ⟨w2.heap.size, 0, none⟩) 3 3)) 67)).alloc (.cells (lSy (.slice (some ⟨w4.heap.size, 0, none⟩) 4 4)) 67)).frozen? ⟨w.heap.size, 1, none⟩ = false := R9.out.frozen 1
 have f2 : ((w4.alloc (.cells (lUp (.slice A 4 c) (.slice (some ⟨w2.heap.size, 0, none⟩) 3 3)) 67)).alloc (.cells (lSy (.slice (some ⟨w4.heap.size, 0, none⟩) 4 4)) 67)).frozen? ⟨w.heap.size, 2, none⟩ = false := R9.out.frozen 2
 have f3 : ((w4.alloc (.cells (lUp (.slice A 4 c) (.slice (some ⟨w2.heap.size, 0, none⟩) 3 3)) 67)).alloc (.cells (lSy (.slice (some ⟨w4.heap.size, 0, none⟩) 4 4)) 67)).frozen? ⟨w.heap.size, 3, none⟩ = false := R9.out.frozen 3
 have f4 : ((w4.alloc (.cells (lUp (.slice A 4 c) (.slice (some ⟨w2.heap.size, 0, none⟩) 3 3)) 67)).alloc (.cells (lSy (.slice (some ⟨w4.heap.size, 0, none⟩) 4 4)) 67)).frozen? ⟨w.heap.size, 4, none⟩ = false := R9.out.frozen 4
 have f5 : ((w4.alloc (.cells (lUp (.slice A 4 c) (.slice (some ⟨w2.heap.size, 0, none⟩) 3 3)) 67)).alloc (.cells (lSy (.slice (some ⟨w4.heap.size, 0, none⟩) 4 4)) 67)).frozen? ⟨w.heap.size, 5, none⟩ = false := R9.out.frozen 5
 have f6 : ((w4.alloc (.cells (lUp (.slice A 4 c) (.slice (some ⟨w2.heap.size, 0, none⟩) 3 3)) 67)).alloc (.cells (lSy (.slice (some ⟨w4.heap.size, 0, none⟩) 4 4)) 67)).frozen? ⟨w.heap.size, 6, none⟩ = false := R9.out.frozen 6
 have f7 : ((w4.alloc (.cells (lUp (.slice A 4 c) (.slice (some ⟨w2.heap.size, 0, none⟩) 3 3)) 67)).alloc (.cells (lSy (.slice (some ⟨w4.heap.size, 0, none⟩) 4 4)) 67)).frozen? ⟨w.heap.size, 7, none⟩ = false := R9.out.frozen 7
 have f8 : ((w4.alloc (.cells (lUp (.slice A 4 c) (.slice (some ⟨w2.heap.size, 0, none⟩) 3 3)) 67)).alloc (.cells (lSy (.slice (some ⟨w4.heap.size, 0, none⟩) 4 4)) 67)).frozen? ⟨w.heap.size, 8, none⟩ = false := R9.out.frozen 8
 obtain ⟨q0, q1, q2, q3, q4, q5, q6, q7, q8⟩ := cl9 R9.out
 have KE : Hid (FrV SpcD 9 8 ((w4.alloc (.cells (lUp (.slice A 4 c) (.slice (some ⟨w2.heap.size, 0, none⟩) 3 3)) 67)).alloc (.cells (lSy (.slice (some ⟨w4.heap.size, 0, none⟩) 4 4)) 67)) (Rng (w.heap.size + 1) ((w4.alloc (.cells (lUp (.slice A 4 c) (.slice (some ⟨w2.heap.size, 0, none⟩) 3 3)) 67)).alloc (.cells (lSy (.slice (some ⟨w4.heap.size, 0, none⟩) 4 4)) 67)).heap.size) (Rng (w.heap.size + 1) ((w4.alloc (.cells (lUp (.slice A 4 c) (.slice (some ⟨w2.heap.size, 0, none⟩) 3 3)) 67)).alloc (.cells (lSy (.slice (some ⟨w4.heap.size, 0, none⟩) 4 4)) 67)).heap.size) (.slice (some ⟨(w4.heap.size + 1), 0, none⟩) 2 2) (rootF 1)) := hHd ((O9.out.frv stay_spc).mono stay_spc (fun g hg => hg.elim (fun hg => ⟨hg.1, (O9.out.1 g hg).1⟩) (fun hg => O9.out.lt g hg)) (fun g hg => ⟨hg.1, (O9.out.2.1 g hg).1⟩))
 have HE : Hid (Below w.heap.size w (set9 ((w4.alloc (.cells (lUp (.slice A 4 c) (.slice (some ⟨w2.heap.size, 0, none⟩) 3 3)) 67)).alloc (.cells (lSy (.slice (some ⟨w4.heap.size, 0, none⟩) 4 4)) 67)) w.heap.size (.string ⟨#[]⟩) (.int .i64 2) (.int .i64 0) (.int .u64 0) (.int .u64 0) (.slice none 0 0) (.bool false) (.int .i64 0) (.slice (some ⟨(w4.heap.size + 1), 0, none⟩) 2 2))) := hHd (H9.out.trans (set9_below (Nat.le_refl _)))
 have RE : Hid (Blk (set9 ((w4.alloc (.cells (lUp (.slice A 4 c) (.slice (some ⟨w2.heap.size, 0, none⟩) 3 3)) 67)).alloc (.cells (lSy (.slice (some ⟨w4.heap.size, 0, none⟩) 4 4)) 67)) w.heap.size (.string ⟨#[]⟩) (.int .i64 2) (.int .i64 0) (.int .u64 0) (.int .u64 0) (.slice none 0 0) (.bool false) (.int .i64 0) (.slice (some ⟨(w4.heap.size + 1), 0, none⟩) 2 2)) w.heap.size 67 (cS ⟨#[]⟩ 2 0 0 0 (.slice none 0 0) false 0 (.slice (some ⟨(w4.heap.size + 1), 0, none⟩) 2 2))) := hHd (R9.out.set9 _ _ _ _ _ _ _ _ _)
 have KS : Hid (FrV SpcD 9 8 (set9 ((w4.alloc (.cells (lUp (.slice A 4 c) (.slice (some ⟨w2.heap.size, 0, none⟩) 3 3)) 67)).alloc (.cells (lSy (.slice (some ⟨w4.heap.size, 0, none⟩) 4 4)) 67)) w.heap.size (.string ⟨#[]⟩) (.int .i64 2) (.int .i64 0) (.int .u64 0) (.int .u64 0) (.slice none 0 0) (.bool false) (.int .i64 0) (.slice (some ⟨(w4.heap.size + 1), 0, none⟩) 2 2)) (Rng w.heap.size (set9 ((w4.alloc (.cells (lUp (.slice A 4 c) (.slice (some ⟨w2.heap.size, 0, none⟩) 3 3)) 67)).alloc (.cells (lSy (.slice (some ⟨w4.heap.size, 0, none⟩) 4 4)) 67)) w.heap.size (.string ⟨#[]⟩) (.int .i64 2) (.int .i64 0) (.int .u64 0) (.int .u64 0) (.slice none 0 0) (.bool false) (.int .i64 0) (.slice (some ⟨(w4.heap.size + 1), 0, none⟩) 2 2)).heap.size) (Rng w.heap.size (set9 ((w4.alloc (.cells (lUp (.slice A 4 c) (.slice (some ⟨w2.heap.size, 0, none⟩) 3 3)) 67)).alloc (.cells (lSy (.slice (some ⟨w4.heap.size, 0, none⟩) 4 4)) 67)) w.heap.size (.string ⟨#[]⟩) (.int .i64 2) (.int .i64 0) (.int .u64 0) (.int .u64 0) (.slice none 0 0) (.bool false) (.int .i64 0) (.slice (some ⟨(w4.heap.size + 1), 0, none⟩) 2 2)).heap.size) (.slice (some ⟨(w4.heap.size + 1), 0, none⟩) 2 2) (rootF 1)) := hHd (KE.out.kept stay_spc (fun g hg => set9_other (by have := hg.1; omega)) (fun g hg => ⟨by have := hg.1; omega, by rw [set9_size]; exact hg.2⟩) (fun g hg => set9_other (by have := hg.1; omega)) (fun g hg => ⟨by have := hg.1; omega, by rw [set9_size]; exact hg.2⟩))
 clear KE
 go_wp2
 refine bodyPost_ret (res_cell_tmp rfl _ _ w.heap.size 67 _ (0, 0) _ rfl RE.out Tryz.underlying67 rfl (by kernel_rfl)) rfl ?_
 exact ⟨spC rootD (.slice none 0 0) (.slice (some ⟨(w4.heap.size + 1), 0, none⟩) 2 2), rfl, list_n rfl KS.out, HE.out⟩
theorem chd_step {W0 wr w1 : World} {base B : Nat} {F F' F1 : List Nat} (hK : SKeeps base (B :: F) W0 wr) (hF : ∀ g, g ∈ F' → g ∈ F ∨ W0.heap.size ≤ g) (hK1 : SKeeps base (B :: F') wr w1) (hF1 : ∀ g, g ∈ F1 → g ∈ F' ∨ wr.heap.size ≤ g) :
  SKeeps base (B :: F) W0 w1 ∧ ∀ g, g ∈ F1 → g ∈ F ∨ W0.heap.size ≤ g := by
 refine ⟨hK.trans hK1 (fun g hg => ?_), fun g hg => ?_⟩
 ·rcases List.mem_cons.1 hg with rfl | hg
  ·exact .inl (by simp)
  ·rcases hF g hg with h | h
   ·exact .inl (by simp [h])
   ·exact .inr h
 ·rcases hF1 g hg with h | h
  ·exact hF g h
  ·exact .inr (Nat.le_trans hK.1.size h)
theorem drop_zero (f : ChF) : Fr.drop 0 f = f := by cases f <;> rfl
theorem drop_cons {f : ChF} {j : Nat} {d : ChD} {k : ChF} (h : f.get? j = some (d, k)) : Fr.drop j f = .cons d k (Fr.drop (j + 1) f) := (Fr.get_drop h).1
theorem changed_any (f : ChF) : ChdC f := by
 refine Fr.byKids (P := ChdC) ?_ f
 clear f
 intro f hkids base R F cs x v w own nd rlt hbase hch hfl hok
 obtain ⟨A, c, rfl⟩ : ∃ A c, v = .slice A f.len c := by obtain ⟨A, c, e, _⟩ := hch; exact ⟨A, c, e⟩
 obtain ⟨Bn, m, A0, c0, dn, rfl, -, -, -⟩ := own.spn.shape
 obtain ⟨W0, hW0⟩ : ∃ W0, W0 = (w.alloc (.cells (cT x.1.name x.1.kind x.1.typ x.1.low x.1.high x.1.names x.1.must x.1.most Bn m A0 x.2.len c0) 61)).alloc (.cells (cS ⟨#[]⟩ 0 0 0 0 (.slice none 0 0) false 0 (.slice none 0 0)) 61) := ⟨_, rfl⟩
 have hB0 : Below w.heap.size w W0 := by rw [hW0]; exact bAl.alloc (by simp) _
 have hsz : W0.heap.size = w.heap.size + 2 := by rw [hW0]; simp
 have hbox : Blk W0 w.heap.size 61 (cT x.1.name x.1.kind x.1.typ x.1.low x.1.high x.1.names x.1.must x.1.most Bn m A0 x.2.len c0) := by
  rw [hW0]; exact (Blk.new w _ _).alloc _
 have hres : Blk W0 (w.heap.size + 1) 61 (cS ⟨#[]⟩ 0 0 0 0 (.slice none 0 0) false 0 (.slice none 0 0)) := by
  rw [hW0]; exact Blk.new_at (by simp) _ _
 have hFl := own.lt
 have hS0 : Sit W0 base R w.heap.size F _ x := ⟨hbox, own.keep (fun g hg => hB0.block g (hFl g hg)) (fun g hg => hB0.block g (rlt g hg).1) (fun _ h => h) (Nat.le_refl _),
  List.nodup_cons.2 ⟨fun h => by have := hFl _ h; omega, nd⟩, fun g hg => ⟨by have := (rlt g hg).1; omega, by have := (rlt g hg).1; omega, (rlt g hg).2⟩, hbase⟩
 have HS0 := hHd hS0
 have HB0 := hHd hB0
 have HSZ := hHd hsz
 have HRES := hHd hres
 have HFL := hHd hFl
 have HRL := hHd rlt
 have HCH := hHd hch
 have HOK := hHd hok
 have HK := hHd hkids
 have HW0 := hHd hW0
 have HBA := hHd hbase
 clear own nd rlt hbase hch hok hB0 hsz hbox hres hFl hS0 hkids hW0
 go_enter Tryz.func71, Tryz.ntmps71
 go_wp2
 go_loopw [9] (fun i wr => ∃ (j : Nat) (cs' : List Value) (F' : List Nat) (x' : Sp), j ≤ f.len ∧ i = .int .i64 (j : Int) ∧ Hid (Sit wr base R w.heap.size F' cs' x') ∧ Hid (runC (Fr.drop j f) x' = runC f x) ∧ Hid (okC (Fr.drop j f) x' = true) ∧ Hid (SKeeps base (w.heap.size :: F) W0 wr) ∧ Hid (∀ g, g ∈ F' → g ∈ F ∨ W0.heap.size ≤ g)) (fun i _ => f.len - (intOf i).toNat)
 case atStart =>
  have s0 := HS0.out
  rw [HW0.out] at s0
  have s1 : SKeeps base (w.heap.size :: F) W0 W0 := SKeeps.refl _ _ _
  rw [HW0.out] at s1
  have s2 := HOK.out
  rw [← drop_zero f] at s2
  exact ⟨0, [.string (txt x.1.name), .int .i64 (x.1.kind : Int), .int .i64 (x.1.typ : Int), .int .u64 (x.1.low : Int), .int .u64 (x.1.high : Int), .slice Bn x.1.names.length m, .bool x.1.must, .int .i64 (x.1.most : Int), .slice A0 x.2.len c0], F, x, Nat.zero_le _, rfl, hHd s0, hHd (by rw [drop_zero]), hHd s2, hHd (by rw [HW0.out]; exact s1), hHd (fun g hg => .inl hg)⟩
 case round =>
  obtain ⟨j, cs', F', x', hj, rfl, HS, HR, HO, HKP, HF⟩ := hrel
  have HRK : Hid (∀ g, R g → wr.heap[g]? = w.heap[g]?) := hHd (fun g hg => by
   obtain ⟨r1, r2⟩ := HRL.out g hg
   have := HSZ.out
   refine (HKP.out.2 g (by omega) (fun h => ?_)).trans (HB0.out.block g r1)
   rcases List.mem_cons.1 h with h | h
   ·omega
   ·exact r2 h)
  by_cases hlt : j < f.len
  ·obtain ⟨d, k, hg⟩ := Fr.get_some hlt
   obtain ⟨b, o, c', fv, e, -, -, hcell, hfv⟩ := (HCH.out.keep (w' := wr) HRK.out (fun _ h => h)).at hg
   injection e with e1 e2 e3
   subst e1 e3
   have hd := drop_cons hg
   have i1 : (0 : Int) ≤ (j : Int) := by omega
   have i2 : (j : Int) < (f.len : Int) := by omega
   have HRR : Hid (runC (Fr.drop (j + 1) f) (stepC d k x') = runC f x) := hHd (by have := HR.out; rw [hd] at this; exact this)
   have HOO : Hid (okC (.cons d k (Fr.drop (j + 1) f)) x' = true) := hHd (by have := HO.out; rw [hd] at this; exact this)
   have HG := hHd hg
   clear hd hg e2
   rcases hfv with ⟨k0, p, rfl, g2, g3⟩ | ⟨k1, p, q, lc, rfl, g2, g3, g4, g5, g6, g7⟩ | ⟨n0, n1, p, q, A2, c2, rfl, g2, g3, g4, g5, g6⟩
   ·have HC : Hid (Calls Tryz.prog 99 #[.pointer (some ⟨w.heap.size, 0, none⟩), .pointer (some ⟨p, 0, none⟩)] wr (ChgP base R w.heap.size F' (stepC d k x') wr)) := hHd (by
     rw [stepC_zero k0]; exact named1_any d.name base w.heap.size p R F' cs' x' wr HS.out g3)
    clear k0 g2 g3
    go_wp2_with fail
    refine HC.out.mono ?_
    rintro r w1 ⟨rfl, cs1, F1, hS1, hK1, hF1⟩
    have HS1 := hHd hS1
    have HST := hHd (chd_step HKP.out HF.out hK1 hF1)
    clear hS1 hK1 hF1 hcell
    go_wp2
    go_roundw
    case rel => exact ⟨j + 1, cs1, F1, stepC d k x', by omega, by go_num, HS1, HRR, hHd (okC_cons HOO.out), hHd HST.out.1, hHd HST.out.2⟩
    case measure => simp [intOf]; omega
   ·have HC : Hid (Calls Tryz.prog 97 #[.pointer (some ⟨w.heap.size, 0, none⟩), .pointer (some ⟨p, 0, none⟩), .pointer (some ⟨q, 0, none⟩)] wr (ChgP base R w.heap.size F' (stepC d k x') wr)) := hHd (by
     obtain ⟨i, q1, q2, q3⟩ := okC_one HOO.out k1
     rw [q3]; exact after1_any d.name d.kid base w.heap.size p q R F' cs' lc x' wr HS.out g4 g5 g6 g7 g2 g3 (fun g hg => (HS.out.rlt g hg).1) i q1 q2 (okC_few HOO.out))
    clear k1 g2 g3 g4 g5 g6 g7
    go_wp2_with fail
    refine HC.out.mono ?_
    rintro r w1 ⟨rfl, cs1, F1, hS1, hK1, hF1⟩
    have HS1 := hHd hS1
    have HST := hHd (chd_step HKP.out HF.out hK1 hF1)
    clear hS1 hK1 hF1 hcell
    go_wp2
    go_roundw
    case rel => exact ⟨j + 1, cs1, F1, stepC d k x', by omega, by go_num, HS1, HRR, hHd (okC_cons HOO.out), hHd HST.out.1, hHd HST.out.2⟩
    case measure => simp [intOf]; omega
   ·have HC : Hid (Calls Tryz.prog 95 #[.pointer (some ⟨w.heap.size, 0, none⟩), .pointer (some ⟨p, 0, none⟩), .pointer (some ⟨q, 0, none⟩)] wr (ChgP base R w.heap.size F' (stepC d k x') wr)) := hHd (by
     obtain ⟨i, y, q1, q2, q3, q4⟩ := okC_two HOO.out n0 n1
     rw [q4]; exact in1_any k (HK.out _ _ _ HG.out) d.name base w.heap.size p q R F' cs' x' y A2 c2 wr HS.out g4 g5 g6 g2 g3 i q1 q2 q3.1 q3.2 (okC_few HOO.out))
    clear n0 n1 g2 g3 g4 g5 g6
    go_wp2_with fail
    refine HC.out.mono ?_
    rintro r w1 ⟨rfl, cs1, F1, hS1, hK1, hF1⟩
    have HS1 := hHd hS1
    have HST := hHd (chd_step HKP.out HF.out hK1 hF1)
    clear hS1 hK1 hF1 hcell
    go_wp2
    go_roundw
    case rel => exact ⟨j + 1, cs1, F1, stepC d k x', by omega, by go_num, HS1, HRR, hHd (okC_cons HOO.out), hHd HST.out.1, hHd HST.out.2⟩
    case measure => simp [intOf]; omega
  ·have i2 : ¬ (j : Int) < (f.len : Int) := by omega
   have HX : Hid (x' = runC f x) := hHd (by
    have h := HR.out
    rw [show j = f.len by omega, Fr.drop_all] at h
    exact h)
   obtain ⟨B1, m1, A1, c1, d1, rfl, -, -, -⟩ := HS.out.own.spn.shape
   have HRS : Hid (Blk wr (w.heap.size + 1) 61 (cS ⟨#[]⟩ 0 0 0 0 (.slice none 0 0) false 0 (.slice none 0 0))) := hHd (HRES.out.same (HKP.out.2 _ (by have := HSZ.out; omega) (fun h => by
    rcases List.mem_cons.1 h with h | h
    ·omega
    ·have := HFL.out _ h; omega)))
   have q0 : wr.cell? ⟨w.heap.size, 0, none⟩ = some (.string (txt x'.1.name)) := HS.out.box.cell 0
   have q1 : wr.cell? ⟨w.heap.size, 1, none⟩ = some (.int .i64 (x'.1.kind : Int)) := HS.out.box.cell 1
   have q2 : wr.cell? ⟨w.heap.size, 2, none⟩ = some (.int .i64 (x'.1.typ : Int)) := HS.out.box.cell 2
   have q3 : wr.cell? ⟨w.heap.size, 3, none⟩ = some (.int .u64 (x'.1.low : Int)) := HS.out.box.cell 3
   have q4 : wr.cell? ⟨w.heap.size, 4, none⟩ = some (.int .u64 (x'.1.high : Int)) := HS.out.box.cell 4
   have q5 : wr.cell? ⟨w.heap.size, 5, none⟩ = some (.slice B1 x'.1.names.length m1) := HS.out.box.cell 5
   have q6 : wr.cell? ⟨w.heap.size, 6, none⟩ = some (.bool x'.1.must) := HS.out.box.cell 6
   have q7 : wr.cell? ⟨w.heap.size, 7, none⟩ = some (.int .i64 (x'.1.most : Int)) := HS.out.box.cell 7
   have q8 : wr.cell? ⟨w.heap.size, 8, none⟩ = some (.slice A1 x'.2.len c1) := HS.out.box.cell 8
   obtain ⟨z0, z1, z2, z3, z4, z5, z6, z7, z8⟩ := cl9 HRS.out
   have f0 := HRS.out.frozen 0
   have f1 := HRS.out.frozen 1
   have f2 := HRS.out.frozen 2
   have f3 := HRS.out.frozen 3
   have f4 := HRS.out.frozen 4
   have f5 := HRS.out.frozen 5
   have f6 := HRS.out.frozen 6
   have f7 := HRS.out.frozen 7
   have f8 := HRS.out.frozen 8
   have RE : Hid (Blk (set9 wr (w.heap.size + 1) (.string (txt x'.1.name)) (.int .i64 (x'.1.kind : Int)) (.int .i64 (x'.1.typ : Int)) (.int .u64 (x'.1.low : Int)) (.int .u64 (x'.1.high : Int)) (.slice B1 x'.1.names.length m1) (.bool x'.1.must) (.int .i64 (x'.1.most : Int)) (.slice A1 x'.2.len c1)) (w.heap.size + 1) 61 (cT x'.1.name x'.1.kind x'.1.typ x'.1.low x'.1.high x'.1.names x'.1.must x'.1.most B1 m1 A1 x'.2.len c1)) := hHd (HRS.out.set9 _ _ _ _ _ _ _ _ _)
   have HEND : Hid (ChdP base R F (runC f x) w (.returned (.agg (cT x'.1.name x'.1.kind x'.1.typ x'.1.low x'.1.high x'.1.names x'.1.must x'.1.most B1 m1 A1 x'.2.len c1))) (set9 wr (w.heap.size + 1) (.string (txt x'.1.name)) (.int .i64 (x'.1.kind : Int)) (.int .i64 (x'.1.typ : Int)) (.int .u64 (x'.1.low : Int)) (.int .u64 (x'.1.high : Int)) (.slice B1 x'.1.names.length m1) (.bool x'.1.must) (.int .i64 (x'.1.most : Int)) (.slice A1 x'.2.len c1))) := hHd (by
    have hs := HSZ.out
    have hb := HBA.out
    have hX := HX.out
    subst hX
    refine ⟨_, F', rfl, HS.out.own.keep (fun g hg => set9_other (fun e => ?_)) (fun g hg => set9_other (fun e => ?_)) (fun _ h => h) (Nat.le_refl _), (List.nodup_cons.1 HS.out.nd).2, fun g hg => ?_, ⟨?_, fun g hg hn => ?_⟩⟩
    ·rcases HF.out g hg with h | h
     ·have := HFL.out g h; omega
     ·omega
    ·have := (HRL.out g hg).1; omega
    ·rcases HF.out g hg with h | h
     ·exact .inl h
     ·exact .inr (by omega)
    ·exact ((HB0.out.mono hb).trans HKP.out.1).trans (set9_below (by omega))
    ·refine (set9_other (by omega)).trans ((HKP.out.2 g (by omega) (fun h => ?_)).trans (HB0.out.block g hg))
     rcases List.mem_cons.1 h with h | h
     ·omega
     ·exact hn h)
   clear HRS
   go_wp2
   refine bodyPost_ret (results_cell_row rfl _ _ (w.heap.size + 1) 61 _ (0, 0) _ rfl RE.out Tryz.underlying61 rfl (by kernel_rfl)) rfl ?_
   exact HEND.out
end Go.Proofs.YtodlhgflfcadmaaGreat
