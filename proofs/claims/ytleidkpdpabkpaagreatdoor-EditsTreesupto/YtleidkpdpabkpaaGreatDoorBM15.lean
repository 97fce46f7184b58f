/- SpcRefD SpcRefE -/
import Derived.Test.YtleidkpdpabkpaaGreatDoorBM14
set_option linter.unusedSimpArgs false
set_option linter.unusedVariables false
set_option maxRecDepth 100000
set_option maxHeartbeats 8000000
namespace Go.Proofs.YtleidkpdpabkpaaGreatDoor
open Go.RowKit
theorem rroot_2 (w : World) : Calls Tryz.prog 65 #[.int .i64 2] w (RSpP (rootX 2) w) := by
 have N1 : ∀ W, Hid (Calls Tryz.prog 94 #[.string ⟨#[108, 111, 119]⟩, .int .i64 1, .int .u64 0, .int .u64 65535] W (fun r w' => r = .returned (.agg (cS ⟨#[108, 111, 119]⟩ 1 1 0 65535 (.slice none 0 0) true 0 (.slice none 0 0))) ∧ Below W.heap.size W w')) := fun W => hHd (srnum_any nLow 1 0 65535 W)
 have N2 : ∀ W, Hid (Calls Tryz.prog 94 #[.string ⟨#[104, 105, 103, 104]⟩, .int .i64 1, .int .u64 0, .int .u64 65535] W (fun r w' => r = .returned (.agg (cS ⟨#[104, 105, 103, 104]⟩ 1 1 0 65535 (.slice none 0 0) true 0 (.slice none 0 0))) ∧ Below W.heap.size W w')) := fun W => hHd (srnum_any nHigh 1 0 65535 W)
 have NK : ∀ W, Hid (Calls Tryz.prog 95 #[.int .i64 2] W (fun r w' => ∃ A c, r = .returned (.slice A 5 c) ∧ OwnG SpcD 109 9 8 w' W.heap.size (fun _ => False) (fun _ => False) (.slice A 5 c) (frOf (classL 2)) ∧ Below W.heap.size W w')) := fun W => hHd (rclass_2 W)
 have H0 : Hid (Below w.heap.size w (w.alloc (.cells (cS ⟨#[]⟩ 0 0 0 0 (.slice none 0 0) false 0 (.slice none 0 0)) 109))) := hHd bAl
 have R0 : Hid (Blk (w.alloc (.cells (cS ⟨#[]⟩ 0 0 0 0 (.slice none 0 0) false 0 (.slice none 0 0)) 109)) w.heap.size 109 (cS ⟨#[]⟩ 0 0 0 0 (.slice none 0 0) false 0 (.slice none 0 0))) := hHd (Blk.new w _ _)
 go_enter Tryz.func65, Tryz.ntmps65
 go_wp2_with fail
 refine (N1 _).out.mono ?_
 rintro r w1 ⟨rfl, hB⟩
 have H1 := hHd (H0.out.trans (hB.mono H0.out.size))
 have R1 := hHd (R0.out.below hB R0.out.lt)
 clear hB
 go_wp2_with fail
 refine (N2 _).out.mono ?_
 rintro r w2 ⟨rfl, hB⟩
 have H2 := hHd (H1.out.trans (hB.mono H1.out.size))
 have R2 := hHd (R1.out.below hB R1.out.lt)
 clear hB
 have H3 : Hid (Below w.heap.size w (w2.alloc (.cells lLo 109))) := hHd (H2.out.alloc H2.out.size _)
 have R3 : Hid (Blk (w2.alloc (.cells lLo 109)) w.heap.size 109 (cS ⟨#[]⟩ 0 0 0 0 (.slice none 0 0) false 0 (.slice none 0 0))) := hHd (R2.out.alloc _)
 have K3 : Hid (FrV SpcD 9 8 (w2.alloc (.cells lLo 109)) (Rng (w.heap.size + 1) (w2.heap.size + 1)) (fun _ => False) (.slice (some ⟨w2.heap.size, 0, none⟩) 3 3) (frOf ruleL)) := hHd (FrV.lit (f := frOf ruleL) ⟨R2.out.lt, Nat.lt_succ_self _⟩ (Blk.new w2 _ _) (row_leaves [numD nLow 1 0 65535, numD nHigh 1 0 65535, leafD nClass 6 true] (by decide)) (by decide))
 have s3 : Hid ((w2.alloc (.cells lLo 109)).heap.size = w2.heap.size + 1) := hHd (by simp)
 go_wp2_with fail
 refine (NK _).out.mono ?_
 rintro r w4 ⟨A, c, rfl, hO, hB⟩
 have H4 := hHd (H3.out.trans (hB.mono H3.out.size))
 have R4 := hHd (R3.out.below hB R3.out.lt)
 have z43 : w2.heap.size + 1 ≤ w4.heap.size := by have := hB.size; rw [s3.out] at this; exact this
 have z2 := H2.out.size
 have hz3 := R3.out.lt
 have K4 : Hid (FrV SpcD 9 8 w4 (Rng (w.heap.size + 1) w4.heap.size) (Rng (w.heap.size + 1) w4.heap.size) (.slice (some ⟨w2.heap.size, 0, none⟩) 3 3) (frOf ruleL)) := hHd ((K3.out.under hB (fun g hg => by rw [s3.out]; exact hg.2) (fun _ h => h.elim)).mono stay_spc (fun g hg => ⟨hg.1, Nat.lt_of_lt_of_le hg.2 z43⟩) (fun _ h => h.elim))
 have C4 : Hid (FrV SpcD 9 8 w4 (Rng (w.heap.size + 1) w4.heap.size) (Rng (w.heap.size + 1) w4.heap.size) (.slice A 5 c) (frOf (classL 2))) := hHd ((hO.frv stay_spc).mono stay_spc (fun g hg => hg.elim False.elim (fun hg => ⟨Nat.le_trans hz3 (hO.lt g hg).1, (hO.lt g hg).2⟩)) (fun _ h => h.elim))
 clear hO hB hz3
 have H5 : Hid (Below w.heap.size w (w4.alloc (.cells (lUp (.slice A 5 c) (.slice (some ⟨w2.heap.size, 0, none⟩) 3 3)) 109))) := hHd (H4.out.alloc H4.out.size _)
 have R5 : Hid (Blk (w4.alloc (.cells (lUp (.slice A 5 c) (.slice (some ⟨w2.heap.size, 0, none⟩) 3 3)) 109)) w.heap.size 109 (cS ⟨#[]⟩ 0 0 0 0 (.slice none 0 0) false 0 (.slice none 0 0))) := hHd (R4.out.alloc _)
 have hb5 : Below w4.heap.size w4 (w4.alloc (.cells (lUp (.slice A 5 c) (.slice (some ⟨w2.heap.size, 0, none⟩) 3 3)) 109)) := bAl
 have O5 : Hid (OwnG SpcD 109 9 8 (w4.alloc (.cells (lUp (.slice A 5 c) (.slice (some ⟨w2.heap.size, 0, none⟩) 3 3)) 109)) (w.heap.size + 1) (Rng (w.heap.size + 1) w4.heap.size) (Rng (w.heap.size + 1) w4.heap.size) (.slice (some ⟨w4.heap.size, 0, none⟩) 4 4) (frOf [(leafD nUp 3 false, .nil), (listD nClass 8, frOf (classL 2)), (listD nRule 16, frOf ruleL), (leafD nDefault 6 true, .nil)])) := hHd (OwnG.lit (f := frOf [(leafD nUp 3 false, .nil), (listD nClass 8, frOf (classL 2)), (listD nRule 16, frOf ruleL), (leafD nDefault 6 true, .nil)]) (Blk.new w4 _ _) R4.out.lt (by decide) ⟨spC (leafD nUp 3 false) (.slice none 0 0) (.slice none 0 0), _, rfl, leaf_n rfl, spC (listD nClass 8) (.slice none 0 0) (.slice A 5 c), _, rfl, list_n rfl (C4.out.under hb5 (fun g hg => hg.2) (fun g hg => hg.2)), spC (listD nRule 16) (.slice none 0 0) (.slice (some ⟨w2.heap.size, 0, none⟩) 3 3), _, rfl, list_n rfl (K4.out.under hb5 (fun g hg => hg.2) (fun g hg => hg.2)), spC (leafD nDefault 6 true) (.slice none 0 0) (.slice none 0 0), [], rfl, leaf_n rfl, rfl⟩ (fun k hk => ⟨Nat.lt_of_lt_of_le hk.2 hb5.size, Nat.ne_of_lt hk.2⟩) (fun k hk => ⟨Nat.lt_of_lt_of_le hk.2 hb5.size, Nat.ne_of_lt hk.2⟩))
 clear hb5
 have z4 : w.heap.size + 1 ≤ w4.heap.size := R4.out.lt
 have s5 : Hid ((w4.alloc (.cells (lUp (.slice A 5 c) (.slice (some ⟨w2.heap.size, 0, none⟩) 3 3)) 109)).heap.size = w4.heap.size + 1) := hHd (by simp)
 have s6 : Hid (((w4.alloc (.cells (lUp (.slice A 5 c) (.slice (some ⟨w2.heap.size, 0, none⟩) 3 3)) 109)).alloc (.cells #[.string ⟨#[101, 100, 103, 101]⟩, .string ⟨#[99, 111, 114, 101]⟩, .string ⟨#[108, 97, 98]⟩] 9)).heap.size = w4.heap.size + 2) := hHd (by simp)
 have hb67 : Below (w4.alloc (.cells (lUp (.slice A 5 c) (.slice (some ⟨w2.heap.size, 0, none⟩) 3 3)) 109)).heap.size (w4.alloc (.cells (lUp (.slice A 5 c) (.slice (some ⟨w2.heap.size, 0, none⟩) 3 3)) 109)) (((w4.alloc (.cells (lUp (.slice A 5 c) (.slice (some ⟨w2.heap.size, 0, none⟩) 3 3)) 109)).alloc (.cells #[.string ⟨#[101, 100, 103, 101]⟩, .string ⟨#[99, 111, 114, 101]⟩, .string ⟨#[108, 97, 98]⟩] 9)).alloc (.cells (cS ⟨#[107, 105, 110, 100]⟩ 1 4 0 0 (.slice (some ⟨w4.heap.size + 1, 0, none⟩) 3 3) false 0 (.slice none 0 0)) 109)) := bAl.alloc (by simp) _
 have H7 : Hid (Below w.heap.size w (((w4.alloc (.cells (lUp (.slice A 5 c) (.slice (some ⟨w2.heap.size, 0, none⟩) 3 3)) 109)).alloc (.cells #[.string ⟨#[101, 100, 103, 101]⟩, .string ⟨#[99, 111, 114, 101]⟩, .string ⟨#[108, 97, 98]⟩] 9)).alloc (.cells (cS ⟨#[107, 105, 110, 100]⟩ 1 4 0 0 (.slice (some ⟨w4.heap.size + 1, 0, none⟩) 3 3) false 0 (.slice none 0 0)) 109))) := hHd (H5.out.trans (hb67.mono H5.out.size))
 have R7 : Hid (Blk (((w4.alloc (.cells (lUp (.slice A 5 c) (.slice (some ⟨w2.heap.size, 0, none⟩) 3 3)) 109)).alloc (.cells #[.string ⟨#[101, 100, 103, 101]⟩, .string ⟨#[99, 111, 114, 101]⟩, .string ⟨#[108, 97, 98]⟩] 9)).alloc (.cells (cS ⟨#[107, 105, 110, 100]⟩ 1 4 0 0 (.slice (some ⟨w4.heap.size + 1, 0, none⟩) 3 3) false 0 (.slice none 0 0)) 109)) w.heap.size 109 (cS ⟨#[]⟩ 0 0 0 0 (.slice none 0 0) false 0 (.slice none 0 0))) := hHd ((R5.out.alloc _).alloc _)
 have V7 : Hid (Vals (((w4.alloc (.cells (lUp (.slice A 5 c) (.slice (some ⟨w2.heap.size, 0, none⟩) 3 3)) 109)).alloc (.cells #[.string ⟨#[101, 100, 103, 101]⟩, .string ⟨#[99, 111, 114, 101]⟩, .string ⟨#[108, 97, 98]⟩] 9)).alloc (.cells (cS ⟨#[107, 105, 110, 100]⟩ 1 4 0 0 (.slice (some ⟨w4.heap.size + 1, 0, none⟩) 3 3) false 0 (.slice none 0 0)) 109)) (w4.heap.size + 1) (.slice (some ⟨w4.heap.size + 1, 0, none⟩) 3 3) (txts kindD.names)) := hHd ⟨_, 3, rfl, Nat.le_refl _, fun _ => ⟨by simp, 0, rfl, fun j u hj => by
  have hb : Blk (((w4.alloc (.cells (lUp (.slice A 5 c) (.slice (some ⟨w2.heap.size, 0, none⟩) 3 3)) 109)).alloc (.cells #[.string ⟨#[101, 100, 103, 101]⟩, .string ⟨#[99, 111, 114, 101]⟩, .string ⟨#[108, 97, 98]⟩] 9)).alloc (.cells (cS ⟨#[107, 105, 110, 100]⟩ 1 4 0 0 (.slice (some ⟨w4.heap.size + 1, 0, none⟩) 3 3) false 0 (.slice none 0 0)) 109)) (w4.heap.size + 1) 9 #[.string ⟨#[101, 100, 103, 101]⟩, .string ⟨#[99, 111, 114, 101]⟩, .string ⟨#[108, 97, 98]⟩] := by
   have h := (Blk.new (w4.alloc (.cells (lUp (.slice A 5 c) (.slice (some ⟨w2.heap.size, 0, none⟩) 3 3)) 109)) 9 #[.string ⟨#[101, 100, 103, 101]⟩, .string ⟨#[99, 111, 114, 101]⟩, .string ⟨#[108, 97, 98]⟩]).alloc (.cells (cS ⟨#[107, 105, 110, 100]⟩ 1 4 0 0 (.slice (some ⟨w4.heap.size + 1, 0, none⟩) 3 3) false 0 (.slice none 0 0)) 109)
   rw [s5.out] at h
   exact h
  rw [Nat.zero_add, hb.cell]
  have hj2 : [Value.string ⟨#[101, 100, 103, 101]⟩, .string ⟨#[99, 111, 114, 101]⟩, .string ⟨#[108, 97, 98]⟩][j]? = some u := hj
  simpa using hj2⟩⟩
 have s7 : Hid ((((w4.alloc (.cells (lUp (.slice A 5 c) (.slice (some ⟨w2.heap.size, 0, none⟩) 3 3)) 109)).alloc (.cells #[.string ⟨#[101, 100, 103, 101]⟩, .string ⟨#[99, 111, 114, 101]⟩, .string ⟨#[108, 97, 98]⟩] 9)).alloc (.cells (cS ⟨#[107, 105, 110, 100]⟩ 1 4 0 0 (.slice (some ⟨w4.heap.size + 1, 0, none⟩) 3 3) false 0 (.slice none 0 0)) 109)).heap.size = w4.heap.size + 3) := hHd (by simp)
 have lt7 : ∀ {g : Nat}, g < w4.heap.size + 3 → g < (((w4.alloc (.cells (lUp (.slice A 5 c) (.slice (some ⟨w2.heap.size, 0, none⟩) 3 3)) 109)).alloc (.cells #[.string ⟨#[101, 100, 103, 101]⟩, .string ⟨#[99, 111, 114, 101]⟩, .string ⟨#[108, 97, 98]⟩] 9)).alloc (.cells (cS ⟨#[107, 105, 110, 100]⟩ 1 4 0 0 (.slice (some ⟨w4.heap.size + 1, 0, none⟩) 3 3) false 0 (.slice none 0 0)) 109)).heap.size := fun {g} h => by rw [s7.out]; exact h
 have ne5 : ∀ {g : Nat}, g < w4.heap.size → some g ≠ (Value.slice (some ⟨w4.heap.size, 0, none⟩) 4 4).ownBlock := fun {g} h e => absurd (Option.some.inj e : g = w4.heap.size) (Nat.ne_of_lt h)
 have ne6 : ∀ {g : Nat}, w4.heap.size < g → some g ≠ (Value.slice (some ⟨w4.heap.size, 0, none⟩) 4 4).ownBlock := fun {g} h e => absurd (Option.some.inj e : g = w4.heap.size) (Nat.ne_of_gt h)
 have O7 : Hid (OwnG SpcD 109 9 8 (((w4.alloc (.cells (lUp (.slice A 5 c) (.slice (some ⟨w2.heap.size, 0, none⟩) 3 3)) 109)).alloc (.cells #[.string ⟨#[101, 100, 103, 101]⟩, .string ⟨#[99, 111, 114, 101]⟩, .string ⟨#[108, 97, 98]⟩] 9)).alloc (.cells (cS ⟨#[107, 105, 110, 100]⟩ 1 4 0 0 (.slice (some ⟨w4.heap.size + 1, 0, none⟩) 3 3) false 0 (.slice none 0 0)) 109)) (w.heap.size + 1) (Rng (w.heap.size + 1) w4.heap.size) (fun g => Rng (w.heap.size + 1) w4.heap.size g ∨ g = w4.heap.size + 1) (.slice (some ⟨w4.heap.size, 0, none⟩) 4 4) (frOf [(leafD nUp 3 false, .nil), (listD nClass 8, frOf (classL 2)), (listD nRule 16, frOf ruleL), (leafD nDefault 6 true, .nil)])) := hHd ((O5.out.below stay_spc hb67).widen stay_spc (fun _ h => h) (fun _ h => .inl h) (fun g hg => ⟨lt7 (Nat.lt_of_lt_of_le hg.2 (by omega)), ne5 hg.2⟩) (fun g hg => hg.elim (fun hg => ⟨lt7 (Nat.lt_of_lt_of_le hg.2 (by omega)), ne5 hg.2⟩) (fun hg => ⟨lt7 (by omega), ne6 (by omega)⟩)))
 clear hb67 lt7 ne5 ne6
 have K7 : Hid (Blk (((w4.alloc (.cells (lUp (.slice A 5 c) (.slice (some ⟨w2.heap.size, 0, none⟩) 3 3)) 109)).alloc (.cells #[.string ⟨#[101, 100, 103, 101]⟩, .string ⟨#[99, 111, 114, 101]⟩, .string ⟨#[108, 97, 98]⟩] 9)).alloc (.cells (cS ⟨#[107, 105, 110, 100]⟩ 1 4 0 0 (.slice (some ⟨w4.heap.size + 1, 0, none⟩) 3 3) false 0 (.slice none 0 0)) 109)) (w4.heap.size + 2) 109 (spC kindD (.slice (some ⟨w4.heap.size + 1, 0, none⟩) 3 3) (.slice none 0 0)).toArray) := hHd (by
  have h := Blk.new ((w4.alloc (.cells (lUp (.slice A 5 c) (.slice (some ⟨w2.heap.size, 0, none⟩) 3 3)) 109)).alloc (.cells #[.string ⟨#[101, 100, 103, 101]⟩, .string ⟨#[99, 111, 114, 101]⟩, .string ⟨#[108, 97, 98]⟩] 9)) 109 (cS ⟨#[107, 105, 110, 100]⟩ 1 4 0 0 (.slice (some ⟨w4.heap.size + 1, 0, none⟩) 3 3) false 0 (.slice none 0 0))
  rw [s6.out] at h
  exact h)
 go_wp2_with (at_builtin; refine wpList_append_g stay_spc one_spc Tryz.underlying107 infoS zeroS (by decide) rfl (.tmp 28) (.tmp 31) rfl rfl rfl O7.out rfl K7.out (SpN.make V7.out (fun _ => .inr rfl) (FrV.empty _ _ _)) ?h1 ?h2 R7.out.lt ?_)
 case h1 => decide
 case h2 => decide
 intro v8 w8 hap
 have H8 := hHd (H7.out.trans ((hap.below O7.out R7.out.lt).mono (Nat.le_succ _)))
 have R8 := hHd (R7.out.grown hap.2.1 (fun e => absurd (Option.some.inj e : w.heap.size = w4.heap.size) (by omega)))
 have O8 := hHd hap.1
 have z87 : w4.heap.size + 3 ≤ w8.heap.size := by have h := hap.2.1.size; simp at h; omega
 obtain ⟨g8, c8, e8⟩ := hap.2.2.2
 obtain rfl : v8 = .slice (some ⟨g8, 0, none⟩) 5 c8 := e8
 clear hap
 have lt8 : ∀ {g : Nat}, g < w8.heap.size → g < w8.heap.size := fun {g} h => h
 have KP : Hid (FrV SpcD 9 8 w8 (Rng (w.heap.size + 1) w8.heap.size) (Rng (w.heap.size + 1) w8.heap.size) (.slice (some ⟨g8, 0, none⟩) 5 c8) (frOf (portL 2))) := hHd ((O8.out.frv stay_spc).mono stay_spc (fun g hg => hg.elim (fun hg => ⟨hg.1, lt8 (O8.out.1 g hg).1⟩) (fun hg => ⟨(O8.out.lt g hg).1, lt8 (O8.out.lt g hg).2⟩)) (fun g hg => ⟨hg.elim (fun hg => hg.1) (fun hg => Nat.le_trans z4 (Nat.le_of_lt (by omega))), lt8 (O8.out.2.1 g hg).1⟩))
 have gt8 : ∀ {g : Nat}, g < w8.heap.size → g < w8.heap.size := fun {g} h => h
 have hb9 : Below w8.heap.size w8 (w8.alloc (.cells (lSy (.slice (some ⟨g8, 0, none⟩) 5 c8)) 109)) := bAl
 have H9 : Hid (Below w.heap.size w (w8.alloc (.cells (lSy (.slice (some ⟨g8, 0, none⟩) 5 c8)) 109))) := hHd (H8.out.alloc H8.out.size _)
 have R9 : Hid (Blk (w8.alloc (.cells (lSy (.slice (some ⟨g8, 0, none⟩) 5 c8)) 109)) w.heap.size 109 (cS ⟨#[]⟩ 0 0 0 0 (.slice none 0 0) false 0 (.slice none 0 0))) := hHd (R8.out.alloc _)
 have O9 : Hid (OwnG SpcD 109 9 8 (w8.alloc (.cells (lSy (.slice (some ⟨g8, 0, none⟩) 5 c8)) 109)) (w.heap.size + 1) (Rng (w.heap.size + 1) w8.heap.size) (Rng (w.heap.size + 1) w8.heap.size) (.slice (some ⟨w8.heap.size, 0, none⟩) 2 2) (frOf [(leafD nSystem 5 false, .nil), (listD nPort 4, frOf (portL 2))])) := hHd (OwnG.lit (f := frOf [(leafD nSystem 5 false, .nil), (listD nPort 4, frOf (portL 2))]) (Blk.new w8 _ _) (lt8 R8.out.lt) (by decide) ⟨spC (leafD nSystem 5 false) (.slice none 0 0) (.slice none 0 0), _, rfl, leaf_n rfl, spC (listD nPort 4) (.slice none 0 0) (.slice (some ⟨g8, 0, none⟩) 5 c8), [], rfl, list_n rfl (KP.out.under hb9 (fun g hg => gt8 hg.2) (fun g hg => gt8 hg.2)), rfl⟩ (fun k hk => ⟨Nat.lt_of_lt_of_le (gt8 hk.2) hb9.size, Nat.ne_of_lt hk.2⟩) (fun k hk => ⟨Nat.lt_of_lt_of_le (gt8 hk.2) hb9.size, Nat.ne_of_lt hk.2⟩))
 clear hb9
 clear lt8 gt8 z2 z4 z43
 have f0 : (w8.alloc (.cells (lSy (.slice (some ⟨g8, 0, none⟩) 5 c8)) 109)).frozen? ⟨w.heap.size, 0, none⟩ = false := R9.out.frozen 0
 have f1 : (w8.alloc (.cells (lSy (.slice (some ⟨g8, 0, none⟩) 5 c8)) 109)).frozen? ⟨w.heap.size, 1, none⟩ = false := R9.out.frozen 1
 have f2 : (w8.alloc (.cells (lSy (.slice (some ⟨g8, 0, none⟩) 5 c8)) 109)).frozen? ⟨w.heap.size, 2, none⟩ = false := R9.out.frozen 2
 have f3 : (w8.alloc (.cells (lSy (.slice (some ⟨g8, 0, none⟩) 5 c8)) 109)).frozen? ⟨w.heap.size, 3, none⟩ = false := R9.out.frozen 3
 have f4 : (w8.alloc (.cells (lSy (.slice (some ⟨g8, 0, none⟩) 5 c8)) 109)).frozen? ⟨w.heap.size, 4, none⟩ = false := R9.out.frozen 4
 have f5 : (w8.alloc (.cells (lSy (.slice (some ⟨g8, 0, none⟩) 5 c8)) 109)).frozen? ⟨w.heap.size, 5, none⟩ = false := R9.out.frozen 5
 have f6 : (w8.alloc (.cells (lSy (.slice (some ⟨g8, 0, none⟩) 5 c8)) 109)).frozen? ⟨w.heap.size, 6, none⟩ = false := R9.out.frozen 6
 have f7 : (w8.alloc (.cells (lSy (.slice (some ⟨g8, 0, none⟩) 5 c8)) 109)).frozen? ⟨w.heap.size, 7, none⟩ = false := R9.out.frozen 7
 have f8 : (w8.alloc (.cells (lSy (.slice (some ⟨g8, 0, none⟩) 5 c8)) 109)).frozen? ⟨w.heap.size, 8, none⟩ = false := R9.out.frozen 8
 obtain ⟨q0, q1, q2, q3, q4, q5, q6, q7, q8⟩ := cl9 R9.out
 have KE : Hid (FrV SpcD 9 8 (w8.alloc (.cells (lSy (.slice (some ⟨g8, 0, none⟩) 5 c8)) 109)) (Rng (w.heap.size + 1) (w8.alloc (.cells (lSy (.slice (some ⟨g8, 0, none⟩) 5 c8)) 109)).heap.size) (Rng (w.heap.size + 1) (w8.alloc (.cells (lSy (.slice (some ⟨g8, 0, none⟩) 5 c8)) 109)).heap.size) (.slice (some ⟨w8.heap.size, 0, none⟩) 2 2) (rootF 2)) := hHd ((O9.out.frv stay_spc).mono stay_spc (fun g hg => hg.elim (fun hg => ⟨hg.1, (O9.out.1 g hg).1⟩) (fun hg => O9.out.lt g hg)) (fun g hg => ⟨hg.1, (O9.out.2.1 g hg).1⟩))
 have HE : Hid (Below w.heap.size w (set9 (w8.alloc (.cells (lSy (.slice (some ⟨g8, 0, none⟩) 5 c8)) 109)) w.heap.size (.string ⟨#[]⟩) (.int .i64 2) (.int .i64 0) (.int .u64 0) (.int .u64 0) (.slice none 0 0) (.bool false) (.int .i64 0) (.slice (some ⟨w8.heap.size, 0, none⟩) 2 2))) := hHd (H9.out.trans (set9_below (Nat.le_refl _)))
 have RE : Hid (Blk (set9 (w8.alloc (.cells (lSy (.slice (some ⟨g8, 0, none⟩) 5 c8)) 109)) w.heap.size (.string ⟨#[]⟩) (.int .i64 2) (.int .i64 0) (.int .u64 0) (.int .u64 0) (.slice none 0 0) (.bool false) (.int .i64 0) (.slice (some ⟨w8.heap.size, 0, none⟩) 2 2)) w.heap.size 109 (cS ⟨#[]⟩ 2 0 0 0 (.slice none 0 0) false 0 (.slice (some ⟨w8.heap.size, 0, none⟩) 2 2))) := hHd (R9.out.set9 _ _ _ _ _ _ _ _ _)
 have KS : Hid (FrV SpcD 9 8 (set9 (w8.alloc (.cells (lSy (.slice (some ⟨g8, 0, none⟩) 5 c8)) 109)) w.heap.size (.string ⟨#[]⟩) (.int .i64 2) (.int .i64 0) (.int .u64 0) (.int .u64 0) (.slice none 0 0) (.bool false) (.int .i64 0) (.slice (some ⟨w8.heap.size, 0, none⟩) 2 2)) (Rng w.heap.size (set9 (w8.alloc (.cells (lSy (.slice (some ⟨g8, 0, none⟩) 5 c8)) 109)) w.heap.size (.string ⟨#[]⟩) (.int .i64 2) (.int .i64 0) (.int .u64 0) (.int .u64 0) (.slice none 0 0) (.bool false) (.int .i64 0) (.slice (some ⟨w8.heap.size, 0, none⟩) 2 2)).heap.size) (Rng w.heap.size (set9 (w8.alloc (.cells (lSy (.slice (some ⟨g8, 0, none⟩) 5 c8)) 109)) w.heap.size (.string ⟨#[]⟩) (.int .i64 2) (.int .i64 0) (.int .u64 0) (.int .u64 0) (.slice none 0 0) (.bool false) (.int .i64 0) (.slice (some ⟨w8.heap.size, 0, none⟩) 2 2)).heap.size) (.slice (some ⟨w8.heap.size, 0, none⟩) 2 2) (rootF 2)) := hHd (KE.out.kept stay_spc (fun g hg => set9_other (by have := hg.1; omega)) (fun g hg => ⟨by have := hg.1; omega, by rw [set9_size]; exact hg.2⟩) (fun g hg => set9_other (by have := hg.1; omega)) (fun g hg => ⟨by have := hg.1; omega, by rw [set9_size]; exact hg.2⟩))
 clear KE z87
 go_wp2
 refine bodyPost_ret (res_cell_tmp rfl _ _ w.heap.size 109 _ (0, 0) _ rfl RE.out Tryz.underlying109 rfl (by kernel_rfl)) rfl ?_
 exact ⟨spC rootD (.slice none 0 0) (.slice (some ⟨w8.heap.size, 0, none⟩) 2 2), rfl, list_n rfl KS.out, HE.out⟩
theorem rroot_3 (w : World) : Calls Tryz.prog 65 #[.int .i64 3] w (RSpP (rootX 3) w) := by
 have N1 : ∀ W, Hid (Calls Tryz.prog 94 #[.string ⟨#[108, 111, 119]⟩, .int .i64 1, .int .u64 0, .int .u64 65535] W (fun r w' => r = .returned (.agg (cS ⟨#[108, 111, 119]⟩ 1 1 0 65535 (.slice none 0 0) true 0 (.slice none 0 0))) ∧ Below W.heap.size W w')) := fun W => hHd (srnum_any nLow 1 0 65535 W)
 have N2 : ∀ W, Hid (Calls Tryz.prog 94 #[.string ⟨#[104, 105, 103, 104]⟩, .int .i64 1, .int .u64 0, .int .u64 65535] W (fun r w' => r = .returned (.agg (cS ⟨#[104, 105, 103, 104]⟩ 1 1 0 65535 (.slice none 0 0) true 0 (.slice none 0 0))) ∧ Below W.heap.size W w')) := fun W => hHd (srnum_any nHigh 1 0 65535 W)
 have NK : ∀ W, Hid (Calls Tryz.prog 95 #[.int .i64 3] W (fun r w' => ∃ A c, r = .returned (.slice A 5 c) ∧ OwnG SpcD 109 9 8 w' W.heap.size (fun _ => False) (fun _ => False) (.slice A 5 c) (frOf (classL 3)) ∧ Below W.heap.size W w')) := fun W => hHd (rclass_3 W)
 have H0 : Hid (Below w.heap.size w (w.alloc (.cells (cS ⟨#[]⟩ 0 0 0 0 (.slice none 0 0) false 0 (.slice none 0 0)) 109))) := hHd bAl
 have R0 : Hid (Blk (w.alloc (.cells (cS ⟨#[]⟩ 0 0 0 0 (.slice none 0 0) false 0 (.slice none 0 0)) 109)) w.heap.size 109 (cS ⟨#[]⟩ 0 0 0 0 (.slice none 0 0) false 0 (.slice none 0 0))) := hHd (Blk.new w _ _)
 go_enter Tryz.func65, Tryz.ntmps65
 go_wp2_with fail
 refine (N1 _).out.mono ?_
 rintro r w1 ⟨rfl, hB⟩
 have H1 := hHd (H0.out.trans (hB.mono H0.out.size))
 have R1 := hHd (R0.out.below hB R0.out.lt)
 clear hB
 go_wp2_with fail
 refine (N2 _).out.mono ?_
 rintro r w2 ⟨rfl, hB⟩
 have H2 := hHd (H1.out.trans (hB.mono H1.out.size))
 have R2 := hHd (R1.out.below hB R1.out.lt)
 clear hB
 have H3 : Hid (Below w.heap.size w (w2.alloc (.cells lLo 109))) := hHd (H2.out.alloc H2.out.size _)
 have R3 : Hid (Blk (w2.alloc (.cells lLo 109)) w.heap.size 109 (cS ⟨#[]⟩ 0 0 0 0 (.slice none 0 0) false 0 (.slice none 0 0))) := hHd (R2.out.alloc _)
 have K3 : Hid (FrV SpcD 9 8 (w2.alloc (.cells lLo 109)) (Rng (w.heap.size + 1) (w2.heap.size + 1)) (fun _ => False) (.slice (some ⟨w2.heap.size, 0, none⟩) 3 3) (frOf ruleL)) := hHd (FrV.lit (f := frOf ruleL) ⟨R2.out.lt, Nat.lt_succ_self _⟩ (Blk.new w2 _ _) (row_leaves [numD nLow 1 0 65535, numD nHigh 1 0 65535, leafD nClass 6 true] (by decide)) (by decide))
 have s3 : Hid ((w2.alloc (.cells lLo 109)).heap.size = w2.heap.size + 1) := hHd (by simp)
 go_wp2_with fail
 refine (NK _).out.mono ?_
 rintro r w4 ⟨A, c, rfl, hO, hB⟩
 have H4 := hHd (H3.out.trans (hB.mono H3.out.size))
 have R4 := hHd (R3.out.below hB R3.out.lt)
 have z43 : w2.heap.size + 1 ≤ w4.heap.size := by have := hB.size; rw [s3.out] at this; exact this
 have z2 := H2.out.size
 have hz3 := R3.out.lt
 have K4 : Hid (FrV SpcD 9 8 w4 (Rng (w.heap.size + 1) w4.heap.size) (Rng (w.heap.size + 1) w4.heap.size) (.slice (some ⟨w2.heap.size, 0, none⟩) 3 3) (frOf ruleL)) := hHd ((K3.out.under hB (fun g hg => by rw [s3.out]; exact hg.2) (fun _ h => h.elim)).mono stay_spc (fun g hg => ⟨hg.1, Nat.lt_of_lt_of_le hg.2 z43⟩) (fun _ h => h.elim))
 have C4 : Hid (FrV SpcD 9 8 w4 (Rng (w.heap.size + 1) w4.heap.size) (Rng (w.heap.size + 1) w4.heap.size) (.slice A 5 c) (frOf (classL 3))) := hHd ((hO.frv stay_spc).mono stay_spc (fun g hg => hg.elim False.elim (fun hg => ⟨Nat.le_trans hz3 (hO.lt g hg).1, (hO.lt g hg).2⟩)) (fun _ h => h.elim))
 clear hO hB hz3
 have H5 : Hid (Below w.heap.size w (w4.alloc (.cells (lUp (.slice A 5 c) (.slice (some ⟨w2.heap.size, 0, none⟩) 3 3)) 109))) := hHd (H4.out.alloc H4.out.size _)
 have R5 : Hid (Blk (w4.alloc (.cells (lUp (.slice A 5 c) (.slice (some ⟨w2.heap.size, 0, none⟩) 3 3)) 109)) w.heap.size 109 (cS ⟨#[]⟩ 0 0 0 0 (.slice none 0 0) false 0 (.slice none 0 0))) := hHd (R4.out.alloc _)
 have hb5 : Below w4.heap.size w4 (w4.alloc (.cells (lUp (.slice A 5 c) (.slice (some ⟨w2.heap.size, 0, none⟩) 3 3)) 109)) := bAl
 have O5 : Hid (OwnG SpcD 109 9 8 (w4.alloc (.cells (lUp (.slice A 5 c) (.slice (some ⟨w2.heap.size, 0, none⟩) 3 3)) 109)) (w.heap.size + 1) (Rng (w.heap.size + 1) w4.heap.size) (Rng (w.heap.size + 1) w4.heap.size) (.slice (some ⟨w4.heap.size, 0, none⟩) 4 4) (frOf [(leafD nUp 3 false, .nil), (listD nClass 8, frOf (classL 3)), (listD nRule 16, frOf ruleL), (leafD nDefault 6 true, .nil)])) := hHd (OwnG.lit (f := frOf [(leafD nUp 3 false, .nil), (listD nClass 8, frOf (classL 3)), (listD nRule 16, frOf ruleL), (leafD nDefault 6 true, .nil)]) (Blk.new w4 _ _) R4.out.lt (by decide) ⟨spC (leafD nUp 3 false) (.slice none 0 0) (.slice none 0 0), _, rfl, leaf_n rfl, spC (listD nClass 8) (.slice none 0 0) (.slice A 5 c), _, rfl, list_n rfl (C4.out.under hb5 (fun g hg => hg.2) (fun g hg => hg.2)), spC (listD nRule 16) (.slice none 0 0) (.slice (some ⟨w2.heap.size, 0, none⟩) 3 3), _, rfl, list_n rfl (K4.out.under hb5 (fun g hg => hg.2) (fun g hg => hg.2)), spC (leafD nDefault 6 true) (.slice none 0 0) (.slice none 0 0), [], rfl, leaf_n rfl, rfl⟩ (fun k hk => ⟨Nat.lt_of_lt_of_le hk.2 hb5.size, Nat.ne_of_lt hk.2⟩) (fun k hk => ⟨Nat.lt_of_lt_of_le hk.2 hb5.size, Nat.ne_of_lt hk.2⟩))
 clear hb5
 have z4 : w.heap.size + 1 ≤ w4.heap.size := R4.out.lt
 have s5 : Hid ((w4.alloc (.cells (lUp (.slice A 5 c) (.slice (some ⟨w2.heap.size, 0, none⟩) 3 3)) 109)).heap.size = w4.heap.size + 1) := hHd (by simp)
 have s6 : Hid (((w4.alloc (.cells (lUp (.slice A 5 c) (.slice (some ⟨w2.heap.size, 0, none⟩) 3 3)) 109)).alloc (.cells #[.string ⟨#[101, 100, 103, 101]⟩, .string ⟨#[99, 111, 114, 101]⟩, .string ⟨#[108, 97, 98]⟩] 9)).heap.size = w4.heap.size + 2) := hHd (by simp)
 have hb67 : Below (w4.alloc (.cells (lUp (.slice A 5 c) (.slice (some ⟨w2.heap.size, 0, none⟩) 3 3)) 109)).heap.size (w4.alloc (.cells (lUp (.slice A 5 c) (.slice (some ⟨w2.heap.size, 0, none⟩) 3 3)) 109)) (((w4.alloc (.cells (lUp (.slice A 5 c) (.slice (some ⟨w2.heap.size, 0, none⟩) 3 3)) 109)).alloc (.cells #[.string ⟨#[101, 100, 103, 101]⟩, .string ⟨#[99, 111, 114, 101]⟩, .string ⟨#[108, 97, 98]⟩] 9)).alloc (.cells (cS ⟨#[107, 105, 110, 100]⟩ 1 4 0 0 (.slice (some ⟨w4.heap.size + 1, 0, none⟩) 3 3) false 0 (.slice none 0 0)) 109)) := bAl.alloc (by simp) _
 have H7 : Hid (Below w.heap.size w (((w4.alloc (.cells (lUp (.slice A 5 c) (.slice (some ⟨w2.heap.size, 0, none⟩) 3 3)) 109)).alloc (.cells #[.string ⟨#[101, 100, 103, 101]⟩, .string ⟨#[99, 111, 114, 101]⟩, .string ⟨#[108, 97, 98]⟩] 9)).alloc (.cells (cS ⟨#[107, 105, 110, 100]⟩ 1 4 0 0 (.slice (some ⟨w4.heap.size + 1, 0, none⟩) 3 3) false 0 (.slice none 0 0)) 109))) := hHd (H5.out.trans (hb67.mono H5.out.size))
 have R7 : Hid (Blk (((w4.alloc (.cells (lUp (.slice A 5 c) (.slice (some ⟨w2.heap.size, 0, none⟩) 3 3)) 109)).alloc (.cells #[.string ⟨#[101, 100, 103, 101]⟩, .string ⟨#[99, 111, 114, 101]⟩, .string ⟨#[108, 97, 98]⟩] 9)).alloc (.cells (cS ⟨#[107, 105, 110, 100]⟩ 1 4 0 0 (.slice (some ⟨w4.heap.size + 1, 0, none⟩) 3 3) false 0 (.slice none 0 0)) 109)) w.heap.size 109 (cS ⟨#[]⟩ 0 0 0 0 (.slice none 0 0) false 0 (.slice none 0 0))) := hHd ((R5.out.alloc _).alloc _)
 have V7 : Hid (Vals (((w4.alloc (.cells (lUp (.slice A 5 c) (.slice (some ⟨w2.heap.size, 0, none⟩) 3 3)) 109)).alloc (.cells #[.string ⟨#[101, 100, 103, 101]⟩, .string ⟨#[99, 111, 114, 101]⟩, .string ⟨#[108, 97, 98]⟩] 9)).alloc (.cells (cS ⟨#[107, 105, 110, 100]⟩ 1 4 0 0 (.slice (some ⟨w4.heap.size + 1, 0, none⟩) 3 3) false 0 (.slice none 0 0)) 109)) (w4.heap.size + 1) (.slice (some ⟨w4.heap.size + 1, 0, none⟩) 3 3) (txts kindD.names)) := hHd ⟨_, 3, rfl, Nat.le_refl _, fun _ => ⟨by simp, 0, rfl, fun j u hj => by
  have hb : Blk (((w4.alloc (.cells (lUp (.slice A 5 c) (.slice (some ⟨w2.heap.size, 0, none⟩) 3 3)) 109)).alloc (.cells #[.string ⟨#[101, 100, 103, 101]⟩, .string ⟨#[99, 111, 114, 101]⟩, .string ⟨#[108, 97, 98]⟩] 9)).alloc (.cells (cS ⟨#[107, 105, 110, 100]⟩ 1 4 0 0 (.slice (some ⟨w4.heap.size + 1, 0, none⟩) 3 3) false 0 (.slice none 0 0)) 109)) (w4.heap.size + 1) 9 #[.string ⟨#[101, 100, 103, 101]⟩, .string ⟨#[99, 111, 114, 101]⟩, .string ⟨#[108, 97, 98]⟩] := by
   have h := (Blk.new (w4.alloc (.cells (lUp (.slice A 5 c) (.slice (some ⟨w2.heap.size, 0, none⟩) 3 3)) 109)) 9 #[.string ⟨#[101, 100, 103, 101]⟩, .string ⟨#[99, 111, 114, 101]⟩, .string ⟨#[108, 97, 98]⟩]).alloc (.cells (cS ⟨#[107, 105, 110, 100]⟩ 1 4 0 0 (.slice (some ⟨w4.heap.size + 1, 0, none⟩) 3 3) false 0 (.slice none 0 0)) 109)
   rw [s5.out] at h
   exact h
  rw [Nat.zero_add, hb.cell]
  have hj2 : [Value.string ⟨#[101, 100, 103, 101]⟩, .string ⟨#[99, 111, 114, 101]⟩, .string ⟨#[108, 97, 98]⟩][j]? = some u := hj
  simpa using hj2⟩⟩
 have s7 : Hid ((((w4.alloc (.cells (lUp (.slice A 5 c) (.slice (some ⟨w2.heap.size, 0, none⟩) 3 3)) 109)).alloc (.cells #[.string ⟨#[101, 100, 103, 101]⟩, .string ⟨#[99, 111, 114, 101]⟩, .string ⟨#[108, 97, 98]⟩] 9)).alloc (.cells (cS ⟨#[107, 105, 110, 100]⟩ 1 4 0 0 (.slice (some ⟨w4.heap.size + 1, 0, none⟩) 3 3) false 0 (.slice none 0 0)) 109)).heap.size = w4.heap.size + 3) := hHd (by simp)
 have lt7 : ∀ {g : Nat}, g < w4.heap.size + 3 → g < (((w4.alloc (.cells (lUp (.slice A 5 c) (.slice (some ⟨w2.heap.size, 0, none⟩) 3 3)) 109)).alloc (.cells #[.string ⟨#[101, 100, 103, 101]⟩, .string ⟨#[99, 111, 114, 101]⟩, .string ⟨#[108, 97, 98]⟩] 9)).alloc (.cells (cS ⟨#[107, 105, 110, 100]⟩ 1 4 0 0 (.slice (some ⟨w4.heap.size + 1, 0, none⟩) 3 3) false 0 (.slice none 0 0)) 109)).heap.size := fun {g} h => by rw [s7.out]; exact h
 have ne5 : ∀ {g : Nat}, g < w4.heap.size → some g ≠ (Value.slice (some ⟨w4.heap.size, 0, none⟩) 4 4).ownBlock := fun {g} h e => absurd (Option.some.inj e : g = w4.heap.size) (Nat.ne_of_lt h)
 have ne6 : ∀ {g : Nat}, w4.heap.size < g → some g ≠ (Value.slice (some ⟨w4.heap.size, 0, none⟩) 4 4).ownBlock := fun {g} h e => absurd (Option.some.inj e : g = w4.heap.size) (Nat.ne_of_gt h)
 have O7 : Hid (OwnG SpcD 109 9 8 (((w4.alloc (.cells (lUp (.slice A 5 c) (.slice (some ⟨w2.heap.size, 0, none⟩) 3 3)) 109)).alloc (.cells #[.string ⟨#[101, 100, 103, 101]⟩, .string ⟨#[99, 111, 114, 101]⟩, .string ⟨#[108, 97, 98]⟩] 9)).alloc (.cells (cS ⟨#[107, 105, 110, 100]⟩ 1 4 0 0 (.slice (some ⟨w4.heap.size + 1, 0, none⟩) 3 3) false 0 (.slice none 0 0)) 109)) (w.heap.size + 1) (Rng (w.heap.size + 1) w4.heap.size) (fun g => Rng (w.heap.size + 1) w4.heap.size g ∨ g = w4.heap.size + 1) (.slice (some ⟨w4.heap.size, 0, none⟩) 4 4) (frOf [(leafD nUp 3 false, .nil), (listD nClass 8, frOf (classL 3)), (listD nRule 16, frOf ruleL), (leafD nDefault 6 true, .nil)])) := hHd ((O5.out.below stay_spc hb67).widen stay_spc (fun _ h => h) (fun _ h => .inl h) (fun g hg => ⟨lt7 (Nat.lt_of_lt_of_le hg.2 (by omega)), ne5 hg.2⟩) (fun g hg => hg.elim (fun hg => ⟨lt7 (Nat.lt_of_lt_of_le hg.2 (by omega)), ne5 hg.2⟩) (fun hg => ⟨lt7 (by omega), ne6 (by omega)⟩)))
 clear hb67 lt7 ne5 ne6
 have K7 : Hid (Blk (((w4.alloc (.cells (lUp (.slice A 5 c) (.slice (some ⟨w2.heap.size, 0, none⟩) 3 3)) 109)).alloc (.cells #[.string ⟨#[101, 100, 103, 101]⟩, .string ⟨#[99, 111, 114, 101]⟩, .string ⟨#[108, 97, 98]⟩] 9)).alloc (.cells (cS ⟨#[107, 105, 110, 100]⟩ 1 4 0 0 (.slice (some ⟨w4.heap.size + 1, 0, none⟩) 3 3) false 0 (.slice none 0 0)) 109)) (w4.heap.size + 2) 109 (spC kindD (.slice (some ⟨w4.heap.size + 1, 0, none⟩) 3 3) (.slice none 0 0)).toArray) := hHd (by
  have h := Blk.new ((w4.alloc (.cells (lUp (.slice A 5 c) (.slice (some ⟨w2.heap.size, 0, none⟩) 3 3)) 109)).alloc (.cells #[.string ⟨#[101, 100, 103, 101]⟩, .string ⟨#[99, 111, 114, 101]⟩, .string ⟨#[108, 97, 98]⟩] 9)) 109 (cS ⟨#[107, 105, 110, 100]⟩ 1 4 0 0 (.slice (some ⟨w4.heap.size + 1, 0, none⟩) 3 3) false 0 (.slice none 0 0))
  rw [s6.out] at h
  exact h)
 go_wp2_with (at_builtin; refine wpList_append_g stay_spc one_spc Tryz.underlying107 infoS zeroS (by decide) rfl (.tmp 28) (.tmp 31) rfl rfl rfl O7.out rfl K7.out (SpN.make V7.out (fun _ => .inr rfl) (FrV.empty _ _ _)) ?h1 ?h2 R7.out.lt ?_)
 case h1 => decide
 case h2 => decide
 intro v8 w8 hap
 have H8 := hHd (H7.out.trans ((hap.below O7.out R7.out.lt).mono (Nat.le_succ _)))
 have R8 := hHd (R7.out.grown hap.2.1 (fun e => absurd (Option.some.inj e : w.heap.size = w4.heap.size) (by omega)))
 have O8 := hHd hap.1
 have z87 : w4.heap.size + 3 ≤ w8.heap.size := by have h := hap.2.1.size; simp at h; omega
 obtain ⟨g8, c8, e8⟩ := hap.2.2.2
 obtain rfl : v8 = .slice (some ⟨g8, 0, none⟩) 5 c8 := e8
 clear hap
 have lt8 : ∀ {g : Nat}, g < w8.heap.size → g < w8.heap.size := fun {g} h => h
 have KP : Hid (FrV SpcD 9 8 w8 (Rng (w.heap.size + 1) w8.heap.size) (Rng (w.heap.size + 1) w8.heap.size) (.slice (some ⟨g8, 0, none⟩) 5 c8) (frOf (portL 3))) := hHd ((O8.out.frv stay_spc).mono stay_spc (fun g hg => hg.elim (fun hg => ⟨hg.1, lt8 (O8.out.1 g hg).1⟩) (fun hg => ⟨(O8.out.lt g hg).1, lt8 (O8.out.lt g hg).2⟩)) (fun g hg => ⟨hg.elim (fun hg => hg.1) (fun hg => Nat.le_trans z4 (Nat.le_of_lt (by omega))), lt8 (O8.out.2.1 g hg).1⟩))
 have gt8 : ∀ {g : Nat}, g < w8.heap.size → g < w8.heap.size := fun {g} h => h
 have hb9 : Below w8.heap.size w8 (w8.alloc (.cells (lSy (.slice (some ⟨g8, 0, none⟩) 5 c8)) 109)) := bAl
 have H9 : Hid (Below w.heap.size w (w8.alloc (.cells (lSy (.slice (some ⟨g8, 0, none⟩) 5 c8)) 109))) := hHd (H8.out.alloc H8.out.size _)
 have R9 : Hid (Blk (w8.alloc (.cells (lSy (.slice (some ⟨g8, 0, none⟩) 5 c8)) 109)) w.heap.size 109 (cS ⟨#[]⟩ 0 0 0 0 (.slice none 0 0) false 0 (.slice none 0 0))) := hHd (R8.out.alloc _)
 have O9 : Hid (OwnG SpcD 109 9 8 (w8.alloc (.cells (lSy (.slice (some ⟨g8, 0, none⟩) 5 c8)) 109)) (w.heap.size + 1) (Rng (w.heap.size + 1) w8.heap.size) (Rng (w.heap.size + 1) w8.heap.size) (.slice (some ⟨w8.heap.size, 0, none⟩) 2 2) (frOf [(leafD nSystem 5 false, .nil), (listD nPort 4, frOf (portL 3))])) := hHd (OwnG.lit (f := frOf [(leafD nSystem 5 false, .nil), (listD nPort 4, frOf (portL 3))]) (Blk.new w8 _ _) (lt8 R8.out.lt) (by decide) ⟨spC (leafD nSystem 5 false) (.slice none 0 0) (.slice none 0 0), _, rfl, leaf_n rfl, spC (listD nPort 4) (.slice none 0 0) (.slice (some ⟨g8, 0, none⟩) 5 c8), [], rfl, list_n rfl (KP.out.under hb9 (fun g hg => gt8 hg.2) (fun g hg => gt8 hg.2)), rfl⟩ (fun k hk => ⟨Nat.lt_of_lt_of_le (gt8 hk.2) hb9.size, Nat.ne_of_lt hk.2⟩) (fun k hk => ⟨Nat.lt_of_lt_of_le (gt8 hk.2) hb9.size, Nat.ne_of_lt hk.2⟩))
 clear hb9
 clear lt8 gt8 z2 z4 z43
 have hb10 : Below (w8.alloc (.cells (lSy (.slice (some ⟨g8, 0, none⟩) 5 c8)) 109)).heap.size (w8.alloc (.cells (lSy (.slice (some ⟨g8, 0, none⟩) 5 c8)) 109)) ((w8.alloc (.cells (lSy (.slice (some ⟨g8, 0, none⟩) 5 c8)) 109)).alloc (.cells (cS ⟨#[119, 97, 105, 116]⟩ 1 1 1 1000 (.slice none 0 0) false 0 (.slice none 0 0)) 109)) := bAl
 have H10 : Hid (Below w.heap.size w ((w8.alloc (.cells (lSy (.slice (some ⟨g8, 0, none⟩) 5 c8)) 109)).alloc (.cells (cS ⟨#[119, 97, 105, 116]⟩ 1 1 1 1000 (.slice none 0 0) false 0 (.slice none 0 0)) 109))) := hHd (H9.out.alloc H9.out.size _)
 have R10 : Hid (Blk ((w8.alloc (.cells (lSy (.slice (some ⟨g8, 0, none⟩) 5 c8)) 109)).alloc (.cells (cS ⟨#[119, 97, 105, 116]⟩ 1 1 1 1000 (.slice none 0 0) false 0 (.slice none 0 0)) 109)) w.heap.size 109 (cS ⟨#[]⟩ 0 0 0 0 (.slice none 0 0) false 0 (.slice none 0 0))) := hHd (R9.out.alloc _)
 have O10 := hHd (O9.out.below stay_spc hb10)
 have s9 : Hid ((w8.alloc (.cells (lSy (.slice (some ⟨g8, 0, none⟩) 5 c8)) 109)).heap.size = w8.heap.size + 1) := hHd (by simp)
 have K10 : Hid (Blk ((w8.alloc (.cells (lSy (.slice (some ⟨g8, 0, none⟩) 5 c8)) 109)).alloc (.cells (cS ⟨#[119, 97, 105, 116]⟩ 1 1 1 1000 (.slice none 0 0) false 0 (.slice none 0 0)) 109)) (w8.heap.size + 1) 109 (spC waitD (.slice none 0 0) (.slice none 0 0)).toArray) := hHd (by
  have h := Blk.new (w8.alloc (.cells (lSy (.slice (some ⟨g8, 0, none⟩) 5 c8)) 109)) 109 (cS ⟨#[119, 97, 105, 116]⟩ 1 1 1 1000 (.slice none 0 0) false 0 (.slice none 0 0))
  rw [s9.out] at h
  exact h)
 clear hb10
 go_wp2_with (at_builtin; refine wpList_append_g stay_spc one_spc Tryz.underlying107 infoS zeroS (by decide) rfl (.tmp 39) (.tmp 41) rfl rfl rfl O10.out rfl K10.out (leaf_n rfl) ?h1 ?h2 R10.out.lt ?_)
 case h1 => decide
 case h2 => decide
 intro v11 w11 hap
 have H11 := hHd (H10.out.trans ((hap.below O10.out R10.out.lt).mono (Nat.le_succ _)))
 have R11 := hHd (R10.out.grown hap.2.1 (fun e => absurd (Option.some.inj e : w.heap.size = _) (Nat.ne_of_lt R8.out.lt)))
 have O11 := hHd hap.1
 obtain ⟨g11, c11, e11⟩ := hap.2.2.2
 obtain rfl : v11 = .slice (some ⟨g11, 0, none⟩) 3 c11 := e11
 clear hap
 have f0 : w11.frozen? ⟨w.heap.size, 0, none⟩ = false := R11.out.frozen 0
 have f1 : w11.frozen? ⟨w.heap.size, 1, none⟩ = false := R11.out.frozen 1
 have f2 : w11.frozen? ⟨w.heap.size, 2, none⟩ = false := R11.out.frozen 2
 have f3 : w11.frozen? ⟨w.heap.size, 3, none⟩ = false := R11.out.frozen 3
 have f4 : w11.frozen? ⟨w.heap.size, 4, none⟩ = false := R11.out.frozen 4
 have f5 : w11.frozen? ⟨w.heap.size, 5, none⟩ = false := R11.out.frozen 5
 have f6 : w11.frozen? ⟨w.heap.size, 6, none⟩ = false := R11.out.frozen 6
 have f7 : w11.frozen? ⟨w.heap.size, 7, none⟩ = false := R11.out.frozen 7
 have f8 : w11.frozen? ⟨w.heap.size, 8, none⟩ = false := R11.out.frozen 8
 obtain ⟨q0, q1, q2, q3, q4, q5, q6, q7, q8⟩ := cl9 R11.out
 have KE : Hid (FrV SpcD 9 8 w11 (Rng (w.heap.size + 1) w11.heap.size) (Rng (w.heap.size + 1) w11.heap.size) (.slice (some ⟨g11, 0, none⟩) 3 c11) (rootF 3)) := hHd ((O11.out.frv stay_spc).mono stay_spc (fun g hg => hg.elim (fun hg => ⟨hg.1, (O11.out.1 g hg).1⟩) (fun hg => O11.out.lt g hg)) (fun g hg => ⟨hg.1, (O11.out.2.1 g hg).1⟩))
 have HE : Hid (Below w.heap.size w (set9 w11 w.heap.size (.string ⟨#[]⟩) (.int .i64 2) (.int .i64 0) (.int .u64 0) (.int .u64 0) (.slice none 0 0) (.bool false) (.int .i64 0) (.slice (some ⟨g11, 0, none⟩) 3 c11))) := hHd (H11.out.trans (set9_below (Nat.le_refl _)))
 have RE : Hid (Blk (set9 w11 w.heap.size (.string ⟨#[]⟩) (.int .i64 2) (.int .i64 0) (.int .u64 0) (.int .u64 0) (.slice none 0 0) (.bool false) (.int .i64 0) (.slice (some ⟨g11, 0, none⟩) 3 c11)) w.heap.size 109 (cS ⟨#[]⟩ 2 0 0 0 (.slice none 0 0) false 0 (.slice (some ⟨g11, 0, none⟩) 3 c11))) := hHd (R11.out.set9 _ _ _ _ _ _ _ _ _)
 have KS : Hid (FrV SpcD 9 8 (set9 w11 w.heap.size (.string ⟨#[]⟩) (.int .i64 2) (.int .i64 0) (.int .u64 0) (.int .u64 0) (.slice none 0 0) (.bool false) (.int .i64 0) (.slice (some ⟨g11, 0, none⟩) 3 c11)) (Rng w.heap.size (set9 w11 w.heap.size (.string ⟨#[]⟩) (.int .i64 2) (.int .i64 0) (.int .u64 0) (.int .u64 0) (.slice none 0 0) (.bool false) (.int .i64 0) (.slice (some ⟨g11, 0, none⟩) 3 c11)).heap.size) (Rng w.heap.size (set9 w11 w.heap.size (.string ⟨#[]⟩) (.int .i64 2) (.int .i64 0) (.int .u64 0) (.int .u64 0) (.slice none 0 0) (.bool false) (.int .i64 0) (.slice (some ⟨g11, 0, none⟩) 3 c11)).heap.size) (.slice (some ⟨g11, 0, none⟩) 3 c11) (rootF 3)) := hHd (KE.out.kept stay_spc (fun g hg => set9_other (by have := hg.1; omega)) (fun g hg => ⟨by have := hg.1; omega, by rw [set9_size]; exact hg.2⟩) (fun g hg => set9_other (by have := hg.1; omega)) (fun g hg => ⟨by have := hg.1; omega, by rw [set9_size]; exact hg.2⟩))
 clear KE z87
 go_wp2
 refine bodyPost_ret (res_cell_tmp rfl _ _ w.heap.size 109 _ (0, 0) _ rfl RE.out Tryz.underlying109 rfl (by kernel_rfl)) rfl ?_
 exact ⟨spC rootD (.slice none 0 0) (.slice (some ⟨g11, 0, none⟩) 3 c11), rfl, list_n rfl KS.out, HE.out⟩
end Go.Proofs.YtleidkpdpabkpaaGreatDoor
