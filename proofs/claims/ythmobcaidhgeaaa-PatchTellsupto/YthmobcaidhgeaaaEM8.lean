/- PatZwi -/
import Derived.Test.YthmobcaidhgeaaaEM7
set_option linter.unusedSimpArgs false
set_option linter.unusedVariables false
set_option maxRecDepth 100000
set_option maxHeartbeats 8000000
namespace Go.Proofs.Ythmobcaidhgeaaa
open Go.RowKit
theorem zwith_part (d : Nat → Prop) (B : Nat) (a : NdD) (f lf : NdF) (b o : Nat) (L c at_ many : Nat) (Au : Option Addr) (ku cu : Nat) (w : World) (hd : ∀ g, d g → g < B) (hB : B ≤ w.heap.size)
  (hf : FrV NdT 6 5 w (ZoneZ d B w.heap.size) noB (.slice (some ⟨b, o, none⟩) L c) f) (hu : FrV NdT 6 5 w (ZoneZ d B w.heap.size) noB (.slice Au ku cu) lf) (hk : at_ + many ≤ L) (hL : L ≤ 3000000) (hlu : ku ≤ 3000000) (hc : ¬ c = at_ + many) :
  Calls Try.prog 43 #[.agg (cN a (.slice (some ⟨b, o, none⟩) L c)), .int .i64 (at_ : Int), .int .i64 (many : Int), .slice Au ku cu] w
   (fun r w' => ∃ A' c', r = .returned (.agg (cN a (.slice A' (withF f at_ many lf).len c'))) ∧ FrV NdT 6 5 w' (ZoneZ d B w'.heap.size) noB (.slice A' (withF f at_ many lf).len c') (withF f at_ many lf) ∧ Below w.heap.size w w') := by
 have hLf := RowT.len (b := w.heap.size) (FrV.mono stay_nd hf (fun g hg => by rcases hg with h | h <;> (first | omega | (have h9 := hdd _ h; omega) | (have h9 := hd _ h; omega) | (have h9 := HDB.out.1 _ h; omega) | (have h9 := HD.out _ h; omega))) (fun _ h => h))
 have hLu := RowT.len (b := w.heap.size) (FrV.mono stay_nd hu (fun g hg => by rcases hg with h | h <;> (first | omega | (have h9 := hdd _ h; omega) | (have h9 := hd _ h; omega) | (have h9 := HDB.out.1 _ h; omega) | (have h9 := HD.out _ h; omega))) (fun _ h => h))
 obtain ⟨h1, h2⟩ := hLf
 obtain ⟨h3, h4⟩ := hLu
 have hb2 : Blk ((w.alloc (.cells (cN a (.slice (some ⟨b, o, none⟩) L c)) 27)).alloc (.cells #[.string ⟨#[]⟩, .string ⟨#[]⟩, .int .i64 0, .int .u64 0, .string ⟨#[]⟩, .slice none 0 0] 27)) (w.heap.size + 1) 27 #[.string ⟨#[]⟩, .string ⟨#[]⟩, .int .i64 0, .int .u64 0, .string ⟨#[]⟩, .slice none 0 0] := by
  have h := Blk.new (w.alloc (.cells (cN a (.slice (some ⟨b, o, none⟩) L c)) 27)) 27 #[.string ⟨#[]⟩, .string ⟨#[]⟩, .int .i64 0, .int .u64 0, .string ⟨#[]⟩, .slice none 0 0]
  rw [show (w.alloc (.cells (cN a (.slice (some ⟨b, o, none⟩) L c)) 27)).heap.size = w.heap.size + 1 by simp] at h
  exact h
 have hbel : Below w.heap.size w ((w.alloc (.cells (cN a (.slice (some ⟨b, o, none⟩) L c)) 27)).alloc (.cells #[.string ⟨#[]⟩, .string ⟨#[]⟩, .int .i64 0, .int .u64 0, .string ⟨#[]⟩, .slice none 0 0] 27)) := bAl.alloc (by simp) _
 have hsz : ((w.alloc (.cells (cN a (.slice (some ⟨b, o, none⟩) L c)) 27)).alloc (.cells #[.string ⟨#[]⟩, .string ⟨#[]⟩, .int .i64 0, .int .u64 0, .string ⟨#[]⟩, .slice none 0 0] 27)).heap.size = w.heap.size + 2 := by simp
 have HX := hHd ((Blk.new w 27 (cN a (.slice (some ⟨b, o, none⟩) L c))).alloc (.cells #[.string ⟨#[]⟩, .string ⟨#[]⟩, .int .i64 0, .int .u64 0, .string ⟨#[]⟩, .slice none 0 0] 27))
 have HZ := hHd hb2
 have HB := hHd hbel
 have HSZ := hHd hsz
 have HDB := hHd (And.intro hd hB)
 have HLL := hHd (And.intro h1 h3)
 have HFV := hHd hf
 have HUV := hHd hu
 have j1 : (0 : Int) ≤ (at_ : Int) := by omega
 have j2 : (at_ : Int) ≤ (L : Int) := by omega
 have j3 : (0 : Int) ≤ (many : Int) := by omega
 have j4 : (L : Int) ≤ (c : Int) := by omega
 have j5 : (at_ : Int) + (many : Int) ≤ (L : Int) := by omega
 have j6 : (L : Int) ≤ 3000000 := by omega
 have j7 : (0 : Int) ≤ (at_ : Int) + (many : Int) := by omega
 have j8 : (at_ : Int) ≤ (c : Int) := by omega
 have HS : Hid (∀ g, (ZoneZ d B w.heap.size) g → g < w.heap.size) := hHd (fun g hg => by rcases hg with h | h <;> (first | omega | (have h9 := hdd _ h; omega) | (have h9 := hd _ h; omega) | (have h9 := HDB.out.1 _ h; omega) | (have h9 := HD.out _ h; omega)))
 have HO0 : Hid (OwnG NdT 27 6 5 ((w.alloc (.cells (cN a (.slice (some ⟨b, o, none⟩) L c)) 27)).alloc (.cells #[.string ⟨#[]⟩, .string ⟨#[]⟩, .int .i64 0, .int .u64 0, .string ⟨#[]⟩, .slice none 0 0] 27)) (w.heap.size + 2) (ZoneZ d B w.heap.size) noB (.slice none 0 0) (.nil : NdF)) := hHd (OwnG.nilS _ _ (fun g hg => by rw [hsz]; have := HS.out g hg; omega) (fun g hg => hg.elim))
 have up : ∀ (W : World), Below w.heap.size w W → ∀ (v : Value) (x : NdF), FrV NdT 6 5 w (ZoneZ d B w.heap.size) noB v x → FrV NdT 6 5 W (ZoneZ d B w.heap.size) noB v x := fun W hW v x h => h.kept stay_nd (fun g hg => hW.block g (HS.out g hg)) (fun _ h => h) (fun _ h => h.elim) (fun _ h => h)
 have HUP := hHd up
 have HS0 : Hid (FrV NdT 6 5 ((w.alloc (.cells (cN a (.slice (some ⟨b, o, none⟩) L c)) 27)).alloc (.cells #[.string ⟨#[]⟩, .string ⟨#[]⟩, .int .i64 0, .int .u64 0, .string ⟨#[]⟩, .slice none 0 0] 27)) (ZoneZ d B w.heap.size) noB (.slice (some ⟨b, o, none⟩) at_ c) (Fr.take at_ f)) := hHd (up _ hbel _ _ (hf.front (by omega)))
 have HTL : Hid ((Fr.take at_ f).len = at_) := hHd (Fr.len_take _ _ (by omega))
 have HDL : Hid ((Fr.drop (at_ + many) f).len = L - (at_ + many)) := hHd (by rw [Fr.len_drop, ← h1])
 clear hf hu hb2 hbel hsz hd hB h1 h3 up
 go_enter Try.func43, Try.ntmps43
 go_wp2_with (at_builtin; refine wpList_append_gs stay_nd one_nd Try.underlying25 Try.cellsNd rfl (by decide) rfl (.tmp 10) (.tmp 14) rfl rfl rfl HO0.out rfl HS0.out ?h1 ?h2 ?h3 ?_)
 case h1 => rw [HTL.out]; simp only [Fr.len]; omega
 case h2 => rw [HTL.out]; simp only [Fr.len]; omega
 case h3 => simp
 intro v1 w1 hap
 obtain ⟨A1, c1, rfl⟩ : ∃ A1 c1, v1 = .slice A1 at_ c1 := by
  obtain ⟨A1, c1, e⟩ := hap.1.shape
  rw [show (Fr.app .nil (Fr.take at_ f)).len = at_ from HTL.out] at e
  exact ⟨A1, c1, e⟩
 have HO1 : Hid (OwnG NdT 27 6 5 w1 (w.heap.size + 2) (ZoneZ d B w.heap.size) noB (.slice A1 at_ c1) (Fr.take at_ f)) := hHd hap.1
 have HW1 : Hid (Below (w.heap.size + 2) ((w.alloc (.cells (cN a (.slice (some ⟨b, o, none⟩) L c)) 27)).alloc (.cells #[.string ⟨#[]⟩, .string ⟨#[]⟩, .int .i64 0, .int .u64 0, .string ⟨#[]⟩, .slice none 0 0] 27)) w1) := hHd (AppGs.below hap HO0.out (by simp))
 have HB1 : Hid (Below w.heap.size w w1) := hHd (HB.out.trans (HW1.out.mono (by omega)))
 have HX1 := hHd (HX.out.below HW1.out (by omega))
 have HZ1 := hHd (HZ.out.below HW1.out (by omega))
 have HU1 := hHd (HUP.out w1 HB1.out _ _ HUV.out)
 have HG1 : Hid (w.heap.size + 2 ≤ w1.heap.size) := hHd (by have := HW1.out.size; rw [HSZ.out] at this; exact this)
 clear hap
 go_wp2_with (at_builtin; refine wpList_append_gs stay_nd one_nd Try.underlying25 Try.cellsNd rfl (by decide) rfl (.tmp 16) (.tmp 17) rfl rfl rfl HO1.out rfl HU1.out ?h4 ?h5 ?h6 ?_)
 case h4 => rw [HTL.out, ← HLL.out.2]; omega
 case h5 => rw [HTL.out, ← HLL.out.2]; omega
 case h6 => exact HG1.out
 intro v2 w2 hap
 obtain ⟨A2, c2, rfl⟩ : ∃ A2 c2, v2 = .slice A2 (at_ + ku) c2 := by
  obtain ⟨A1, c1, e⟩ := hap.1.shape
  rw [Fr.len_app, HTL.out, ← HLL.out.2] at e
  exact ⟨A1, c1, e.trans (by simp)⟩
 have HO2 : Hid (OwnG NdT 27 6 5 w2 (w.heap.size + 2) (ZoneZ d B w.heap.size) noB (.slice A2 (at_ + ku) c2) ((Fr.take at_ f).app lf)) := hHd hap.1
 have HW2 : Hid (Below (w.heap.size + 2) ((w.alloc (.cells (cN a (.slice (some ⟨b, o, none⟩) L c)) 27)).alloc (.cells #[.string ⟨#[]⟩, .string ⟨#[]⟩, .int .i64 0, .int .u64 0, .string ⟨#[]⟩, .slice none 0 0] 27)) w2) := hHd (HW1.out.trans (AppGs.below hap HO1.out HG1.out))
 have HB2 : Hid (Below w.heap.size w w2) := hHd (HB.out.trans (HW2.out.mono (by omega)))
 have HX2 := hHd (HX.out.below HW2.out (by omega))
 have HZ2 := hHd (HZ.out.below HW2.out (by omega))
 have p5 : w2.cell? ⟨w.heap.size, 5, none⟩ = some (.slice (some ⟨b, o, none⟩) L c) := (HX2.out.cell 5).trans rfl
 have HG2 : Hid (w.heap.size + 2 ≤ w2.heap.size) := hHd (by have := HW2.out.size; rw [HSZ.out] at this; exact this)
 clear hap
 have HS2 : Hid (FrV NdT 6 5 w2 (ZoneZ d B w.heap.size) noB (.slice (some ⟨b, o + (at_ + many) * 6, none⟩) (L - (at_ + many)) (c - (at_ + many))) (Fr.drop (at_ + many) f)) := hHd (HUP.out w2 HB2.out _ _ (by
  have h := HLL.out.1
  rw [h]
  exact FrV.back (by omega) HFV.out))
 go_wp2_with (at_builtin; refine wpList_append_gs stay_nd one_nd Try.underlying25 Try.cellsNd rfl (by decide) rfl (.tmp 19) (.tmp 25) rfl rfl rfl HO2.out rfl HS2.out ?h7 ?h8 ?h9 ?_)
 case h7 => rw [Fr.len_app, HTL.out, ← HLL.out.2, HDL.out]; omega
 case h8 => rw [Fr.len_app, HTL.out, ← HLL.out.2, HDL.out]; omega
 case h9 => exact HG2.out
 intro v3 w3 hap
 have hwf : ((Fr.take at_ f).app lf).app (Fr.drop (at_ + many) f) = withF f at_ many lf := by unfold withF; rw [Fr.app_assoc]
 rw [hwf] at hap
 obtain ⟨A3, c3, rfl⟩ := hap.1.shape
 have HW3 : Hid (Below (w.heap.size + 2) ((w.alloc (.cells (cN a (.slice (some ⟨b, o, none⟩) L c)) 27)).alloc (.cells #[.string ⟨#[]⟩, .string ⟨#[]⟩, .int .i64 0, .int .u64 0, .string ⟨#[]⟩, .slice none 0 0] 27)) w3) := hHd (HW2.out.trans (AppGs.below (g := withF f at_ many lf) hap HO2.out HG2.out))
 have HB3 : Hid (Below w.heap.size w w3) := hHd (HB.out.trans (HW3.out.mono (by omega)))
 have HX3 := hHd (HX.out.below HW3.out (by omega))
 have HZ3 := hHd (HZ.out.below HW3.out (by omega))
 have HO3 := hHd hap.1
 obtain ⟨L3, hL3⟩ : ∃ n, n = (withF f at_ many lf).len := ⟨_, rfl⟩
 rw [← hL3]
 have HL3 := hHd hL3
 have HV3 : Hid (FrV NdT 6 5 w3 (fun g => (ZoneZ d B w.heap.size) g ∨ (w.heap.size + 2 ≤ g ∧ g < w3.heap.size)) noB (.slice A3 L3 c3) (withF f at_ many lf)) := hHd (by
  rw [hL3]
  exact (hap.1.frv stay_nd).mono stay_nd (fun g hg => by
   rcases hg with h | h
   ·exact .inl h
   ·exact .inr (hap.1.lt g h)) (fun _ h => h))
 clear hap hwf p5 hL3
 have HX4 : Hid (Blk (w3.setCell ⟨w.heap.size, 5, none⟩ (.slice A3 L3 c3)) w.heap.size 27 (cN a (.slice A3 L3 c3))) := hHd (by
  have h := HX3.out.set_ 5 (.slice A3 L3 c3)
  simp only [layS] at h
  exact h)
 have HZ4 : Hid (Blk (w3.setCell ⟨w.heap.size, 5, none⟩ (.slice A3 L3 c3)) (w.heap.size + 1) 27 #[.string ⟨#[]⟩, .string ⟨#[]⟩, .int .i64 0, .int .u64 0, .string ⟨#[]⟩, .slice none 0 0]) := hHd (HZ3.out.far (p := ⟨w.heap.size, 5, none⟩) (by show w.heap.size + 1 ≠ w.heap.size; omega) _)
 have RZ : Hid (Blk (set6 (w3.setCell ⟨w.heap.size, 5, none⟩ (.slice A3 L3 c3)) (w.heap.size + 1) (.string (txt a.name)) (.string (txt a.key)) (.int .i64 a.kind) (.int .u64 (a.num : Int)) (.string (txt a.text)) (.slice A3 L3 c3)) (w.heap.size + 1) 27 (cN a (.slice A3 L3 c3))) := hHd (HZ4.out.set6 _ _ _ _ _ _)
 have HBZ : Hid (Below w.heap.size w (set6 (w3.setCell ⟨w.heap.size, 5, none⟩ (.slice A3 L3 c3)) (w.heap.size + 1) (.string (txt a.name)) (.string (txt a.key)) (.int .i64 a.kind) (.int .u64 (a.num : Int)) (.string (txt a.text)) (.slice A3 L3 c3))) := hHd ((HB3.out.setCell (p := ⟨w.heap.size, 5, none⟩) (Nat.le_refl _) _).trans (set6_below (by omega)))
 have HVZ : Hid (FrV NdT 6 5 (set6 (w3.setCell ⟨w.heap.size, 5, none⟩ (.slice A3 L3 c3)) (w.heap.size + 1) (.string (txt a.name)) (.string (txt a.key)) (.int .i64 a.kind) (.int .u64 (a.num : Int)) (.string (txt a.text)) (.slice A3 L3 c3)) (ZoneZ d B (set6 (w3.setCell ⟨w.heap.size, 5, none⟩ (.slice A3 L3 c3)) (w.heap.size + 1) (.string (txt a.name)) (.string (txt a.key)) (.int .i64 a.kind) (.int .u64 (a.num : Int)) (.string (txt a.text)) (.slice A3 L3 c3)).heap.size) noB (.slice A3 L3 c3) (withF f at_ many lf)) := hHd (by
  have hz : (set6 (w3.setCell ⟨w.heap.size, 5, none⟩ (.slice A3 L3 c3)) (w.heap.size + 1) (.string (txt a.name)) (.string (txt a.key)) (.int .i64 a.kind) (.int .u64 (a.num : Int)) (.string (txt a.text)) (.slice A3 L3 c3)).heap.size = w3.heap.size := by rw [set6_size]; simp [World.setCell]
  rw [hz]
  have hs := HB3.out.size
  have h12 := HDB.out
  refine FrV.kept stay_nd HV3.out (fun g hg => ?_) (fun g hg => ?_) (fun _ h => h.elim) (fun _ h => h)
  ·have hne : g ≠ w.heap.size ∧ g ≠ w.heap.size + 1 := by
    rcases hg with hg | hg
    ·have := HS.out g hg; omega
    ·omega
   exact (set6_other hne.2).trans (Below.heap_setCell _ _ _ _ hne.1)
  ·rcases hg with (h | h) | h
   ·exact .inl h
   ·exact .inr ⟨h.1, by omega⟩
   ·exact .inr ⟨by omega, h.2⟩)
 have g5 : w3.frozen? ⟨w.heap.size, 5, none⟩ = false := HX3.out.frozen 5
 have p5 := (HX3.out.cell 5).trans rfl
 obtain ⟨q0, q1, q2, q3, q4, q5⟩ := cl6 HX4.out
 have fz0 : ((w3.setCell ⟨w.heap.size, 5, none⟩ (.slice A3 L3 c3))).frozen? ⟨w.heap.size + 1, 0, none⟩ = false := HZ4.out.frozen 0
 have fq0 := (HZ4.out.cell 0).trans rfl
 have fz1 : ((w3.setCell ⟨w.heap.size, 5, none⟩ (.slice A3 L3 c3))).frozen? ⟨w.heap.size + 1, 1, none⟩ = false := HZ4.out.frozen 1
 have fq1 := (HZ4.out.cell 1).trans rfl
 have fz2 : ((w3.setCell ⟨w.heap.size, 5, none⟩ (.slice A3 L3 c3))).frozen? ⟨w.heap.size + 1, 2, none⟩ = false := HZ4.out.frozen 2
 have fq2 := (HZ4.out.cell 2).trans rfl
 have fz3 : ((w3.setCell ⟨w.heap.size, 5, none⟩ (.slice A3 L3 c3))).frozen? ⟨w.heap.size + 1, 3, none⟩ = false := HZ4.out.frozen 3
 have fq3 := (HZ4.out.cell 3).trans rfl
 have fz4 : ((w3.setCell ⟨w.heap.size, 5, none⟩ (.slice A3 L3 c3))).frozen? ⟨w.heap.size + 1, 4, none⟩ = false := HZ4.out.frozen 4
 have fq4 := (HZ4.out.cell 4).trans rfl
 have fz5 : ((w3.setCell ⟨w.heap.size, 5, none⟩ (.slice A3 L3 c3))).frozen? ⟨w.heap.size + 1, 5, none⟩ = false := HZ4.out.frozen 5
 have fq5 := (HZ4.out.cell 5).trans rfl
 go_wp2
 refine bodyPost_ret (results_cell_row rfl _ _ (w.heap.size + 1) 27 _ (0, 0) _ rfl RZ.out Try.underlying27 rfl (by kernel_rfl)) rfl ?_
 exact ⟨A3, c3, by rw [← HL3.out], by rw [← HL3.out]; exact HVZ.out, HBZ.out⟩
theorem zwith_all (d : Nat → Prop) (B : Nat) (a : NdD) (f lf : NdF) (b o : Nat) (L at_ many : Nat) (Au : Option Addr) (ku cu : Nat) (w : World) (hd : ∀ g, d g → g < B) (hB : B ≤ w.heap.size)
  (hf : FrV NdT 6 5 w (ZoneZ d B w.heap.size) noB (.slice (some ⟨b, o, none⟩) L (at_ + many)) f) (hu : FrV NdT 6 5 w (ZoneZ d B w.heap.size) noB (.slice Au ku cu) lf) (hk : at_ + many ≤ L) (hL : L ≤ 3000000) (hlu : ku ≤ 3000000)  :
  Calls Try.prog 43 #[.agg (cN a (.slice (some ⟨b, o, none⟩) L (at_ + many))), .int .i64 (at_ : Int), .int .i64 (many : Int), .slice Au ku cu] w
   (fun r w' => ∃ A' c', r = .returned (.agg (cN a (.slice A' (withF f at_ many lf).len c'))) ∧ FrV NdT 6 5 w' (ZoneZ d B w'.heap.size) noB (.slice A' (withF f at_ many lf).len c') (withF f at_ many lf) ∧ Below w.heap.size w w') := by
 have hLf := RowT.len (b := w.heap.size) (FrV.mono stay_nd hf (fun g hg => by rcases hg with h | h <;> (first | omega | (have h9 := hdd _ h; omega) | (have h9 := hd _ h; omega) | (have h9 := HDB.out.1 _ h; omega) | (have h9 := HD.out _ h; omega))) (fun _ h => h))
 have hLu := RowT.len (b := w.heap.size) (FrV.mono stay_nd hu (fun g hg => by rcases hg with h | h <;> (first | omega | (have h9 := hdd _ h; omega) | (have h9 := hd _ h; omega) | (have h9 := HDB.out.1 _ h; omega) | (have h9 := HD.out _ h; omega))) (fun _ h => h))
 obtain ⟨h1, h2⟩ := hLf
 obtain ⟨h3, h4⟩ := hLu
 have hb2 : Blk ((w.alloc (.cells (cN a (.slice (some ⟨b, o, none⟩) L (at_ + many))) 27)).alloc (.cells #[.string ⟨#[]⟩, .string ⟨#[]⟩, .int .i64 0, .int .u64 0, .string ⟨#[]⟩, .slice none 0 0] 27)) (w.heap.size + 1) 27 #[.string ⟨#[]⟩, .string ⟨#[]⟩, .int .i64 0, .int .u64 0, .string ⟨#[]⟩, .slice none 0 0] := by
  have h := Blk.new (w.alloc (.cells (cN a (.slice (some ⟨b, o, none⟩) L (at_ + many))) 27)) 27 #[.string ⟨#[]⟩, .string ⟨#[]⟩, .int .i64 0, .int .u64 0, .string ⟨#[]⟩, .slice none 0 0]
  rw [show (w.alloc (.cells (cN a (.slice (some ⟨b, o, none⟩) L (at_ + many))) 27)).heap.size = w.heap.size + 1 by simp] at h
  exact h
 have hbel : Below w.heap.size w ((w.alloc (.cells (cN a (.slice (some ⟨b, o, none⟩) L (at_ + many))) 27)).alloc (.cells #[.string ⟨#[]⟩, .string ⟨#[]⟩, .int .i64 0, .int .u64 0, .string ⟨#[]⟩, .slice none 0 0] 27)) := bAl.alloc (by simp) _
 have hsz : ((w.alloc (.cells (cN a (.slice (some ⟨b, o, none⟩) L (at_ + many))) 27)).alloc (.cells #[.string ⟨#[]⟩, .string ⟨#[]⟩, .int .i64 0, .int .u64 0, .string ⟨#[]⟩, .slice none 0 0] 27)).heap.size = w.heap.size + 2 := by simp
 have HX := hHd ((Blk.new w 27 (cN a (.slice (some ⟨b, o, none⟩) L (at_ + many)))).alloc (.cells #[.string ⟨#[]⟩, .string ⟨#[]⟩, .int .i64 0, .int .u64 0, .string ⟨#[]⟩, .slice none 0 0] 27))
 have HZ := hHd hb2
 have HB := hHd hbel
 have HSZ := hHd hsz
 have HDB := hHd (And.intro hd hB)
 have HLL := hHd (And.intro h1 h3)
 have HFV := hHd hf
 have HUV := hHd hu
 have j1 : (0 : Int) ≤ (at_ : Int) := by omega
 have j2 : (at_ : Int) ≤ (L : Int) := by omega
 have j3 : (0 : Int) ≤ (many : Int) := by omega
 have j4 : (L : Int) ≤ (at_ : Int) + (many : Int) := by omega
 have j5 : (at_ : Int) + (many : Int) ≤ (L : Int) := by omega
 have j6 : (L : Int) ≤ 3000000 := by omega
 have j7 : (0 : Int) ≤ (at_ : Int) + (many : Int) := by omega
 have j8 : (at_ : Int) ≤ (at_ : Int) + (many : Int) := by omega
 have HS : Hid (∀ g, (ZoneZ d B w.heap.size) g → g < w.heap.size) := hHd (fun g hg => by rcases hg with h | h <;> (first | omega | (have h9 := hdd _ h; omega) | (have h9 := hd _ h; omega) | (have h9 := HDB.out.1 _ h; omega) | (have h9 := HD.out _ h; omega)))
 have HO0 : Hid (OwnG NdT 27 6 5 ((w.alloc (.cells (cN a (.slice (some ⟨b, o, none⟩) L (at_ + many))) 27)).alloc (.cells #[.string ⟨#[]⟩, .string ⟨#[]⟩, .int .i64 0, .int .u64 0, .string ⟨#[]⟩, .slice none 0 0] 27)) (w.heap.size + 2) (ZoneZ d B w.heap.size) noB (.slice none 0 0) (.nil : NdF)) := hHd (OwnG.nilS _ _ (fun g hg => by rw [hsz]; have := HS.out g hg; omega) (fun g hg => hg.elim))
 have up : ∀ (W : World), Below w.heap.size w W → ∀ (v : Value) (x : NdF), FrV NdT 6 5 w (ZoneZ d B w.heap.size) noB v x → FrV NdT 6 5 W (ZoneZ d B w.heap.size) noB v x := fun W hW v x h => h.kept stay_nd (fun g hg => hW.block g (HS.out g hg)) (fun _ h => h) (fun _ h => h.elim) (fun _ h => h)
 have HUP := hHd up
 have HS0 : Hid (FrV NdT 6 5 ((w.alloc (.cells (cN a (.slice (some ⟨b, o, none⟩) L (at_ + many))) 27)).alloc (.cells #[.string ⟨#[]⟩, .string ⟨#[]⟩, .int .i64 0, .int .u64 0, .string ⟨#[]⟩, .slice none 0 0] 27)) (ZoneZ d B w.heap.size) noB (.slice (some ⟨b, o, none⟩) at_ (at_ + many)) (Fr.take at_ f)) := hHd (up _ hbel _ _ (hf.front (by omega)))
 have HTL : Hid ((Fr.take at_ f).len = at_) := hHd (Fr.len_take _ _ (by omega))
 have HDL : Hid ((Fr.drop (at_ + many) f).len = L - (at_ + many)) := hHd (by rw [Fr.len_drop, ← h1])
 clear hf hu hb2 hbel hsz hd hB h1 h3 up
 go_enter Try.func43, Try.ntmps43
 go_wp2_with (at_builtin; refine wpList_append_gs stay_nd one_nd Try.underlying25 Try.cellsNd rfl (by decide) rfl (.tmp 10) (.tmp 14) rfl rfl rfl HO0.out rfl HS0.out ?h1 ?h2 ?h3 ?_)
 case h1 => rw [HTL.out]; simp only [Fr.len]; omega
 case h2 => rw [HTL.out]; simp only [Fr.len]; omega
 case h3 => simp
 intro v1 w1 hap
 obtain ⟨A1, c1, rfl⟩ : ∃ A1 c1, v1 = .slice A1 at_ c1 := by
  obtain ⟨A1, c1, e⟩ := hap.1.shape
  rw [show (Fr.app .nil (Fr.take at_ f)).len = at_ from HTL.out] at e
  exact ⟨A1, c1, e⟩
 have HO1 : Hid (OwnG NdT 27 6 5 w1 (w.heap.size + 2) (ZoneZ d B w.heap.size) noB (.slice A1 at_ c1) (Fr.take at_ f)) := hHd hap.1
 have HW1 : Hid (Below (w.heap.size + 2) ((w.alloc (.cells (cN a (.slice (some ⟨b, o, none⟩) L (at_ + many))) 27)).alloc (.cells #[.string ⟨#[]⟩, .string ⟨#[]⟩, .int .i64 0, .int .u64 0, .string ⟨#[]⟩, .slice none 0 0] 27)) w1) := hHd (AppGs.below hap HO0.out (by simp))
 have HB1 : Hid (Below w.heap.size w w1) := hHd (HB.out.trans (HW1.out.mono (by omega)))
 have HX1 := hHd (HX.out.below HW1.out (by omega))
 have HZ1 := hHd (HZ.out.below HW1.out (by omega))
 have HU1 := hHd (HUP.out w1 HB1.out _ _ HUV.out)
 have HG1 : Hid (w.heap.size + 2 ≤ w1.heap.size) := hHd (by have := HW1.out.size; rw [HSZ.out] at this; exact this)
 clear hap
 go_wp2_with (at_builtin; refine wpList_append_gs stay_nd one_nd Try.underlying25 Try.cellsNd rfl (by decide) rfl (.tmp 16) (.tmp 17) rfl rfl rfl HO1.out rfl HU1.out ?h4 ?h5 ?h6 ?_)
 case h4 => rw [HTL.out, ← HLL.out.2]; omega
 case h5 => rw [HTL.out, ← HLL.out.2]; omega
 case h6 => exact HG1.out
 intro v2 w2 hap
 obtain ⟨A2, c2, rfl⟩ : ∃ A2 c2, v2 = .slice A2 (at_ + ku) c2 := by
  obtain ⟨A1, c1, e⟩ := hap.1.shape
  rw [Fr.len_app, HTL.out, ← HLL.out.2] at e
  exact ⟨A1, c1, e.trans (by simp)⟩
 have HO2 : Hid (OwnG NdT 27 6 5 w2 (w.heap.size + 2) (ZoneZ d B w.heap.size) noB (.slice A2 (at_ + ku) c2) ((Fr.take at_ f).app lf)) := hHd hap.1
 have HW2 : Hid (Below (w.heap.size + 2) ((w.alloc (.cells (cN a (.slice (some ⟨b, o, none⟩) L (at_ + many))) 27)).alloc (.cells #[.string ⟨#[]⟩, .string ⟨#[]⟩, .int .i64 0, .int .u64 0, .string ⟨#[]⟩, .slice none 0 0] 27)) w2) := hHd (HW1.out.trans (AppGs.below hap HO1.out HG1.out))
 have HB2 : Hid (Below w.heap.size w w2) := hHd (HB.out.trans (HW2.out.mono (by omega)))
 have HX2 := hHd (HX.out.below HW2.out (by omega))
 have HZ2 := hHd (HZ.out.below HW2.out (by omega))
 have p5 : w2.cell? ⟨w.heap.size, 5, none⟩ = some (.slice (some ⟨b, o, none⟩) L (at_ + many)) := (HX2.out.cell 5).trans rfl
 have HG2 : Hid (w.heap.size + 2 ≤ w2.heap.size) := hHd (by have := HW2.out.size; rw [HSZ.out] at this; exact this)
 clear hap
 have HS2 : Hid (FrV NdT 6 5 w2 (ZoneZ d B w.heap.size) noB (.slice (some ⟨b, o, none⟩) 0 0) (Fr.drop (at_ + many) f)) := hHd (HUP.out w2 HB2.out _ _ (by
  have h := HLL.out.1
  have e : Fr.drop (at_ + many) f = .nil := by rw [show at_ + many = f.len by omega, Fr.drop_all]
  rw [e]
  exact FrV.none_ _ _))
 go_wp2_with (at_builtin; refine wpList_append_gs stay_nd one_nd Try.underlying25 Try.cellsNd rfl (by decide) rfl (.tmp 19) (.tmp 25) rfl rfl rfl HO2.out rfl HS2.out ?h7 ?h8 ?h9 ?_)
 case h7 => rw [Fr.len_app, HTL.out, ← HLL.out.2, HDL.out]; omega
 case h8 => rw [Fr.len_app, HTL.out, ← HLL.out.2, HDL.out]; omega
 case h9 => exact HG2.out
 intro v3 w3 hap
 have hwf : ((Fr.take at_ f).app lf).app (Fr.drop (at_ + many) f) = withF f at_ many lf := by unfold withF; rw [Fr.app_assoc]
 rw [hwf] at hap
 obtain ⟨A3, c3, rfl⟩ := hap.1.shape
 have HW3 : Hid (Below (w.heap.size + 2) ((w.alloc (.cells (cN a (.slice (some ⟨b, o, none⟩) L (at_ + many))) 27)).alloc (.cells #[.string ⟨#[]⟩, .string ⟨#[]⟩, .int .i64 0, .int .u64 0, .string ⟨#[]⟩, .slice none 0 0] 27)) w3) := hHd (HW2.out.trans (AppGs.below (g := withF f at_ many lf) hap HO2.out HG2.out))
 have HB3 : Hid (Below w.heap.size w w3) := hHd (HB.out.trans (HW3.out.mono (by omega)))
 have HX3 := hHd (HX.out.below HW3.out (by omega))
 have HZ3 := hHd (HZ.out.below HW3.out (by omega))
 have HO3 := hHd hap.1
 obtain ⟨L3, hL3⟩ : ∃ n, n = (withF f at_ many lf).len := ⟨_, rfl⟩
 rw [← hL3]
 have HL3 := hHd hL3
 have HV3 : Hid (FrV NdT 6 5 w3 (fun g => (ZoneZ d B w.heap.size) g ∨ (w.heap.size + 2 ≤ g ∧ g < w3.heap.size)) noB (.slice A3 L3 c3) (withF f at_ many lf)) := hHd (by
  rw [hL3]
  exact (hap.1.frv stay_nd).mono stay_nd (fun g hg => by
   rcases hg with h | h
   ·exact .inl h
   ·exact .inr (hap.1.lt g h)) (fun _ h => h))
 clear hap hwf p5 hL3
 have HX4 : Hid (Blk (w3.setCell ⟨w.heap.size, 5, none⟩ (.slice A3 L3 c3)) w.heap.size 27 (cN a (.slice A3 L3 c3))) := hHd (by
  have h := HX3.out.set_ 5 (.slice A3 L3 c3)
  simp only [layS] at h
  exact h)
 have HZ4 : Hid (Blk (w3.setCell ⟨w.heap.size, 5, none⟩ (.slice A3 L3 c3)) (w.heap.size + 1) 27 #[.string ⟨#[]⟩, .string ⟨#[]⟩, .int .i64 0, .int .u64 0, .string ⟨#[]⟩, .slice none 0 0]) := hHd (HZ3.out.far (p := ⟨w.heap.size, 5, none⟩) (by show w.heap.size + 1 ≠ w.heap.size; omega) _)
 have RZ : Hid (Blk (set6 (w3.setCell ⟨w.heap.size, 5, none⟩ (.slice A3 L3 c3)) (w.heap.size + 1) (.string (txt a.name)) (.string (txt a.key)) (.int .i64 a.kind) (.int .u64 (a.num : Int)) (.string (txt a.text)) (.slice A3 L3 c3)) (w.heap.size + 1) 27 (cN a (.slice A3 L3 c3))) := hHd (HZ4.out.set6 _ _ _ _ _ _)
 have HBZ : Hid (Below w.heap.size w (set6 (w3.setCell ⟨w.heap.size, 5, none⟩ (.slice A3 L3 c3)) (w.heap.size + 1) (.string (txt a.name)) (.string (txt a.key)) (.int .i64 a.kind) (.int .u64 (a.num : Int)) (.string (txt a.text)) (.slice A3 L3 c3))) := hHd ((HB3.out.setCell (p := ⟨w.heap.size, 5, none⟩) (Nat.le_refl _) _).trans (set6_below (by omega)))
 have HVZ : Hid (FrV NdT 6 5 (set6 (w3.setCell ⟨w.heap.size, 5, none⟩ (.slice A3 L3 c3)) (w.heap.size + 1) (.string (txt a.name)) (.string (txt a.key)) (.int .i64 a.kind) (.int .u64 (a.num : Int)) (.string (txt a.text)) (.slice A3 L3 c3)) (ZoneZ d B (set6 (w3.setCell ⟨w.heap.size, 5, none⟩ (.slice A3 L3 c3)) (w.heap.size + 1) (.string (txt a.name)) (.string (txt a.key)) (.int .i64 a.kind) (.int .u64 (a.num : Int)) (.string (txt a.text)) (.slice A3 L3 c3)).heap.size) noB (.slice A3 L3 c3) (withF f at_ many lf)) := hHd (by
  have hz : (set6 (w3.setCell ⟨w.heap.size, 5, none⟩ (.slice A3 L3 c3)) (w.heap.size + 1) (.string (txt a.name)) (.string (txt a.key)) (.int .i64 a.kind) (.int .u64 (a.num : Int)) (.string (txt a.text)) (.slice A3 L3 c3)).heap.size = w3.heap.size := by rw [set6_size]; simp [World.setCell]
  rw [hz]
  have hs := HB3.out.size
  have h12 := HDB.out
  refine FrV.kept stay_nd HV3.out (fun g hg => ?_) (fun g hg => ?_) (fun _ h => h.elim) (fun _ h => h)
  ·have hne : g ≠ w.heap.size ∧ g ≠ w.heap.size + 1 := by
    rcases hg with hg | hg
    ·have := HS.out g hg; omega
    ·omega
   exact (set6_other hne.2).trans (Below.heap_setCell _ _ _ _ hne.1)
  ·rcases hg with (h | h) | h
   ·exact .inl h
   ·exact .inr ⟨h.1, by omega⟩
   ·exact .inr ⟨by omega, h.2⟩)
 have g5 : w3.frozen? ⟨w.heap.size, 5, none⟩ = false := HX3.out.frozen 5
 have p5 := (HX3.out.cell 5).trans rfl
 obtain ⟨q0, q1, q2, q3, q4, q5⟩ := cl6 HX4.out
 have fz0 : ((w3.setCell ⟨w.heap.size, 5, none⟩ (.slice A3 L3 c3))).frozen? ⟨w.heap.size + 1, 0, none⟩ = false := HZ4.out.frozen 0
 have fq0 := (HZ4.out.cell 0).trans rfl
 have fz1 : ((w3.setCell ⟨w.heap.size, 5, none⟩ (.slice A3 L3 c3))).frozen? ⟨w.heap.size + 1, 1, none⟩ = false := HZ4.out.frozen 1
 have fq1 := (HZ4.out.cell 1).trans rfl
 have fz2 : ((w3.setCell ⟨w.heap.size, 5, none⟩ (.slice A3 L3 c3))).frozen? ⟨w.heap.size + 1, 2, none⟩ = false := HZ4.out.frozen 2
 have fq2 := (HZ4.out.cell 2).trans rfl
 have fz3 : ((w3.setCell ⟨w.heap.size, 5, none⟩ (.slice A3 L3 c3))).frozen? ⟨w.heap.size + 1, 3, none⟩ = false := HZ4.out.frozen 3
 have fq3 := (HZ4.out.cell 3).trans rfl
 have fz4 : ((w3.setCell ⟨w.heap.size, 5, none⟩ (.slice A3 L3 c3))).frozen? ⟨w.heap.size + 1, 4, none⟩ = false := HZ4.out.frozen 4
 have fq4 := (HZ4.out.cell 4).trans rfl
 have fz5 : ((w3.setCell ⟨w.heap.size, 5, none⟩ (.slice A3 L3 c3))).frozen? ⟨w.heap.size + 1, 5, none⟩ = false := HZ4.out.frozen 5
 have fq5 := (HZ4.out.cell 5).trans rfl
 go_wp2
 refine bodyPost_ret (results_cell_row rfl _ _ (w.heap.size + 1) 27 _ (0, 0) _ rfl RZ.out Try.underlying27 rfl (by kernel_rfl)) rfl ?_
 exact ⟨A3, c3, by rw [← HL3.out], by rw [← HL3.out]; exact HVZ.out, HBZ.out⟩
theorem zwith_none (d : Nat → Prop) (B : Nat) (a : NdD) (f lf : NdF)  (c : Nat) (Au : Option Addr) (ku cu : Nat) (w : World) (hd : ∀ g, d g → g < B) (hB : B ≤ w.heap.size)
  (hf : FrV NdT 6 5 w (ZoneZ d B w.heap.size) noB (.slice none 0 c) f) (hu : FrV NdT 6 5 w (ZoneZ d B w.heap.size) noB (.slice Au ku cu) lf) (hk : 0 ≤ 0) (hL : 0 ≤ 3000000) (hlu : ku ≤ 3000000)  :
  Calls Try.prog 43 #[.agg (cN a (.slice none 0 c)), .int .i64 (0 : Int), .int .i64 (0 : Int), .slice Au ku cu] w
   (fun r w' => ∃ A' c', r = .returned (.agg (cN a (.slice A' (withF f 0 0 lf).len c'))) ∧ FrV NdT 6 5 w' (ZoneZ d B w'.heap.size) noB (.slice A' (withF f 0 0 lf).len c') (withF f 0 0 lf) ∧ Below w.heap.size w w') := by
 have hLf := RowT.len (b := w.heap.size) (FrV.mono stay_nd hf (fun g hg => by rcases hg with h | h <;> (first | omega | (have h9 := hdd _ h; omega) | (have h9 := hd _ h; omega) | (have h9 := HDB.out.1 _ h; omega) | (have h9 := HD.out _ h; omega))) (fun _ h => h))
 have hLu := RowT.len (b := w.heap.size) (FrV.mono stay_nd hu (fun g hg => by rcases hg with h | h <;> (first | omega | (have h9 := hdd _ h; omega) | (have h9 := hd _ h; omega) | (have h9 := HDB.out.1 _ h; omega) | (have h9 := HD.out _ h; omega))) (fun _ h => h))
 obtain ⟨h1, h2⟩ := hLf
 obtain ⟨h3, h4⟩ := hLu
 have hb2 : Blk ((w.alloc (.cells (cN a (.slice none 0 c)) 27)).alloc (.cells #[.string ⟨#[]⟩, .string ⟨#[]⟩, .int .i64 0, .int .u64 0, .string ⟨#[]⟩, .slice none 0 0] 27)) (w.heap.size + 1) 27 #[.string ⟨#[]⟩, .string ⟨#[]⟩, .int .i64 0, .int .u64 0, .string ⟨#[]⟩, .slice none 0 0] := by
  have h := Blk.new (w.alloc (.cells (cN a (.slice none 0 c)) 27)) 27 #[.string ⟨#[]⟩, .string ⟨#[]⟩, .int .i64 0, .int .u64 0, .string ⟨#[]⟩, .slice none 0 0]
  rw [show (w.alloc (.cells (cN a (.slice none 0 c)) 27)).heap.size = w.heap.size + 1 by simp] at h
  exact h
 have hbel : Below w.heap.size w ((w.alloc (.cells (cN a (.slice none 0 c)) 27)).alloc (.cells #[.string ⟨#[]⟩, .string ⟨#[]⟩, .int .i64 0, .int .u64 0, .string ⟨#[]⟩, .slice none 0 0] 27)) := bAl.alloc (by simp) _
 have hsz : ((w.alloc (.cells (cN a (.slice none 0 c)) 27)).alloc (.cells #[.string ⟨#[]⟩, .string ⟨#[]⟩, .int .i64 0, .int .u64 0, .string ⟨#[]⟩, .slice none 0 0] 27)).heap.size = w.heap.size + 2 := by simp
 have HX := hHd ((Blk.new w 27 (cN a (.slice none 0 c))).alloc (.cells #[.string ⟨#[]⟩, .string ⟨#[]⟩, .int .i64 0, .int .u64 0, .string ⟨#[]⟩, .slice none 0 0] 27))
 have HZ := hHd hb2
 have HB := hHd hbel
 have HSZ := hHd hsz
 have HDB := hHd (And.intro hd hB)
 have HLL := hHd (And.intro h1 h3)
 have HFV := hHd hf
 have HUV := hHd hu
 have j1 : (0 : Int) ≤ (0 : Int) := by omega
 have j2 : (0 : Int) ≤ (0 : Int) := by omega
 have j3 : (0 : Int) ≤ (0 : Int) := by omega
 have j4 : (0 : Int) ≤ (c : Int) := by omega
 have j5 : (0 : Int) + (0 : Int) ≤ (0 : Int) := by omega
 have j6 : (0 : Int) ≤ 3000000 := by omega
 have j7 : (0 : Int) ≤ (0 : Int) + (0 : Int) := by omega
 have j8 : (0 : Int) ≤ (c : Int) := by omega
 have HS : Hid (∀ g, (ZoneZ d B w.heap.size) g → g < w.heap.size) := hHd (fun g hg => by rcases hg with h | h <;> (first | omega | (have h9 := hdd _ h; omega) | (have h9 := hd _ h; omega) | (have h9 := HDB.out.1 _ h; omega) | (have h9 := HD.out _ h; omega)))
 have HO0 : Hid (OwnG NdT 27 6 5 ((w.alloc (.cells (cN a (.slice none 0 c)) 27)).alloc (.cells #[.string ⟨#[]⟩, .string ⟨#[]⟩, .int .i64 0, .int .u64 0, .string ⟨#[]⟩, .slice none 0 0] 27)) (w.heap.size + 2) (ZoneZ d B w.heap.size) noB (.slice none 0 0) (.nil : NdF)) := hHd (OwnG.nilS _ _ (fun g hg => by rw [hsz]; have := HS.out g hg; omega) (fun g hg => hg.elim))
 have up : ∀ (W : World), Below w.heap.size w W → ∀ (v : Value) (x : NdF), FrV NdT 6 5 w (ZoneZ d B w.heap.size) noB v x → FrV NdT 6 5 W (ZoneZ d B w.heap.size) noB v x := fun W hW v x h => h.kept stay_nd (fun g hg => hW.block g (HS.out g hg)) (fun _ h => h) (fun _ h => h.elim) (fun _ h => h)
 have HUP := hHd up
 have HS0 : Hid (FrV NdT 6 5 ((w.alloc (.cells (cN a (.slice none 0 c)) 27)).alloc (.cells #[.string ⟨#[]⟩, .string ⟨#[]⟩, .int .i64 0, .int .u64 0, .string ⟨#[]⟩, .slice none 0 0] 27)) (ZoneZ d B w.heap.size) noB (.slice none 0 c) (Fr.take 0 f)) := hHd (up _ hbel _ _ (hf.front (by omega)))
 have HTL : Hid ((Fr.take 0 f).len = 0) := hHd (Fr.len_take _ _ (by omega))
 have HDL : Hid ((Fr.drop 0 f).len = 0 - 0) := hHd (by rw [Fr.len_drop, ← h1])
 clear hf hu hb2 hbel hsz hd hB h1 h3 up
 go_enter Try.func43, Try.ntmps43
 go_wp2_with (at_builtin; refine wpList_append_gs stay_nd one_nd Try.underlying25 Try.cellsNd rfl (by decide) rfl (.tmp 10) (.tmp 14) rfl rfl rfl HO0.out rfl HS0.out ?h1 ?h2 ?h3 ?_)
 case h1 => rw [HTL.out]; simp only [Fr.len]; omega
 case h2 => rw [HTL.out]; simp only [Fr.len]; omega
 case h3 => simp
 intro v1 w1 hap
 obtain ⟨A1, c1, rfl⟩ : ∃ A1 c1, v1 = .slice A1 0 c1 := by
  obtain ⟨A1, c1, e⟩ := hap.1.shape
  rw [show (Fr.app .nil (Fr.take 0 f)).len = 0 from HTL.out] at e
  exact ⟨A1, c1, e⟩
 have HO1 : Hid (OwnG NdT 27 6 5 w1 (w.heap.size + 2) (ZoneZ d B w.heap.size) noB (.slice A1 0 c1) (Fr.take 0 f)) := hHd hap.1
 have HW1 : Hid (Below (w.heap.size + 2) ((w.alloc (.cells (cN a (.slice none 0 c)) 27)).alloc (.cells #[.string ⟨#[]⟩, .string ⟨#[]⟩, .int .i64 0, .int .u64 0, .string ⟨#[]⟩, .slice none 0 0] 27)) w1) := hHd (AppGs.below hap HO0.out (by simp))
 have HB1 : Hid (Below w.heap.size w w1) := hHd (HB.out.trans (HW1.out.mono (by omega)))
 have HX1 := hHd (HX.out.below HW1.out (by omega))
 have HZ1 := hHd (HZ.out.below HW1.out (by omega))
 have HU1 := hHd (HUP.out w1 HB1.out _ _ HUV.out)
 have HG1 : Hid (w.heap.size + 2 ≤ w1.heap.size) := hHd (by have := HW1.out.size; rw [HSZ.out] at this; exact this)
 clear hap
 go_wp2_with (at_builtin; refine wpList_append_gs stay_nd one_nd Try.underlying25 Try.cellsNd rfl (by decide) rfl (.tmp 16) (.tmp 17) rfl rfl rfl HO1.out rfl HU1.out ?h4 ?h5 ?h6 ?_)
 case h4 => rw [HTL.out, ← HLL.out.2]; omega
 case h5 => rw [HTL.out, ← HLL.out.2]; omega
 case h6 => exact HG1.out
 intro v2 w2 hap
 obtain ⟨A2, c2, rfl⟩ : ∃ A2 c2, v2 = .slice A2 ku c2 := by
  obtain ⟨A1, c1, e⟩ := hap.1.shape
  rw [Fr.len_app, HTL.out, ← HLL.out.2] at e
  exact ⟨A1, c1, e.trans (by simp)⟩
 have HO2 : Hid (OwnG NdT 27 6 5 w2 (w.heap.size + 2) (ZoneZ d B w.heap.size) noB (.slice A2 ku c2) ((Fr.take 0 f).app lf)) := hHd hap.1
 have HW2 : Hid (Below (w.heap.size + 2) ((w.alloc (.cells (cN a (.slice none 0 c)) 27)).alloc (.cells #[.string ⟨#[]⟩, .string ⟨#[]⟩, .int .i64 0, .int .u64 0, .string ⟨#[]⟩, .slice none 0 0] 27)) w2) := hHd (HW1.out.trans (AppGs.below hap HO1.out HG1.out))
 have HB2 : Hid (Below w.heap.size w w2) := hHd (HB.out.trans (HW2.out.mono (by omega)))
 have HX2 := hHd (HX.out.below HW2.out (by omega))
 have HZ2 := hHd (HZ.out.below HW2.out (by omega))
 have p5 : w2.cell? ⟨w.heap.size, 5, none⟩ = some (.slice none 0 c) := (HX2.out.cell 5).trans rfl
 have HG2 : Hid (w.heap.size + 2 ≤ w2.heap.size) := hHd (by have := HW2.out.size; rw [HSZ.out] at this; exact this)
 clear hap
 have HS2 : Hid (FrV NdT 6 5 w2 (ZoneZ d B w.heap.size) noB (.slice none 0 c) (Fr.drop 0 f)) := hHd (HUP.out w2 HB2.out _ _ (by
  have h := HLL.out.1
  have e : Fr.drop 0 f = .nil := by rw [show (0 : Nat) = f.len by omega, Fr.drop_all]
  rw [e]
  exact FrV.none_ _ _))
 go_wp2_with (at_builtin; refine wpList_append_gs stay_nd one_nd Try.underlying25 Try.cellsNd rfl (by decide) rfl (.tmp 19) (.tmp 25) rfl rfl rfl HO2.out rfl HS2.out ?h7 ?h8 ?h9 ?_)
 case h7 => rw [Fr.len_app, HTL.out, ← HLL.out.2, HDL.out]; omega
 case h8 => rw [Fr.len_app, HTL.out, ← HLL.out.2, HDL.out]; omega
 case h9 => exact HG2.out
 intro v3 w3 hap
 have hwf : ((Fr.take 0 f).app lf).app (Fr.drop 0 f) = withF f 0 0 lf := by unfold withF; rw [Fr.app_assoc]
 rw [hwf] at hap
 obtain ⟨A3, c3, rfl⟩ := hap.1.shape
 have HW3 : Hid (Below (w.heap.size + 2) ((w.alloc (.cells (cN a (.slice none 0 c)) 27)).alloc (.cells #[.string ⟨#[]⟩, .string ⟨#[]⟩, .int .i64 0, .int .u64 0, .string ⟨#[]⟩, .slice none 0 0] 27)) w3) := hHd (HW2.out.trans (AppGs.below (g := withF f 0 0 lf) hap HO2.out HG2.out))
 have HB3 : Hid (Below w.heap.size w w3) := hHd (HB.out.trans (HW3.out.mono (by omega)))
 have HX3 := hHd (HX.out.below HW3.out (by omega))
 have HZ3 := hHd (HZ.out.below HW3.out (by omega))
 have HO3 := hHd hap.1
 obtain ⟨L3, hL3⟩ : ∃ n, n = (withF f 0 0 lf).len := ⟨_, rfl⟩
 rw [← hL3]
 have HL3 := hHd hL3
 have HV3 : Hid (FrV NdT 6 5 w3 (fun g => (ZoneZ d B w.heap.size) g ∨ (w.heap.size + 2 ≤ g ∧ g < w3.heap.size)) noB (.slice A3 L3 c3) (withF f 0 0 lf)) := hHd (by
  rw [hL3]
  exact (hap.1.frv stay_nd).mono stay_nd (fun g hg => by
   rcases hg with h | h
   ·exact .inl h
   ·exact .inr (hap.1.lt g h)) (fun _ h => h))
 clear hap hwf p5 hL3
 have HX4 : Hid (Blk (w3.setCell ⟨w.heap.size, 5, none⟩ (.slice A3 L3 c3)) w.heap.size 27 (cN a (.slice A3 L3 c3))) := hHd (by
  have h := HX3.out.set_ 5 (.slice A3 L3 c3)
  simp only [layS] at h
  exact h)
 have HZ4 : Hid (Blk (w3.setCell ⟨w.heap.size, 5, none⟩ (.slice A3 L3 c3)) (w.heap.size + 1) 27 #[.string ⟨#[]⟩, .string ⟨#[]⟩, .int .i64 0, .int .u64 0, .string ⟨#[]⟩, .slice none 0 0]) := hHd (HZ3.out.far (p := ⟨w.heap.size, 5, none⟩) (by show w.heap.size + 1 ≠ w.heap.size; omega) _)
 have RZ : Hid (Blk (set6 (w3.setCell ⟨w.heap.size, 5, none⟩ (.slice A3 L3 c3)) (w.heap.size + 1) (.string (txt a.name)) (.string (txt a.key)) (.int .i64 a.kind) (.int .u64 (a.num : Int)) (.string (txt a.text)) (.slice A3 L3 c3)) (w.heap.size + 1) 27 (cN a (.slice A3 L3 c3))) := hHd (HZ4.out.set6 _ _ _ _ _ _)
 have HBZ : Hid (Below w.heap.size w (set6 (w3.setCell ⟨w.heap.size, 5, none⟩ (.slice A3 L3 c3)) (w.heap.size + 1) (.string (txt a.name)) (.string (txt a.key)) (.int .i64 a.kind) (.int .u64 (a.num : Int)) (.string (txt a.text)) (.slice A3 L3 c3))) := hHd ((HB3.out.setCell (p := ⟨w.heap.size, 5, none⟩) (Nat.le_refl _) _).trans (set6_below (by omega)))
 have HVZ : Hid (FrV NdT 6 5 (set6 (w3.setCell ⟨w.heap.size, 5, none⟩ (.slice A3 L3 c3)) (w.heap.size + 1) (.string (txt a.name)) (.string (txt a.key)) (.int .i64 a.kind) (.int .u64 (a.num : Int)) (.string (txt a.text)) (.slice A3 L3 c3)) (ZoneZ d B (set6 (w3.setCell ⟨w.heap.size, 5, none⟩ (.slice A3 L3 c3)) (w.heap.size + 1) (.string (txt a.name)) (.string (txt a.key)) (.int .i64 a.kind) (.int .u64 (a.num : Int)) (.string (txt a.text)) (.slice A3 L3 c3)).heap.size) noB (.slice A3 L3 c3) (withF f 0 0 lf)) := hHd (by
  have hz : (set6 (w3.setCell ⟨w.heap.size, 5, none⟩ (.slice A3 L3 c3)) (w.heap.size + 1) (.string (txt a.name)) (.string (txt a.key)) (.int .i64 a.kind) (.int .u64 (a.num : Int)) (.string (txt a.text)) (.slice A3 L3 c3)).heap.size = w3.heap.size := by rw [set6_size]; simp [World.setCell]
  rw [hz]
  have hs := HB3.out.size
  have h12 := HDB.out
  refine FrV.kept stay_nd HV3.out (fun g hg => ?_) (fun g hg => ?_) (fun _ h => h.elim) (fun _ h => h)
  ·have hne : g ≠ w.heap.size ∧ g ≠ w.heap.size + 1 := by
    rcases hg with hg | hg
    ·have := HS.out g hg; omega
    ·omega
   exact (set6_other hne.2).trans (Below.heap_setCell _ _ _ _ hne.1)
  ·rcases hg with (h | h) | h
   ·exact .inl h
   ·exact .inr ⟨h.1, by omega⟩
   ·exact .inr ⟨by omega, h.2⟩)
 have g5 : w3.frozen? ⟨w.heap.size, 5, none⟩ = false := HX3.out.frozen 5
 have p5 := (HX3.out.cell 5).trans rfl
 obtain ⟨q0, q1, q2, q3, q4, q5⟩ := cl6 HX4.out
 have fz0 : ((w3.setCell ⟨w.heap.size, 5, none⟩ (.slice A3 L3 c3))).frozen? ⟨w.heap.size + 1, 0, none⟩ = false := HZ4.out.frozen 0
 have fq0 := (HZ4.out.cell 0).trans rfl
 have fz1 : ((w3.setCell ⟨w.heap.size, 5, none⟩ (.slice A3 L3 c3))).frozen? ⟨w.heap.size + 1, 1, none⟩ = false := HZ4.out.frozen 1
 have fq1 := (HZ4.out.cell 1).trans rfl
 have fz2 : ((w3.setCell ⟨w.heap.size, 5, none⟩ (.slice A3 L3 c3))).frozen? ⟨w.heap.size + 1, 2, none⟩ = false := HZ4.out.frozen 2
 have fq2 := (HZ4.out.cell 2).trans rfl
 have fz3 : ((w3.setCell ⟨w.heap.size, 5, none⟩ (.slice A3 L3 c3))).frozen? ⟨w.heap.size + 1, 3, none⟩ = false := HZ4.out.frozen 3
 have fq3 := (HZ4.out.cell 3).trans rfl
 have fz4 : ((w3.setCell ⟨w.heap.size, 5, none⟩ (.slice A3 L3 c3))).frozen? ⟨w.heap.size + 1, 4, none⟩ = false := HZ4.out.frozen 4
 have fq4 := (HZ4.out.cell 4).trans rfl
 have fz5 : ((w3.setCell ⟨w.heap.size, 5, none⟩ (.slice A3 L3 c3))).frozen? ⟨w.heap.size + 1, 5, none⟩ = false := HZ4.out.frozen 5
 have fq5 := (HZ4.out.cell 5).trans rfl
 go_wp2
 refine bodyPost_ret (results_cell_row rfl _ _ (w.heap.size + 1) 27 _ (0, 0) _ rfl RZ.out Try.underlying27 rfl (by kernel_rfl)) rfl ?_
 exact ⟨A3, c3, by rw [← HL3.out], by rw [← HL3.out]; exact HVZ.out, HBZ.out⟩
theorem zwith_empty (d : Nat → Prop) (B : Nat) (a : NdD) (f lf : NdF) (ad : Addr) (c : Nat) (Au : Option Addr) (ku cu : Nat) (w : World) (hd : ∀ g, d g → g < B) (hB : B ≤ w.heap.size)
  (hf : FrV NdT 6 5 w (ZoneZ d B w.heap.size) noB (.slice (some ad) 0 c) f) (hu : FrV NdT 6 5 w (ZoneZ d B w.heap.size) noB (.slice Au ku cu) lf) (hk : 0 ≤ 0) (hL : 0 ≤ 3000000) (hlu : ku ≤ 3000000)  :
  Calls Try.prog 43 #[.agg (cN a (.slice (some ad) 0 c)), .int .i64 (0 : Int), .int .i64 (0 : Int), .slice Au ku cu] w
   (fun r w' => ∃ A' c', r = .returned (.agg (cN a (.slice A' (withF f 0 0 lf).len c'))) ∧ FrV NdT 6 5 w' (ZoneZ d B w'.heap.size) noB (.slice A' (withF f 0 0 lf).len c') (withF f 0 0 lf) ∧ Below w.heap.size w w') := by
 have hLf := RowT.len (b := w.heap.size) (FrV.mono stay_nd hf (fun g hg => by rcases hg with h | h <;> (first | omega | (have h9 := hdd _ h; omega) | (have h9 := hd _ h; omega) | (have h9 := HDB.out.1 _ h; omega) | (have h9 := HD.out _ h; omega))) (fun _ h => h))
 have hLu := RowT.len (b := w.heap.size) (FrV.mono stay_nd hu (fun g hg => by rcases hg with h | h <;> (first | omega | (have h9 := hdd _ h; omega) | (have h9 := hd _ h; omega) | (have h9 := HDB.out.1 _ h; omega) | (have h9 := HD.out _ h; omega))) (fun _ h => h))
 obtain ⟨h1, h2⟩ := hLf
 obtain ⟨h3, h4⟩ := hLu
 have hb2 : Blk ((w.alloc (.cells (cN a (.slice (some ad) 0 c)) 27)).alloc (.cells #[.string ⟨#[]⟩, .string ⟨#[]⟩, .int .i64 0, .int .u64 0, .string ⟨#[]⟩, .slice none 0 0] 27)) (w.heap.size + 1) 27 #[.string ⟨#[]⟩, .string ⟨#[]⟩, .int .i64 0, .int .u64 0, .string ⟨#[]⟩, .slice none 0 0] := by
  have h := Blk.new (w.alloc (.cells (cN a (.slice (some ad) 0 c)) 27)) 27 #[.string ⟨#[]⟩, .string ⟨#[]⟩, .int .i64 0, .int .u64 0, .string ⟨#[]⟩, .slice none 0 0]
  rw [show (w.alloc (.cells (cN a (.slice (some ad) 0 c)) 27)).heap.size = w.heap.size + 1 by simp] at h
  exact h
 have hbel : Below w.heap.size w ((w.alloc (.cells (cN a (.slice (some ad) 0 c)) 27)).alloc (.cells #[.string ⟨#[]⟩, .string ⟨#[]⟩, .int .i64 0, .int .u64 0, .string ⟨#[]⟩, .slice none 0 0] 27)) := bAl.alloc (by simp) _
 have hsz : ((w.alloc (.cells (cN a (.slice (some ad) 0 c)) 27)).alloc (.cells #[.string ⟨#[]⟩, .string ⟨#[]⟩, .int .i64 0, .int .u64 0, .string ⟨#[]⟩, .slice none 0 0] 27)).heap.size = w.heap.size + 2 := by simp
 have HX := hHd ((Blk.new w 27 (cN a (.slice (some ad) 0 c))).alloc (.cells #[.string ⟨#[]⟩, .string ⟨#[]⟩, .int .i64 0, .int .u64 0, .string ⟨#[]⟩, .slice none 0 0] 27))
 have HZ := hHd hb2
 have HB := hHd hbel
 have HSZ := hHd hsz
 have HDB := hHd (And.intro hd hB)
 have HLL := hHd (And.intro h1 h3)
 have HFV := hHd hf
 have HUV := hHd hu
 have j1 : (0 : Int) ≤ (0 : Int) := by omega
 have j2 : (0 : Int) ≤ (0 : Int) := by omega
 have j3 : (0 : Int) ≤ (0 : Int) := by omega
 have j4 : (0 : Int) ≤ (c : Int) := by omega
 have j5 : (0 : Int) + (0 : Int) ≤ (0 : Int) := by omega
 have j6 : (0 : Int) ≤ 3000000 := by omega
 have j7 : (0 : Int) ≤ (0 : Int) + (0 : Int) := by omega
 have j8 : (0 : Int) ≤ (c : Int) := by omega
 have HS : Hid (∀ g, (ZoneZ d B w.heap.size) g → g < w.heap.size) := hHd (fun g hg => by rcases hg with h | h <;> (first | omega | (have h9 := hdd _ h; omega) | (have h9 := hd _ h; omega) | (have h9 := HDB.out.1 _ h; omega) | (have h9 := HD.out _ h; omega)))
 have HO0 : Hid (OwnG NdT 27 6 5 ((w.alloc (.cells (cN a (.slice (some ad) 0 c)) 27)).alloc (.cells #[.string ⟨#[]⟩, .string ⟨#[]⟩, .int .i64 0, .int .u64 0, .string ⟨#[]⟩, .slice none 0 0] 27)) (w.heap.size + 2) (ZoneZ d B w.heap.size) noB (.slice none 0 0) (.nil : NdF)) := hHd (OwnG.nilS _ _ (fun g hg => by rw [hsz]; have := HS.out g hg; omega) (fun g hg => hg.elim))
 have up : ∀ (W : World), Below w.heap.size w W → ∀ (v : Value) (x : NdF), FrV NdT 6 5 w (ZoneZ d B w.heap.size) noB v x → FrV NdT 6 5 W (ZoneZ d B w.heap.size) noB v x := fun W hW v x h => h.kept stay_nd (fun g hg => hW.block g (HS.out g hg)) (fun _ h => h) (fun _ h => h.elim) (fun _ h => h)
 have HUP := hHd up
 have HS0 : Hid (FrV NdT 6 5 ((w.alloc (.cells (cN a (.slice (some ad) 0 c)) 27)).alloc (.cells #[.string ⟨#[]⟩, .string ⟨#[]⟩, .int .i64 0, .int .u64 0, .string ⟨#[]⟩, .slice none 0 0] 27)) (ZoneZ d B w.heap.size) noB (.slice (some ad) 0 c) (Fr.take 0 f)) := hHd (up _ hbel _ _ (hf.front (by omega)))
 have HTL : Hid ((Fr.take 0 f).len = 0) := hHd (Fr.len_take _ _ (by omega))
 have HDL : Hid ((Fr.drop 0 f).len = 0 - 0) := hHd (by rw [Fr.len_drop, ← h1])
 clear hf hu hb2 hbel hsz hd hB h1 h3 up
 go_enter Try.func43, Try.ntmps43
 go_wp2_with (at_builtin; refine wpList_append_gs stay_nd one_nd Try.underlying25 Try.cellsNd rfl (by decide) rfl (.tmp 10) (.tmp 14) rfl rfl rfl HO0.out rfl HS0.out ?h1 ?h2 ?h3 ?_)
 case h1 => rw [HTL.out]; simp only [Fr.len]; omega
 case h2 => rw [HTL.out]; simp only [Fr.len]; omega
 case h3 => simp
 intro v1 w1 hap
 obtain ⟨A1, c1, rfl⟩ : ∃ A1 c1, v1 = .slice A1 0 c1 := by
  obtain ⟨A1, c1, e⟩ := hap.1.shape
  rw [show (Fr.app .nil (Fr.take 0 f)).len = 0 from HTL.out] at e
  exact ⟨A1, c1, e⟩
 have HO1 : Hid (OwnG NdT 27 6 5 w1 (w.heap.size + 2) (ZoneZ d B w.heap.size) noB (.slice A1 0 c1) (Fr.take 0 f)) := hHd hap.1
 have HW1 : Hid (Below (w.heap.size + 2) ((w.alloc (.cells (cN a (.slice (some ad) 0 c)) 27)).alloc (.cells #[.string ⟨#[]⟩, .string ⟨#[]⟩, .int .i64 0, .int .u64 0, .string ⟨#[]⟩, .slice none 0 0] 27)) w1) := hHd (AppGs.below hap HO0.out (by simp))
 have HB1 : Hid (Below w.heap.size w w1) := hHd (HB.out.trans (HW1.out.mono (by omega)))
 have HX1 := hHd (HX.out.below HW1.out (by omega))
 have HZ1 := hHd (HZ.out.below HW1.out (by omega))
 have HU1 := hHd (HUP.out w1 HB1.out _ _ HUV.out)
 have HG1 : Hid (w.heap.size + 2 ≤ w1.heap.size) := hHd (by have := HW1.out.size; rw [HSZ.out] at this; exact this)
 clear hap
 go_wp2_with (at_builtin; refine wpList_append_gs stay_nd one_nd Try.underlying25 Try.cellsNd rfl (by decide) rfl (.tmp 16) (.tmp 17) rfl rfl rfl HO1.out rfl HU1.out ?h4 ?h5 ?h6 ?_)
 case h4 => rw [HTL.out, ← HLL.out.2]; omega
 case h5 => rw [HTL.out, ← HLL.out.2]; omega
 case h6 => exact HG1.out
 intro v2 w2 hap
 obtain ⟨A2, c2, rfl⟩ : ∃ A2 c2, v2 = .slice A2 ku c2 := by
  obtain ⟨A1, c1, e⟩ := hap.1.shape
  rw [Fr.len_app, HTL.out, ← HLL.out.2] at e
  exact ⟨A1, c1, e.trans (by simp)⟩
 have HO2 : Hid (OwnG NdT 27 6 5 w2 (w.heap.size + 2) (ZoneZ d B w.heap.size) noB (.slice A2 ku c2) ((Fr.take 0 f).app lf)) := hHd hap.1
 have HW2 : Hid (Below (w.heap.size + 2) ((w.alloc (.cells (cN a (.slice (some ad) 0 c)) 27)).alloc (.cells #[.string ⟨#[]⟩, .string ⟨#[]⟩, .int .i64 0, .int .u64 0, .string ⟨#[]⟩, .slice none 0 0] 27)) w2) := hHd (HW1.out.trans (AppGs.below hap HO1.out HG1.out))
 have HB2 : Hid (Below w.heap.size w w2) := hHd (HB.out.trans (HW2.out.mono (by omega)))
 have HX2 := hHd (HX.out.below HW2.out (by omega))
 have HZ2 := hHd (HZ.out.below HW2.out (by omega))
 have p5 : w2.cell? ⟨w.heap.size, 5, none⟩ = some (.slice (some ad) 0 c) := (HX2.out.cell 5).trans rfl
 have HG2 : Hid (w.heap.size + 2 ≤ w2.heap.size) := hHd (by have := HW2.out.size; rw [HSZ.out] at this; exact this)
 clear hap
 have HS2 : Hid (FrV NdT 6 5 w2 (ZoneZ d B w.heap.size) noB (.slice (some ad) 0 c) (Fr.drop 0 f)) := hHd (HUP.out w2 HB2.out _ _ (by
  have h := HLL.out.1
  have e : Fr.drop 0 f = .nil := by rw [show (0 : Nat) = f.len by omega, Fr.drop_all]
  rw [e]
  exact FrV.none_ _ _))
 go_wp2_with (at_builtin; refine wpList_append_gs stay_nd one_nd Try.underlying25 Try.cellsNd rfl (by decide) rfl (.tmp 19) (.tmp 25) rfl rfl rfl HO2.out rfl HS2.out ?h7 ?h8 ?h9 ?_)
 case h7 => rw [Fr.len_app, HTL.out, ← HLL.out.2, HDL.out]; omega
 case h8 => rw [Fr.len_app, HTL.out, ← HLL.out.2, HDL.out]; omega
 case h9 => exact HG2.out
 intro v3 w3 hap
 have hwf : ((Fr.take 0 f).app lf).app (Fr.drop 0 f) = withF f 0 0 lf := by unfold withF; rw [Fr.app_assoc]
 rw [hwf] at hap
 obtain ⟨A3, c3, rfl⟩ := hap.1.shape
 have HW3 : Hid (Below (w.heap.size + 2) ((w.alloc (.cells (cN a (.slice (some ad) 0 c)) 27)).alloc (.cells #[.string ⟨#[]⟩, .string ⟨#[]⟩, .int .i64 0, .int .u64 0, .string ⟨#[]⟩, .slice none 0 0] 27)) w3) := hHd (HW2.out.trans (AppGs.below (g := withF f 0 0 lf) hap HO2.out HG2.out))
 have HB3 : Hid (Below w.heap.size w w3) := hHd (HB.out.trans (HW3.out.mono (by omega)))
 have HX3 := hHd (HX.out.below HW3.out (by omega))
 have HZ3 := hHd (HZ.out.below HW3.out (by omega))
 have HO3 := hHd hap.1
 obtain ⟨L3, hL3⟩ : ∃ n, n = (withF f 0 0 lf).len := ⟨_, rfl⟩
 rw [← hL3]
 have HL3 := hHd hL3
 have HV3 : Hid (FrV NdT 6 5 w3 (fun g => (ZoneZ d B w.heap.size) g ∨ (w.heap.size + 2 ≤ g ∧ g < w3.heap.size)) noB (.slice A3 L3 c3) (withF f 0 0 lf)) := hHd (by
  rw [hL3]
  exact (hap.1.frv stay_nd).mono stay_nd (fun g hg => by
   rcases hg with h | h
   ·exact .inl h
   ·exact .inr (hap.1.lt g h)) (fun _ h => h))
 clear hap hwf p5 hL3
 have HX4 : Hid (Blk (w3.setCell ⟨w.heap.size, 5, none⟩ (.slice A3 L3 c3)) w.heap.size 27 (cN a (.slice A3 L3 c3))) := hHd (by
  have h := HX3.out.set_ 5 (.slice A3 L3 c3)
  simp only [layS] at h
  exact h)
 have HZ4 : Hid (Blk (w3.setCell ⟨w.heap.size, 5, none⟩ (.slice A3 L3 c3)) (w.heap.size + 1) 27 #[.string ⟨#[]⟩, .string ⟨#[]⟩, .int .i64 0, .int .u64 0, .string ⟨#[]⟩, .slice none 0 0]) := hHd (HZ3.out.far (p := ⟨w.heap.size, 5, none⟩) (by show w.heap.size + 1 ≠ w.heap.size; omega) _)
 have RZ : Hid (Blk (set6 (w3.setCell ⟨w.heap.size, 5, none⟩ (.slice A3 L3 c3)) (w.heap.size + 1) (.string (txt a.name)) (.string (txt a.key)) (.int .i64 a.kind) (.int .u64 (a.num : Int)) (.string (txt a.text)) (.slice A3 L3 c3)) (w.heap.size + 1) 27 (cN a (.slice A3 L3 c3))) := hHd (HZ4.out.set6 _ _ _ _ _ _)
 have HBZ : Hid (Below w.heap.size w (set6 (w3.setCell ⟨w.heap.size, 5, none⟩ (.slice A3 L3 c3)) (w.heap.size + 1) (.string (txt a.name)) (.string (txt a.key)) (.int .i64 a.kind) (.int .u64 (a.num : Int)) (.string (txt a.text)) (.slice A3 L3 c3))) := hHd ((HB3.out.setCell (p := ⟨w.heap.size, 5, none⟩) (Nat.le_refl _) _).trans (set6_below (by omega)))
 have HVZ : Hid (FrV NdT 6 5 (set6 (w3.setCell ⟨w.heap.size, 5, none⟩ (.slice A3 L3 c3)) (w.heap.size + 1) (.string (txt a.name)) (.string (txt a.key)) (.int .i64 a.kind) (.int .u64 (a.num : Int)) (.string (txt a.text)) (.slice A3 L3 c3)) (ZoneZ d B (set6 (w3.setCell ⟨w.heap.size, 5, none⟩ (.slice A3 L3 c3)) (w.heap.size + 1) (.string (txt a.name)) (.string (txt a.key)) (.int .i64 a.kind) (.int .u64 (a.num : Int)) (.string (txt a.text)) (.slice A3 L3 c3)).heap.size) noB (.slice A3 L3 c3) (withF f 0 0 lf)) := hHd (by
  have hz : (set6 (w3.setCell ⟨w.heap.size, 5, none⟩ (.slice A3 L3 c3)) (w.heap.size + 1) (.string (txt a.name)) (.string (txt a.key)) (.int .i64 a.kind) (.int .u64 (a.num : Int)) (.string (txt a.text)) (.slice A3 L3 c3)).heap.size = w3.heap.size := by rw [set6_size]; simp [World.setCell]
  rw [hz]
  have hs := HB3.out.size
  have h12 := HDB.out
  refine FrV.kept stay_nd HV3.out (fun g hg => ?_) (fun g hg => ?_) (fun _ h => h.elim) (fun _ h => h)
  ·have hne : g ≠ w.heap.size ∧ g ≠ w.heap.size + 1 := by
    rcases hg with hg | hg
    ·have := HS.out g hg; omega
    ·omega
   exact (set6_other hne.2).trans (Below.heap_setCell _ _ _ _ hne.1)
  ·rcases hg with (h | h) | h
   ·exact .inl h
   ·exact .inr ⟨h.1, by omega⟩
   ·exact .inr ⟨by omega, h.2⟩)
 have g5 : w3.frozen? ⟨w.heap.size, 5, none⟩ = false := HX3.out.frozen 5
 have p5 := (HX3.out.cell 5).trans rfl
 obtain ⟨q0, q1, q2, q3, q4, q5⟩ := cl6 HX4.out
 have fz0 : ((w3.setCell ⟨w.heap.size, 5, none⟩ (.slice A3 L3 c3))).frozen? ⟨w.heap.size + 1, 0, none⟩ = false := HZ4.out.frozen 0
 have fq0 := (HZ4.out.cell 0).trans rfl
 have fz1 : ((w3.setCell ⟨w.heap.size, 5, none⟩ (.slice A3 L3 c3))).frozen? ⟨w.heap.size + 1, 1, none⟩ = false := HZ4.out.frozen 1
 have fq1 := (HZ4.out.cell 1).trans rfl
 have fz2 : ((w3.setCell ⟨w.heap.size, 5, none⟩ (.slice A3 L3 c3))).frozen? ⟨w.heap.size + 1, 2, none⟩ = false := HZ4.out.frozen 2
 have fq2 := (HZ4.out.cell 2).trans rfl
 have fz3 : ((w3.setCell ⟨w.heap.size, 5, none⟩ (.slice A3 L3 c3))).frozen? ⟨w.heap.size + 1, 3, none⟩ = false := HZ4.out.frozen 3
 have fq3 := (HZ4.out.cell 3).trans rfl
 have fz4 : ((w3.setCell ⟨w.heap.size, 5, none⟩ (.slice A3 L3 c3))).frozen? ⟨w.heap.size + 1, 4, none⟩ = false := HZ4.out.frozen 4
 have fq4 := (HZ4.out.cell 4).trans rfl
 have fz5 : ((w3.setCell ⟨w.heap.size, 5, none⟩ (.slice A3 L3 c3))).frozen? ⟨w.heap.size + 1, 5, none⟩ = false := HZ4.out.frozen 5
 have fq5 := (HZ4.out.cell 5).trans rfl
 go_wp2
 refine bodyPost_ret (results_cell_row rfl _ _ (w.heap.size + 1) 27 _ (0, 0) _ rfl RZ.out Try.underlying27 rfl (by kernel_rfl)) rfl ?_
 exact ⟨A3, c3, by rw [← HL3.out], by rw [← HL3.out]; exact HVZ.out, HBZ.out⟩
def WithZ (d : Nat → Prop) (B : Nat) (a : NdD) (g : NdF) (w : World) (r : Ending) (w' : World) : Prop := ∃ A' c', r = .returned (.agg (cN a (.slice A' g.len c'))) ∧ FrV NdT 6 5 w' (ZoneZ d B w'.heap.size) noB (.slice A' g.len c') g ∧ Below w.heap.size w w'
theorem zwith_any (d : Nat → Prop) (B : Nat) (a : NdD) (f lf : NdF) (A : Option Addr) (L c at_ many : Nat) (Au : Option Addr) (ku cu : Nat) (w : World) (hd : ∀ g, d g → g < B) (hB : B ≤ w.heap.size)
  (hf : FrV NdT 6 5 w (ZoneZ d B w.heap.size) noB (.slice A L c) f) (hu : FrV NdT 6 5 w (ZoneZ d B w.heap.size) noB (.slice Au ku cu) lf) (hk : at_ + many ≤ L) (hL : L ≤ 3000000) (hlu : ku ≤ 3000000) :
  Calls Try.prog 43 #[.agg (cN a (.slice A L c)), .int .i64 (at_ : Int), .int .i64 (many : Int), .slice Au ku cu] w (WithZ d B a (withF f at_ many lf) w) := by
 rcases A with _ | ⟨b, o, vw⟩
 ·have h0 : L = 0 := by
   obtain ⟨A', c', e, _, h⟩ := hf
   injection e with e1 e2 e3
   rcases Nat.eq_zero_or_pos f.len with h0 | h0
   ·omega
   ·obtain ⟨_, _, he, _⟩ := h h0
    rw [← e1] at he
    cases he
  subst h0
  obtain rfl : at_ = 0 := by omega
  obtain rfl : many = 0 := by omega
  exact zwith_none d B a f lf c Au ku cu w hd hB hf hu hk hL hlu
 ·by_cases h0 : 0 < f.len
  ·have hf' := hf
   obtain ⟨A', c', e, _, h⟩ := hf'
   injection e with e1 e2 e3
   obtain ⟨b', o', he, _⟩ := h h0
   rw [← e1] at he
   injection he with he
   injection he with e4 e5 e6
   subst e4 e5 e6
   by_cases hc : c = at_ + many
   ·subst hc
    exact zwith_all d B a f lf b o L at_ many Au ku cu w hd hB hf hu hk hL hlu
   ·exact zwith_part d B a f lf b o L c at_ many Au ku cu w hd hB hf hu hk hL hlu hc
  ·have hl0 : f = .nil := by
    cases f with
    | nil => rfl
    | cons => simp [Fr.len] at h0
   subst hl0
   have h1 : L = 0 := by
    obtain ⟨A', c', e, _⟩ := hf
    injection e with e1 e2 e3
   subst h1
   obtain rfl : at_ = 0 := by omega
   obtain rfl : many = 0 := by omega
   exact zwith_empty d B a .nil lf ⟨b, o, vw⟩ c Au ku cu w hd hB hf hu hk hL hlu
end Go.Proofs.Ythmobcaidhgeaaa
