/- Law18D -/
import Derived.Test.YtleidkpdpabkpaaGreatDoorBM24
set_option linter.unusedSimpArgs false
set_option linter.unusedVariables false
set_option maxRecDepth 100000
set_option maxHeartbeats 8000000
namespace Go.Proofs.YtleidkpdpabkpaaGreatDoor
open Go.RowKit
section
attribute [local go_sem] Oper.semAt_some
theorem editsTrees_few (Av : Option Addr) (nv : Nat) (cv : Nat) (a : NdD) (f : NdF) (A : Option Addr) (c : Nat) (b : NdD) (g : NdF) (B : Option Addr) (d : Nat) (w : World) (HA : Awake18 w) (h1 : nv < 2) : Calls Tryz.prog 5 #[.slice Av nv cv, .agg (cN a (.slice A f.len c)), .agg (cN b (.slice B g.len d))] w (Ans9 (.bool true) w) := by
 have hx1 : Below w.heap.size w ((w.alloc (.cells (cN a (.slice A f.len c)) 42)).alloc (.cells (cN b (.slice B g.len d)) 42)) := bAl.alloc (by simp) _
 have HAU := hHd (HA _ hx1)
 have HX1 := hHd hx1
 have HBK : Hid (Blk ((w.alloc (.cells (cN a (.slice A f.len c)) 42)).alloc (.cells (cN b (.slice B g.len d)) 42)) w.heap.size 42 (cN a (.slice A f.len c)) ∧ Blk ((w.alloc (.cells (cN a (.slice A f.len c)) 42)).alloc (.cells (cN b (.slice B g.len d)) 42)) (w.heap.size + 1) 42 (cN b (.slice B g.len d))) := hHd ⟨(Blk.new w 42 (cN a (.slice A f.len c))).alloc _, Blk.newA (w := w.alloc (.cells (cN a (.slice A f.len c)) 42)) (by simp) _ _⟩
 clear hx1 HA
 have n1 : decide ((nv : Int) < 2) = true := decide_eq_true (by omega)
 clear h1
 go_enter Tryz.func5, Tryz.ntmps5
 go_wp2_with fail
 refine HAU.out.mono ?_
 rintro r w1 ⟨rfl, hb1⟩
 have HB1 := hHd (HX1.out.trans (hb1.mono HX1.out.size))
 have HTx := hHd (And.intro (HBK.out.1.below hb1 HBK.out.1.lt) (HBK.out.2.below hb1 HBK.out.2.lt))
 have HWc : Hid (Below w1.heap.size w1 w1.drew) := hHd (Below.refl _ _).drew
 clear hb1
 go_wp2_with fail
 refine wp_region_noPanic ?_
 refine wp_region_held_drew (S := fun _ => True) (by kernel_rfl) trivial (fun hS => ?_)
 refine held_more (S' := fun w' => Below w1.heap.size w1 w') (fun _ _ => trivial) _ _ _ _ ?_
 replace hS := HWc.out
 refine tkH 0 hS ?_
 refine tkH 1 hS ?_
 refine tkH 2 hS ?_
 refine tkH 3 hS ?_
 refine tkHo 4 hS ?_
 refine tkHo 5 hS ?_
 refine tkHo 6 hS ?_
 refine tkH 7 hS ?_
 refine tkH 8 hS ?_
 refine tkHo 9 hS ?_
 refine tkHo 10 hS ?_
 refine tkHo 11 hS ?_
 refine tkH 12 hS ?_
 refine tkH 13 hS ?_
 refine tkHo 14 hS ?_
 refine tkHo 15 hS ?_
 refine tkHo 16 hS ?_
 refine tkHo 17 hS ?_
 refine tkHo 18 hS ?_
 refine tkHo 19 hS ?_
 refine tkH 20 hS ?_
 refine tkH 21 hS ?_
 refine tkHo 22 hS ?_
 refine tkHo 23 hS ?_
 refine tkHo 24 hS ?_
 refine tkHo 25 hS ?_
 refine tkHo 26 hS ?_
 refine tkHo 27 hS ?_
 refine tkH 28 hS ?_
 refine wpAnyH_done (by kernel_rfl) ?_ _
 refine NoPanic.normal ?_
 clear hS
 go_wp2
 go_ret
 exact ⟨rfl, HB1.out.trans (HWc.out.mono HB1.out.size)⟩
theorem editsTrees_a (Av : Option Addr) (nv : Nat) (cv : Nat) (a : NdD) (f : NdF) (A : Option Addr) (c : Nat) (b : NdD) (g : NdF) (B : Option Addr) (d : Nat) (w : World) (HA : Awake18 w) (h1 : ¬ nv < 2) (p : Nat) (C1 : ∀ W, Below w.heap.size w W → Calls Tryz.prog 16 #[.agg (cN a (.slice A f.len c))] W (Ans9 (.int .i64 (p : Int)) W)) (h2 : 300 < p) : Calls Tryz.prog 5 #[.slice Av nv cv, .agg (cN a (.slice A f.len c)), .agg (cN b (.slice B g.len d))] w (Ans9 (.bool true) w) := by
 have hx1 : Below w.heap.size w ((w.alloc (.cells (cN a (.slice A f.len c)) 42)).alloc (.cells (cN b (.slice B g.len d)) 42)) := bAl.alloc (by simp) _
 have HAU := hHd (HA _ hx1)
 have HX1 := hHd hx1
 have HBK : Hid (Blk ((w.alloc (.cells (cN a (.slice A f.len c)) 42)).alloc (.cells (cN b (.slice B g.len d)) 42)) w.heap.size 42 (cN a (.slice A f.len c)) ∧ Blk ((w.alloc (.cells (cN a (.slice A f.len c)) 42)).alloc (.cells (cN b (.slice B g.len d)) 42)) (w.heap.size + 1) 42 (cN b (.slice B g.len d))) := hHd ⟨(Blk.new w 42 (cN a (.slice A f.len c))).alloc _, Blk.newA (w := w.alloc (.cells (cN a (.slice A f.len c)) 42)) (by simp) _ _⟩
 clear hx1 HA
 have n1 : decide ((nv : Int) < 2) = false := decide_eq_false (by omega)
 have n2 : decide ((300 : Int) < (p : Int)) = true := decide_eq_true (by omega)
 have HC1 := hHd C1
 clear h1 h2 C1
 go_enter Tryz.func5, Tryz.ntmps5
 go_wp2_with fail
 refine HAU.out.mono ?_
 rintro r w1 ⟨rfl, hb1⟩
 have HB1 := hHd (HX1.out.trans (hb1.mono HX1.out.size))
 have HTx := hHd (And.intro (HBK.out.1.below hb1 HBK.out.1.lt) (HBK.out.2.below hb1 HBK.out.2.lt))
 have HWc : Hid (Below w1.heap.size w1 w1.drew) := hHd (Below.refl _ _).drew
 clear hb1
 go_wp2_with fail
 refine wp_region_noPanic ?_
 refine wp_region_held_drew (S := fun _ => True) (by kernel_rfl) trivial (fun hS => ?_)
 refine held_more (S' := fun w' => Below w1.heap.size w1 w') (fun _ _ => trivial) _ _ _ _ ?_
 replace hS := HWc.out
 refine tkH 0 hS ?_
 refine tkH 1 hS ?_
 refine tkH 2 hS ?_
 refine tkH 3 hS ?_
 refine tkH 4 hS ?_ (hy := fun w hSw => by obtain ⟨p0, p1, p2, p3, p4, p5⟩ := cl6 (HTx.out.1.below hSw HTx.out.1.lt); (go_simp <;> with_reducible rfl))
 refine rdy1 5 fun K hK => ?_
 go_simp
 refine (HC1.out _ (HB1.out.trans (HWc.out.mono HB1.out.size))).mono ?_
 rintro r w5 ⟨rfl, hb⟩
 replace HWc := hHd (HWc.out.trans (hb.mono HWc.out.size))
 clear hb
 go_wp2_with fail
 refine hK.out _ _ ?sr_0 (fun hS => ?_)
 case sr_0 => (exact HWc.out)
 clear hK K
 (try simp only [Act.put, layS])
 refine tkH 6 hS ?_
 refine tkH 7 hS ?_
 refine tkH 8 hS ?_
 refine tkHo 9 hS ?_
 refine tkHo 10 hS ?_
 refine tkHo 11 hS ?_
 refine tkH 12 hS ?_
 refine tkH 13 hS ?_
 refine tkHo 14 hS ?_
 refine tkHo 15 hS ?_
 refine tkHo 16 hS ?_
 refine tkHo 17 hS ?_
 refine tkHo 18 hS ?_
 refine tkHo 19 hS ?_
 refine tkH 20 hS ?_
 refine tkH 21 hS ?_
 refine tkHo 22 hS ?_
 refine tkHo 23 hS ?_
 refine tkHo 24 hS ?_
 refine tkHo 25 hS ?_
 refine tkHo 26 hS ?_
 refine tkHo 27 hS ?_
 refine tkH 28 hS ?_
 refine wpAnyH_done (by kernel_rfl) ?_ _
 refine NoPanic.normal ?_
 clear hS
 go_wp2
 go_ret
 exact ⟨rfl, HB1.out.trans (HWc.out.mono HB1.out.size)⟩
theorem editsTrees_b (Av : Option Addr) (nv : Nat) (cv : Nat) (a : NdD) (f : NdF) (A : Option Addr) (c : Nat) (b : NdD) (g : NdF) (B : Option Addr) (d : Nat) (w : World) (HA : Awake18 w) (h1 : ¬ nv < 2) (p : Nat) (C1 : ∀ W, Below w.heap.size w W → Calls Tryz.prog 16 #[.agg (cN a (.slice A f.len c))] W (Ans9 (.int .i64 (p : Int)) W)) (h2 : ¬ 300 < p) (q : Nat) (C2 : ∀ W, Below w.heap.size w W → Calls Tryz.prog 16 #[.agg (cN b (.slice B g.len d))] W (Ans9 (.int .i64 (q : Int)) W)) (h3 : 300 < q) : Calls Tryz.prog 5 #[.slice Av nv cv, .agg (cN a (.slice A f.len c)), .agg (cN b (.slice B g.len d))] w (Ans9 (.bool true) w) := by
 have hx1 : Below w.heap.size w ((w.alloc (.cells (cN a (.slice A f.len c)) 42)).alloc (.cells (cN b (.slice B g.len d)) 42)) := bAl.alloc (by simp) _
 have HAU := hHd (HA _ hx1)
 have HX1 := hHd hx1
 have HBK : Hid (Blk ((w.alloc (.cells (cN a (.slice A f.len c)) 42)).alloc (.cells (cN b (.slice B g.len d)) 42)) w.heap.size 42 (cN a (.slice A f.len c)) ∧ Blk ((w.alloc (.cells (cN a (.slice A f.len c)) 42)).alloc (.cells (cN b (.slice B g.len d)) 42)) (w.heap.size + 1) 42 (cN b (.slice B g.len d))) := hHd ⟨(Blk.new w 42 (cN a (.slice A f.len c))).alloc _, Blk.newA (w := w.alloc (.cells (cN a (.slice A f.len c)) 42)) (by simp) _ _⟩
 clear hx1 HA
 have n1 : decide ((nv : Int) < 2) = false := decide_eq_false (by omega)
 have n2 : decide ((300 : Int) < (p : Int)) = false := decide_eq_false (by omega)
 have n3 : decide ((300 : Int) < (q : Int)) = true := decide_eq_true (by omega)
 have HC1 := hHd C1
 have HC2 := hHd C2
 clear h1 h2 h3 C1 C2
 go_enter Tryz.func5, Tryz.ntmps5
 go_wp2_with fail
 refine HAU.out.mono ?_
 rintro r w1 ⟨rfl, hb1⟩
 have HB1 := hHd (HX1.out.trans (hb1.mono HX1.out.size))
 have HTx := hHd (And.intro (HBK.out.1.below hb1 HBK.out.1.lt) (HBK.out.2.below hb1 HBK.out.2.lt))
 have HWc : Hid (Below w1.heap.size w1 w1.drew) := hHd (Below.refl _ _).drew
 clear hb1
 go_wp2_with fail
 refine wp_region_noPanic ?_
 refine wp_region_held_drew (S := fun _ => True) (by kernel_rfl) trivial (fun hS => ?_)
 refine held_more (S' := fun w' => Below w1.heap.size w1 w') (fun _ _ => trivial) _ _ _ _ ?_
 replace hS := HWc.out
 refine tkH 0 hS ?_
 refine tkH 1 hS ?_
 refine tkH 2 hS ?_
 refine tkH 3 hS ?_
 refine tkH 4 hS ?_ (hy := fun w hSw => by obtain ⟨p0, p1, p2, p3, p4, p5⟩ := cl6 (HTx.out.1.below hSw HTx.out.1.lt); (go_simp <;> with_reducible rfl))
 refine rdy1 5 fun K hK => ?_
 go_simp
 refine (HC1.out _ (HB1.out.trans (HWc.out.mono HB1.out.size))).mono ?_
 rintro r w5 ⟨rfl, hb⟩
 replace HWc := hHd (HWc.out.trans (hb.mono HWc.out.size))
 clear hb
 go_wp2_with fail
 refine hK.out _ _ ?sr_1 (fun hS => ?_)
 case sr_1 => (exact HWc.out)
 clear hK K
 (try simp only [Act.put, layS])
 refine tkH 6 hS ?_
 refine tkH 7 hS ?_
 refine tkH 8 hS ?_
 refine tkH 9 hS ?_ (hy := fun w hSw => by obtain ⟨p0, p1, p2, p3, p4, p5⟩ := cl6 (HTx.out.2.below hSw HTx.out.2.lt); (go_simp <;> with_reducible rfl))
 refine rdy1 10 fun K hK => ?_
 go_simp
 refine (HC2.out _ (HB1.out.trans (HWc.out.mono HB1.out.size))).mono ?_
 rintro r w10 ⟨rfl, hb⟩
 replace HWc := hHd (HWc.out.trans (hb.mono HWc.out.size))
 clear hb
 go_wp2_with fail
 refine hK.out _ _ ?sr_2 (fun hS => ?_)
 case sr_2 => (exact HWc.out)
 clear hK K
 (try simp only [Act.put, layS])
 refine tkH 11 hS ?_
 refine tkH 12 hS ?_
 refine tkH 13 hS ?_
 refine tkHo 14 hS ?_
 refine tkHo 15 hS ?_
 refine tkHo 16 hS ?_
 refine tkHo 17 hS ?_
 refine tkHo 18 hS ?_
 refine tkHo 19 hS ?_
 refine tkH 20 hS ?_
 refine tkH 21 hS ?_
 refine tkHo 22 hS ?_
 refine tkHo 23 hS ?_
 refine tkHo 24 hS ?_
 refine tkHo 25 hS ?_
 refine tkHo 26 hS ?_
 refine tkHo 27 hS ?_
 refine tkH 28 hS ?_
 refine wpAnyH_done (by kernel_rfl) ?_ _
 refine NoPanic.normal ?_
 clear hS
 go_wp2
 go_ret
 exact ⟨rfl, HB1.out.trans (HWc.out.mono HB1.out.size)⟩
theorem editsTrees_ma (nv : Nat) (cv : Nat) (a : NdD) (f : NdF) (A : Option Addr) (c : Nat) (b : NdD) (g : NdF) (B : Option Addr) (d : Nat) (w : World) (HA : Awake18 w) (h1 : ¬ nv < 2) (p : Nat) (C1 : ∀ W, Below w.heap.size w W → Calls Tryz.prog 16 #[.agg (cN a (.slice A f.len c))] W (Ans9 (.int .i64 (p : Int)) W)) (h2 : ¬ 300 < p) (q : Nat) (C2 : ∀ W, Below w.heap.size w W → Calls Tryz.prog 16 #[.agg (cN b (.slice B g.len d))] W (Ans9 (.int .i64 (q : Int)) W)) (h3 : ¬ 300 < q) (xb xo : Nat) (v ve : Int) (v0 : w.cell? ⟨xb, xo, none⟩ = some (.int .i64 v)) (v1 : w.cell? ⟨xb, xo + 1, none⟩ = some (.int .i64 ve)) (ma : Bool) (C3 : ∀ W, Below w.heap.size w W → Calls Tryz.prog 17 #[.int .i64 v, .agg (cN a (.slice A f.len c))] W (Ans9 (.bool ma) W)) (h4 : ma = false) : Calls Tryz.prog 5 #[.slice (some ⟨xb, xo, none⟩) nv cv, .agg (cN a (.slice A f.len c)), .agg (cN b (.slice B g.len d))] w (Ans9 (.bool true) w) := by
 subst h4
 have hx1 : Below w.heap.size w ((w.alloc (.cells (cN a (.slice A f.len c)) 42)).alloc (.cells (cN b (.slice B g.len d)) 42)) := bAl.alloc (by simp) _
 have HAU := hHd (HA _ hx1)
 have HX1 := hHd hx1
 have HBK : Hid (Blk ((w.alloc (.cells (cN a (.slice A f.len c)) 42)).alloc (.cells (cN b (.slice B g.len d)) 42)) w.heap.size 42 (cN a (.slice A f.len c)) ∧ Blk ((w.alloc (.cells (cN a (.slice A f.len c)) 42)).alloc (.cells (cN b (.slice B g.len d)) 42)) (w.heap.size + 1) 42 (cN b (.slice B g.len d))) := hHd ⟨(Blk.new w 42 (cN a (.slice A f.len c))).alloc _, Blk.newA (w := w.alloc (.cells (cN a (.slice A f.len c)) 42)) (by simp) _ _⟩
 clear hx1 HA
 have n1 : decide ((nv : Int) < 2) = false := decide_eq_false (by omega)
 have n2 : decide ((300 : Int) < (p : Int)) = false := decide_eq_false (by omega)
 have n3 : decide ((300 : Int) < (q : Int)) = false := decide_eq_false (by omega)
 have HC1 := hHd C1
 have HC2 := hHd C2
 have HC3 := hHd C3
 clear C1 C2 C3
 go_enter Tryz.func5, Tryz.ntmps5
 go_wp2_with fail
 refine HAU.out.mono ?_
 rintro r w1 ⟨rfl, hb1⟩
 have HB1 := hHd (HX1.out.trans (hb1.mono HX1.out.size))
 have HTx := hHd (And.intro (HBK.out.1.below hb1 HBK.out.1.lt) (HBK.out.2.below hb1 HBK.out.2.lt))
 have HWc : Hid (Below w1.heap.size w1 w1.drew) := hHd (Below.refl _ _).drew
 clear hb1
 have m0 : Hid (xb < w1.heap.size ∧ w1.cell? ⟨xb, xo, none⟩ = some (.int .i64 v)) := hHd (by
  have h : xb < w.heap.size := World.block_lt_of_cell? _ _ v0
  exact ⟨Nat.lt_of_lt_of_le h HB1.out.size, (HB1.out.cell h).trans v0⟩)
 have m1 : Hid (xb < w1.heap.size ∧ w1.cell? ⟨xb, xo + 1, none⟩ = some (.int .i64 ve)) := hHd (by
  have h : xb < w.heap.size := World.block_lt_of_cell? _ _ v1
  exact ⟨Nat.lt_of_lt_of_le h HB1.out.size, (HB1.out.cell h).trans v1⟩)
 have i0 : 0 < nv := by omega
 have i1 : 1 < nv := by omega
 have i2 : (0 : Int) < (nv : Int) := by omega
 have i3 : (1 : Int) < (nv : Int) := by omega
 clear v0 v1
 clear h1 h2 h3
 go_wp2_with fail
 refine wp_region_noPanic ?_
 refine wp_region_held_drew (S := fun _ => True) (by kernel_rfl) trivial (fun hS => ?_)
 refine held_more (S' := fun w' => Below w1.heap.size w1 w') (fun _ _ => trivial) _ _ _ _ ?_
 replace hS := HWc.out
 refine tkH 0 hS ?_
 refine tkH 1 hS ?_
 refine tkH 2 hS ?_
 refine tkH 3 hS ?_
 refine tkH 4 hS ?_ (hy := fun w hSw => by obtain ⟨p0, p1, p2, p3, p4, p5⟩ := cl6 (HTx.out.1.below hSw HTx.out.1.lt); (go_simp <;> with_reducible rfl))
 refine rdy1 5 fun K hK => ?_
 go_simp
 refine (HC1.out _ (HB1.out.trans (HWc.out.mono HB1.out.size))).mono ?_
 rintro r w5 ⟨rfl, hb⟩
 replace HWc := hHd (HWc.out.trans (hb.mono HWc.out.size))
 clear hb
 go_wp2_with fail
 refine hK.out _ _ ?sr_3 (fun hS => ?_)
 case sr_3 => (exact HWc.out)
 clear hK K
 (try simp only [Act.put, layS])
 refine tkH 6 hS ?_
 refine tkH 7 hS ?_
 refine tkH 8 hS ?_
 refine tkH 9 hS ?_ (hy := fun w hSw => by obtain ⟨p0, p1, p2, p3, p4, p5⟩ := cl6 (HTx.out.2.below hSw HTx.out.2.lt); (go_simp <;> with_reducible rfl))
 refine rdy1 10 fun K hK => ?_
 go_simp
 refine (HC2.out _ (HB1.out.trans (HWc.out.mono HB1.out.size))).mono ?_
 rintro r w10 ⟨rfl, hb⟩
 replace HWc := hHd (HWc.out.trans (hb.mono HWc.out.size))
 clear hb
 go_wp2_with fail
 refine hK.out _ _ ?sr_4 (fun hS => ?_)
 case sr_4 => (exact HWc.out)
 clear hK K
 (try simp only [Act.put, layS])
 refine tkH 11 hS ?_
 refine tkH 12 hS ?_
 refine tkH 13 hS ?_
 refine tkH 14 hS ?_
 refine tkH 15 hS ?_
 refine tkH 16 hS ?_ (hy := fun w hSw => by have za := (hSw.cell (p := ⟨xb, xo, none⟩) m0.out.1).trans m0.out.2; (go_simp <;> with_reducible rfl))
 refine tkH 17 hS ?_ (hy := fun w hSw => by obtain ⟨p0, p1, p2, p3, p4, p5⟩ := cl6 (HTx.out.1.below hSw HTx.out.1.lt); (go_simp <;> with_reducible rfl))
 refine rdy1 18 fun K hK => ?_
 go_simp
 refine (HC3.out _ (HB1.out.trans (HWc.out.mono HB1.out.size))).mono ?_
 rintro r w18 ⟨rfl, hb⟩
 replace HWc := hHd (HWc.out.trans (hb.mono HWc.out.size))
 clear hb
 go_wp2_with fail
 refine hK.out _ _ ?sr_5 (fun hS => ?_)
 case sr_5 => (exact HWc.out)
 clear hK K
 (try simp only [Act.put, layS])
 refine tkH 19 hS ?_
 refine tkH 20 hS ?_
 refine tkH 21 hS ?_
 refine tkHo 22 hS ?_
 refine tkHo 23 hS ?_
 refine tkHo 24 hS ?_
 refine tkHo 25 hS ?_
 refine tkHo 26 hS ?_
 refine tkHo 27 hS ?_
 refine tkH 28 hS ?_
 refine wpAnyH_done (by kernel_rfl) ?_ _
 refine NoPanic.normal ?_
 clear hS
 go_wp2
 go_ret
 exact ⟨rfl, HB1.out.trans (HWc.out.mono HB1.out.size)⟩
theorem editsTrees_mb (nv : Nat) (cv : Nat) (a : NdD) (f : NdF) (A : Option Addr) (c : Nat) (b : NdD) (g : NdF) (B : Option Addr) (d : Nat) (w : World) (HA : Awake18 w) (h1 : ¬ nv < 2) (p : Nat) (C1 : ∀ W, Below w.heap.size w W → Calls Tryz.prog 16 #[.agg (cN a (.slice A f.len c))] W (Ans9 (.int .i64 (p : Int)) W)) (h2 : ¬ 300 < p) (q : Nat) (C2 : ∀ W, Below w.heap.size w W → Calls Tryz.prog 16 #[.agg (cN b (.slice B g.len d))] W (Ans9 (.int .i64 (q : Int)) W)) (h3 : ¬ 300 < q) (xb xo : Nat) (v ve : Int) (v0 : w.cell? ⟨xb, xo, none⟩ = some (.int .i64 v)) (v1 : w.cell? ⟨xb, xo + 1, none⟩ = some (.int .i64 ve)) (ma : Bool) (C3 : ∀ W, Below w.heap.size w W → Calls Tryz.prog 17 #[.int .i64 v, .agg (cN a (.slice A f.len c))] W (Ans9 (.bool ma) W)) (h4 : ma = true) (mb : Bool) (C4 : ∀ W, Below w.heap.size w W → Calls Tryz.prog 17 #[.int .i64 ve, .agg (cN b (.slice B g.len d))] W (Ans9 (.bool mb) W)) (h5 : mb = false) : Calls Tryz.prog 5 #[.slice (some ⟨xb, xo, none⟩) nv cv, .agg (cN a (.slice A f.len c)), .agg (cN b (.slice B g.len d))] w (Ans9 (.bool true) w) := by
 subst h4 h5
 have hx1 : Below w.heap.size w ((w.alloc (.cells (cN a (.slice A f.len c)) 42)).alloc (.cells (cN b (.slice B g.len d)) 42)) := bAl.alloc (by simp) _
 have HAU := hHd (HA _ hx1)
 have HX1 := hHd hx1
 have HBK : Hid (Blk ((w.alloc (.cells (cN a (.slice A f.len c)) 42)).alloc (.cells (cN b (.slice B g.len d)) 42)) w.heap.size 42 (cN a (.slice A f.len c)) ∧ Blk ((w.alloc (.cells (cN a (.slice A f.len c)) 42)).alloc (.cells (cN b (.slice B g.len d)) 42)) (w.heap.size + 1) 42 (cN b (.slice B g.len d))) := hHd ⟨(Blk.new w 42 (cN a (.slice A f.len c))).alloc _, Blk.newA (w := w.alloc (.cells (cN a (.slice A f.len c)) 42)) (by simp) _ _⟩
 clear hx1 HA
 have n1 : decide ((nv : Int) < 2) = false := decide_eq_false (by omega)
 have n2 : decide ((300 : Int) < (p : Int)) = false := decide_eq_false (by omega)
 have n3 : decide ((300 : Int) < (q : Int)) = false := decide_eq_false (by omega)
 have HC1 := hHd C1
 have HC2 := hHd C2
 have HC3 := hHd C3
 have HC4 := hHd C4
 clear C1 C2 C3 C4
 go_enter Tryz.func5, Tryz.ntmps5
 go_wp2_with fail
 refine HAU.out.mono ?_
 rintro r w1 ⟨rfl, hb1⟩
 have HB1 := hHd (HX1.out.trans (hb1.mono HX1.out.size))
 have HTx := hHd (And.intro (HBK.out.1.below hb1 HBK.out.1.lt) (HBK.out.2.below hb1 HBK.out.2.lt))
 have HWc : Hid (Below w1.heap.size w1 w1.drew) := hHd (Below.refl _ _).drew
 clear hb1
 have m0 : Hid (xb < w1.heap.size ∧ w1.cell? ⟨xb, xo, none⟩ = some (.int .i64 v)) := hHd (by
  have h : xb < w.heap.size := World.block_lt_of_cell? _ _ v0
  exact ⟨Nat.lt_of_lt_of_le h HB1.out.size, (HB1.out.cell h).trans v0⟩)
 have m1 : Hid (xb < w1.heap.size ∧ w1.cell? ⟨xb, xo + 1, none⟩ = some (.int .i64 ve)) := hHd (by
  have h : xb < w.heap.size := World.block_lt_of_cell? _ _ v1
  exact ⟨Nat.lt_of_lt_of_le h HB1.out.size, (HB1.out.cell h).trans v1⟩)
 have i0 : 0 < nv := by omega
 have i1 : 1 < nv := by omega
 have i2 : (0 : Int) < (nv : Int) := by omega
 have i3 : (1 : Int) < (nv : Int) := by omega
 clear v0 v1
 clear h1 h2 h3
 go_wp2_with fail
 refine wp_region_noPanic ?_
 refine wp_region_held_drew (S := fun _ => True) (by kernel_rfl) trivial (fun hS => ?_)
 refine held_more (S' := fun w' => Below w1.heap.size w1 w') (fun _ _ => trivial) _ _ _ _ ?_
 replace hS := HWc.out
 refine tkH 0 hS ?_
 refine tkH 1 hS ?_
 refine tkH 2 hS ?_
 refine tkH 3 hS ?_
 refine tkH 4 hS ?_ (hy := fun w hSw => by obtain ⟨p0, p1, p2, p3, p4, p5⟩ := cl6 (HTx.out.1.below hSw HTx.out.1.lt); (go_simp <;> with_reducible rfl))
 refine rdy1 5 fun K hK => ?_
 go_simp
 refine (HC1.out _ (HB1.out.trans (HWc.out.mono HB1.out.size))).mono ?_
 rintro r w5 ⟨rfl, hb⟩
 replace HWc := hHd (HWc.out.trans (hb.mono HWc.out.size))
 clear hb
 go_wp2_with fail
 refine hK.out _ _ ?sr_6 (fun hS => ?_)
 case sr_6 => (exact HWc.out)
 clear hK K
 (try simp only [Act.put, layS])
 refine tkH 6 hS ?_
 refine tkH 7 hS ?_
 refine tkH 8 hS ?_
 refine tkH 9 hS ?_ (hy := fun w hSw => by obtain ⟨p0, p1, p2, p3, p4, p5⟩ := cl6 (HTx.out.2.below hSw HTx.out.2.lt); (go_simp <;> with_reducible rfl))
 refine rdy1 10 fun K hK => ?_
 go_simp
 refine (HC2.out _ (HB1.out.trans (HWc.out.mono HB1.out.size))).mono ?_
 rintro r w10 ⟨rfl, hb⟩
 replace HWc := hHd (HWc.out.trans (hb.mono HWc.out.size))
 clear hb
 go_wp2_with fail
 refine hK.out _ _ ?sr_7 (fun hS => ?_)
 case sr_7 => (exact HWc.out)
 clear hK K
 (try simp only [Act.put, layS])
 refine tkH 11 hS ?_
 refine tkH 12 hS ?_
 refine tkH 13 hS ?_
 refine tkH 14 hS ?_
 refine tkH 15 hS ?_
 refine tkH 16 hS ?_ (hy := fun w hSw => by have za := (hSw.cell (p := ⟨xb, xo, none⟩) m0.out.1).trans m0.out.2; (go_simp <;> with_reducible rfl))
 refine tkH 17 hS ?_ (hy := fun w hSw => by obtain ⟨p0, p1, p2, p3, p4, p5⟩ := cl6 (HTx.out.1.below hSw HTx.out.1.lt); (go_simp <;> with_reducible rfl))
 refine rdy1 18 fun K hK => ?_
 go_simp
 refine (HC3.out _ (HB1.out.trans (HWc.out.mono HB1.out.size))).mono ?_
 rintro r w18 ⟨rfl, hb⟩
 replace HWc := hHd (HWc.out.trans (hb.mono HWc.out.size))
 clear hb
 go_wp2_with fail
 refine hK.out _ _ ?sr_8 (fun hS => ?_)
 case sr_8 => (exact HWc.out)
 clear hK K
 (try simp only [Act.put, layS])
 refine tkH 19 hS ?_
 refine tkH 20 hS ?_
 refine tkH 21 hS ?_
 refine tkH 22 hS ?_
 refine tkH 23 hS ?_
 refine tkH 24 hS ?_ (hy := fun w hSw => by have za := (hSw.cell (p := ⟨xb, xo + 1, none⟩) m1.out.1).trans m1.out.2; (go_simp <;> with_reducible rfl))
 refine tkH 25 hS ?_ (hy := fun w hSw => by obtain ⟨p0, p1, p2, p3, p4, p5⟩ := cl6 (HTx.out.2.below hSw HTx.out.2.lt); (go_simp <;> with_reducible rfl))
 refine rdy1 26 fun K hK => ?_
 go_simp
 refine (HC4.out _ (HB1.out.trans (HWc.out.mono HB1.out.size))).mono ?_
 rintro r w26 ⟨rfl, hb⟩
 replace HWc := hHd (HWc.out.trans (hb.mono HWc.out.size))
 clear hb
 go_wp2_with fail
 refine hK.out _ _ ?sr_9 (fun hS => ?_)
 case sr_9 => (exact HWc.out)
 clear hK K
 (try simp only [Act.put, layS])
 refine tkH 27 hS ?_
 refine tkH 28 hS ?_
 refine wpAnyH_done (by kernel_rfl) ?_ _
 refine NoPanic.normal ?_
 clear hS
 go_wp2
 go_ret
 exact ⟨rfl, HB1.out.trans (HWc.out.mono HB1.out.size)⟩
theorem editsTrees_fit (nv : Nat) (cv : Nat) (a : NdD) (f : NdF) (A : Option Addr) (c : Nat) (b : NdD) (g : NdF) (B : Option Addr) (d : Nat) (w : World) (HA : Awake18 w) (h1 : ¬ nv < 2) (p : Nat) (C1 : ∀ W, Below w.heap.size w W → Calls Tryz.prog 16 #[.agg (cN a (.slice A f.len c))] W (Ans9 (.int .i64 (p : Int)) W)) (h2 : ¬ 300 < p) (q : Nat) (C2 : ∀ W, Below w.heap.size w W → Calls Tryz.prog 16 #[.agg (cN b (.slice B g.len d))] W (Ans9 (.int .i64 (q : Int)) W)) (h3 : ¬ 300 < q) (xb xo : Nat) (v ve : Int) (v0 : w.cell? ⟨xb, xo, none⟩ = some (.int .i64 v)) (v1 : w.cell? ⟨xb, xo + 1, none⟩ = some (.int .i64 ve)) (ma : Bool) (C3 : ∀ W, Below w.heap.size w W → Calls Tryz.prog 17 #[.int .i64 v, .agg (cN a (.slice A f.len c))] W (Ans9 (.bool ma) W)) (h4 : ma = true) (mb : Bool) (C4 : ∀ W, Below w.heap.size w W → Calls Tryz.prog 17 #[.int .i64 ve, .agg (cN b (.slice B g.len d))] W (Ans9 (.bool mb) W)) (h5 : mb = true) (C : EdtC w) (l : List EdD) (hok : OkL18 l) (hall : l.all okE18 = true) (hed : ∀ W, Below w.heap.size w W → Calls Tryz.prog 18 #[.agg (cN a (.slice A f.len c)), .agg (cN b (.slice B g.len d))] W (InvP l W)) (F : Fo) (hF : F = itsE18 leastB l) (P : List UInt8) (pe : Nat) (hp : putX18 leastB l = (P, pe)) (hpe : pe = 0) : Calls Tryz.prog 5 #[.slice (some ⟨xb, xo, none⟩) nv cv, .agg (cN a (.slice A f.len c)), .agg (cN b (.slice B g.len d))] w (Ans9 (.bool true) w) := by
 subst h4 h5
 have hx1 : Below w.heap.size w ((w.alloc (.cells (cN a (.slice A f.len c)) 42)).alloc (.cells (cN b (.slice B g.len d)) 42)) := bAl.alloc (by simp) _
 have HAU := hHd (HA _ hx1)
 have HX1 := hHd hx1
 have HBK : Hid (Blk ((w.alloc (.cells (cN a (.slice A f.len c)) 42)).alloc (.cells (cN b (.slice B g.len d)) 42)) w.heap.size 42 (cN a (.slice A f.len c)) ∧ Blk ((w.alloc (.cells (cN a (.slice A f.len c)) 42)).alloc (.cells (cN b (.slice B g.len d)) 42)) (w.heap.size + 1) 42 (cN b (.slice B g.len d))) := hHd ⟨(Blk.new w 42 (cN a (.slice A f.len c))).alloc _, Blk.newA (w := w.alloc (.cells (cN a (.slice A f.len c)) 42)) (by simp) _ _⟩
 clear hx1 HA
 have n1 : decide ((nv : Int) < 2) = false := decide_eq_false (by omega)
 have n2 : decide ((300 : Int) < (p : Int)) = false := decide_eq_false (by omega)
 have n3 : decide ((300 : Int) < (q : Int)) = false := decide_eq_false (by omega)
 have HC1 := hHd C1
 have HC2 := hHd C2
 have HC3 := hHd C3
 have HC4 := hHd C4
 have HED := hHd hed
 have HPL : Hid (P.length ≤ 8192) := hHd (by have h := put_len18 l; rw [hp] at h; exact h)
 have HPU : Hid (∀ W u, EdsV (Bel W) W u l → Below w.heap.size w W → Calls Tryz.prog 9 #[u] W (fun r w' => ∃ d A c, r = .returned (.tuple #[.slice A P.length c, .int .i64 (pe : Int)]) ∧ Rd w' d (.slice A P.length c) P ∧ d < w'.heap.size ∧ Below W.heap.size W w')) := hHd fun W u hu hW => (by have h := C.put l u W hu hok hW; rw [hp] at h; exact h)
 have HGE : Hid (∀ W d B e, Rd W d (.slice B P.length e) P → d < W.heap.size → Below w.heap.size w W → Calls Tryz.prog 13 #[.slice B P.length e] W (GetP18 P W)) := hHd fun W d B e hr hd hW => C.get P _ d W hr (by have := HPL.out; omega) hW
 have HCK : Hid (∀ W u, EdsV (Bel W) W u l → Below w.heap.size w W → Calls Tryz.prog 11 #[u] W (Ans9 (.bool true) W)) := hHd fun W u hu hW => (by have h := C.check l u W hu hok hW; rw [hall] at h; exact h)
 have HIT : Hid (∀ W u, EdsV (Bel W) W u l → Calls Tryz.prog 20 #[u] W (ItsP18 F W)) := hHd fun W u hu => hF ▸ ritems18_any l u W hu hok.1 hok.2.1 (fun e he => List.all_eq_true.1 hall e he)
 have HSZ : Hid (F.sz ≤ 1099511627776) := hHd (hF ▸ hok.2.2.1)
 have HNM := hHd hok.num
 have HFE := hHd hok.few
 have HPE := hHd hp
 clear C1 C2 C3 C4 hed C hok hall hF hp
 have y1 : ((pe : Int) == 0) = true := by simp [hpe]
 have y2 : ((pe : Int) != 0) = false := by simp [hpe]
 have HGX : Hid (getX18 leastB V18 P = (l, 0)) := hHd (put_get (fun n hn => V_least18 n hn) (show putX18 leastB l = (P, 0) by rw [HPE.out, hpe]) HNM.out)
 clear hpe
 go_enter Tryz.func5, Tryz.ntmps5
 go_wp2_with fail
 refine HAU.out.mono ?_
 rintro r w1 ⟨rfl, hb1⟩
 have HB1 := hHd (HX1.out.trans (hb1.mono HX1.out.size))
 have HTx := hHd (And.intro (HBK.out.1.below hb1 HBK.out.1.lt) (HBK.out.2.below hb1 HBK.out.2.lt))
 have HWc : Hid (Below w1.heap.size w1 w1.drew) := hHd (Below.refl _ _).drew
 clear hb1
 have m0 : Hid (xb < w1.heap.size ∧ w1.cell? ⟨xb, xo, none⟩ = some (.int .i64 v)) := hHd (by
  have h : xb < w.heap.size := World.block_lt_of_cell? _ _ v0
  exact ⟨Nat.lt_of_lt_of_le h HB1.out.size, (HB1.out.cell h).trans v0⟩)
 have m1 : Hid (xb < w1.heap.size ∧ w1.cell? ⟨xb, xo + 1, none⟩ = some (.int .i64 ve)) := hHd (by
  have h : xb < w.heap.size := World.block_lt_of_cell? _ _ v1
  exact ⟨Nat.lt_of_lt_of_le h HB1.out.size, (HB1.out.cell h).trans v1⟩)
 have i0 : 0 < nv := by omega
 have i1 : 1 < nv := by omega
 have i2 : (0 : Int) < (nv : Int) := by omega
 have i3 : (1 : Int) < (nv : Int) := by omega
 clear v0 v1
 clear h1 h2 h3
 go_wp2_with fail
 refine wp_region_noPanic ?_
 refine wp_region_held_drew (S := fun _ => True) (by kernel_rfl) trivial (fun hS => ?_)
 refine held_more (S' := fun w' => Below w1.heap.size w1 w') (fun _ _ => trivial) _ _ _ _ ?_
 replace hS := HWc.out
 refine tkH 0 hS ?_
 refine tkH 1 hS ?_
 refine tkH 2 hS ?_
 refine tkH 3 hS ?_
 refine tkH 4 hS ?_ (hy := fun w hSw => by obtain ⟨p0, p1, p2, p3, p4, p5⟩ := cl6 (HTx.out.1.below hSw HTx.out.1.lt); (go_simp <;> with_reducible rfl))
 refine rdy1 5 fun K hK => ?_
 go_simp
 refine (HC1.out _ (HB1.out.trans (HWc.out.mono HB1.out.size))).mono ?_
 rintro r w5 ⟨rfl, hb⟩
 replace HWc := hHd (HWc.out.trans (hb.mono HWc.out.size))
 clear hb
 go_wp2_with fail
 refine hK.out _ _ ?sr_a (fun hS => ?_)
 case sr_a => (exact HWc.out)
 clear hK K
 (try simp only [Act.put, layS])
 refine tkH 6 hS ?_
 refine tkH 7 hS ?_
 refine tkH 8 hS ?_
 refine tkH 9 hS ?_ (hy := fun w hSw => by obtain ⟨p0, p1, p2, p3, p4, p5⟩ := cl6 (HTx.out.2.below hSw HTx.out.2.lt); (go_simp <;> with_reducible rfl))
 refine rdy1 10 fun K hK => ?_
 go_simp
 refine (HC2.out _ (HB1.out.trans (HWc.out.mono HB1.out.size))).mono ?_
 rintro r w10 ⟨rfl, hb⟩
 replace HWc := hHd (HWc.out.trans (hb.mono HWc.out.size))
 clear hb
 go_wp2_with fail
 refine hK.out _ _ ?sr_b (fun hS => ?_)
 case sr_b => (exact HWc.out)
 clear hK K
 (try simp only [Act.put, layS])
 refine tkH 11 hS ?_
 refine tkH 12 hS ?_
 refine tkH 13 hS ?_
 refine tkH 14 hS ?_
 refine tkH 15 hS ?_
 refine tkH 16 hS ?_ (hy := fun w hSw => by have za := (hSw.cell (p := ⟨xb, xo, none⟩) m0.out.1).trans m0.out.2; (go_simp <;> with_reducible rfl))
 refine tkH 17 hS ?_ (hy := fun w hSw => by obtain ⟨p0, p1, p2, p3, p4, p5⟩ := cl6 (HTx.out.1.below hSw HTx.out.1.lt); (go_simp <;> with_reducible rfl))
 refine rdy1 18 fun K hK => ?_
 go_simp
 refine (HC3.out _ (HB1.out.trans (HWc.out.mono HB1.out.size))).mono ?_
 rintro r w18 ⟨rfl, hb⟩
 replace HWc := hHd (HWc.out.trans (hb.mono HWc.out.size))
 clear hb
 go_wp2_with fail
 refine hK.out _ _ ?sr_c (fun hS => ?_)
 case sr_c => (exact HWc.out)
 clear hK K
 (try simp only [Act.put, layS])
 refine tkH 19 hS ?_
 refine tkH 20 hS ?_
 refine tkH 21 hS ?_
 refine tkH 22 hS ?_
 refine tkH 23 hS ?_
 refine tkH 24 hS ?_ (hy := fun w hSw => by have za := (hSw.cell (p := ⟨xb, xo + 1, none⟩) m1.out.1).trans m1.out.2; (go_simp <;> with_reducible rfl))
 refine tkH 25 hS ?_ (hy := fun w hSw => by obtain ⟨p0, p1, p2, p3, p4, p5⟩ := cl6 (HTx.out.2.below hSw HTx.out.2.lt); (go_simp <;> with_reducible rfl))
 refine rdy1 26 fun K hK => ?_
 go_simp
 refine (HC4.out _ (HB1.out.trans (HWc.out.mono HB1.out.size))).mono ?_
 rintro r w26 ⟨rfl, hb⟩
 replace HWc := hHd (HWc.out.trans (hb.mono HWc.out.size))
 clear hb
 go_wp2_with fail
 refine hK.out _ _ ?sr_d (fun hS => ?_)
 case sr_d => (exact HWc.out)
 clear hK K
 (try simp only [Act.put, layS])
 refine tkH 27 hS ?_
 refine tkH 28 hS ?_
 refine wpAnyH_done (by kernel_rfl) ?_ _
 refine NoPanic.normal ?_
 clear hS
 have HB4 := hHd (HB1.out.trans (HWc.out.mono HB1.out.size))
 have HT4 := hHd (And.intro (HTx.out.1.below HWc.out HTx.out.1.lt) (HTx.out.2.below HWc.out HTx.out.2.lt))
 clear HTx HWc m0 m1 i0 i1 i2 i3
 obtain ⟨p0, p1, p2, p3, p4, p5⟩ := cl6 HT4.out.1
 obtain ⟨q0, q1, q2, q3, q4, q5⟩ := cl6 HT4.out.2
 go_wp2_with fail
 refine (HED.out _ HB4.out).mono ?_
 rintro r w6 ⟨v6, rfl, hv, hb⟩
 obtain ⟨A6, c6, rfl⟩ := hv.shape
 have HB6 := hHd (HB4.out.trans (hb.mono HB4.out.size))
 have HL6 := hHd hv
 clear hv hb p0 p1 p2 p3 p4 p5 q0 q1 q2 q3 q4 q5
 go_wp2_with fail
 refine (HPU.out _ _ HL6.out HB6.out).mono ?_
 rintro r w7 ⟨d7, B7, e7, rfl, hrd, hd, hb⟩
 have HB7 := hHd (HB6.out.trans (hb.mono HB6.out.size))
 have HL7 := hHd (HL6.out.below hb)
 have HRD := hHd (And.intro hrd hd)
 clear hrd hd hb
 go_wp2_with fail
 refine (HGE.out _ _ _ _ HRD.out.1 HRD.out.2 HB7.out).mono ?_
 rintro r w8 ⟨m, rfl, hm, hb⟩
 have HB8 := hHd (HB7.out.trans (hb.mono HB7.out.size))
 have HL8 := hHd (HL7.out.below hb)
 clear hb HRD
 rw [HGX.out] at hm
 rw [HGX.out]
 obtain ⟨M, mc, rfl⟩ := hm.shape
 have HM8 := hHd hm
 clear hm
 go_wp2_with fail
 refine (HCK.out _ _ HL8.out HB8.out).mono ?_
 rintro r w9 ⟨rfl, hb⟩
 have HB9 := hHd (HB8.out.trans (hb.mono HB8.out.size))
 have HSM : Hid (Calls Tryz.prog 14 #[.slice M l.length mc, .slice A6 l.length c6] w9 (Ans9 (.bool true) w9)) := hHd (by have h := rsame16_any l l _ _ w9 (HM8.out.below hb) (HL8.out.below hb) HFE.out HFE.out; rw [same_dec18] at h; exact h)
 clear hb
 go_wp2_with fail
 refine HSM.out.mono ?_
 rintro r w10 ⟨rfl, hb⟩
 have HB10 := hHd (HB9.out.trans (hb.mono HB9.out.size))
 clear hb
 go_wp2_with fail
 go_ret
 exact ⟨rfl, HB10.out⟩
theorem editsTrees_big (nv : Nat) (cv : Nat) (a : NdD) (f : NdF) (A : Option Addr) (c : Nat) (b : NdD) (g : NdF) (B : Option Addr) (d : Nat) (w : World) (HA : Awake18 w) (h1 : ¬ nv < 2) (p : Nat) (C1 : ∀ W, Below w.heap.size w W → Calls Tryz.prog 16 #[.agg (cN a (.slice A f.len c))] W (Ans9 (.int .i64 (p : Int)) W)) (h2 : ¬ 300 < p) (q : Nat) (C2 : ∀ W, Below w.heap.size w W → Calls Tryz.prog 16 #[.agg (cN b (.slice B g.len d))] W (Ans9 (.int .i64 (q : Int)) W)) (h3 : ¬ 300 < q) (xb xo : Nat) (v ve : Int) (v0 : w.cell? ⟨xb, xo, none⟩ = some (.int .i64 v)) (v1 : w.cell? ⟨xb, xo + 1, none⟩ = some (.int .i64 ve)) (ma : Bool) (C3 : ∀ W, Below w.heap.size w W → Calls Tryz.prog 17 #[.int .i64 v, .agg (cN a (.slice A f.len c))] W (Ans9 (.bool ma) W)) (h4 : ma = true) (mb : Bool) (C4 : ∀ W, Below w.heap.size w W → Calls Tryz.prog 17 #[.int .i64 ve, .agg (cN b (.slice B g.len d))] W (Ans9 (.bool mb) W)) (h5 : mb = true) (C : EdtC w) (l : List EdD) (hok : OkL18 l) (hall : l.all okE18 = true) (hed : ∀ W, Below w.heap.size w W → Calls Tryz.prog 18 #[.agg (cN a (.slice A f.len c)), .agg (cN b (.slice B g.len d))] W (InvP l W)) (F : Fo) (hF : F = itsE18 leastB l) (P : List UInt8) (pe : Nat) (hp : putX18 leastB l = (P, pe)) (hpe : pe = 14) (hlen : 8192 < F.all.length) : Calls Tryz.prog 5 #[.slice (some ⟨xb, xo, none⟩) nv cv, .agg (cN a (.slice A f.len c)), .agg (cN b (.slice B g.len d))] w (Ans9 (.bool true) w) := by
 subst h4 h5
 have hx1 : Below w.heap.size w ((w.alloc (.cells (cN a (.slice A f.len c)) 42)).alloc (.cells (cN b (.slice B g.len d)) 42)) := bAl.alloc (by simp) _
 have HAU := hHd (HA _ hx1)
 have HX1 := hHd hx1
 have HBK : Hid (Blk ((w.alloc (.cells (cN a (.slice A f.len c)) 42)).alloc (.cells (cN b (.slice B g.len d)) 42)) w.heap.size 42 (cN a (.slice A f.len c)) ∧ Blk ((w.alloc (.cells (cN a (.slice A f.len c)) 42)).alloc (.cells (cN b (.slice B g.len d)) 42)) (w.heap.size + 1) 42 (cN b (.slice B g.len d))) := hHd ⟨(Blk.new w 42 (cN a (.slice A f.len c))).alloc _, Blk.newA (w := w.alloc (.cells (cN a (.slice A f.len c)) 42)) (by simp) _ _⟩
 clear hx1 HA
 have n1 : decide ((nv : Int) < 2) = false := decide_eq_false (by omega)
 have n2 : decide ((300 : Int) < (p : Int)) = false := decide_eq_false (by omega)
 have n3 : decide ((300 : Int) < (q : Int)) = false := decide_eq_false (by omega)
 have HC1 := hHd C1
 have HC2 := hHd C2
 have HC3 := hHd C3
 have HC4 := hHd C4
 have HED := hHd hed
 have HPL : Hid (P.length ≤ 8192) := hHd (by have h := put_len18 l; rw [hp] at h; exact h)
 have HPU : Hid (∀ W u, EdsV (Bel W) W u l → Below w.heap.size w W → Calls Tryz.prog 9 #[u] W (fun r w' => ∃ d A c, r = .returned (.tuple #[.slice A P.length c, .int .i64 (pe : Int)]) ∧ Rd w' d (.slice A P.length c) P ∧ d < w'.heap.size ∧ Below W.heap.size W w')) := hHd fun W u hu hW => (by have h := C.put l u W hu hok hW; rw [hp] at h; exact h)
 have HGE : Hid (∀ W d B e, Rd W d (.slice B P.length e) P → d < W.heap.size → Below w.heap.size w W → Calls Tryz.prog 13 #[.slice B P.length e] W (GetP18 P W)) := hHd fun W d B e hr hd hW => C.get P _ d W hr (by have := HPL.out; omega) hW
 have HCK : Hid (∀ W u, EdsV (Bel W) W u l → Below w.heap.size w W → Calls Tryz.prog 11 #[u] W (Ans9 (.bool true) W)) := hHd fun W u hu hW => (by have h := C.check l u W hu hok hW; rw [hall] at h; exact h)
 have HIT : Hid (∀ W u, EdsV (Bel W) W u l → Calls Tryz.prog 20 #[u] W (ItsP18 F W)) := hHd fun W u hu => hF ▸ ritems18_any l u W hu hok.1 hok.2.1 (fun e he => List.all_eq_true.1 hall e he)
 have HSZ : Hid (F.sz ≤ 1099511627776) := hHd (hF ▸ hok.2.2.1)
 have HNM := hHd hok.num
 have HFE := hHd hok.few
 have HPE := hHd hp
 clear C1 C2 C3 C4 hed C hok hall hF hp
 have y1 : ((pe : Int) == 14) = true := by simp [hpe]
 have y2 : ((pe : Int) != 0) = true := by simp [hpe]
 have y3 : decide ((8192 : Int) < (F.all.length : Int)) = true := decide_eq_true (by omega)
 have y4 : decide ((8192 : Int) < ((txt F.all).size : Int)) = true := decide_eq_true (by rw [txt_size]; omega)
 have y5 : (8192 : Int) < (F.all.length : Int) := by omega
 have y6 : (8192 : Int) < ((txt F.all).size : Int) := by rw [txt_size]; omega
 clear hpe hlen
 go_enter Tryz.func5, Tryz.ntmps5
 go_wp2_with fail
 refine HAU.out.mono ?_
 rintro r w1 ⟨rfl, hb1⟩
 have HB1 := hHd (HX1.out.trans (hb1.mono HX1.out.size))
 have HTx := hHd (And.intro (HBK.out.1.below hb1 HBK.out.1.lt) (HBK.out.2.below hb1 HBK.out.2.lt))
 have HWc : Hid (Below w1.heap.size w1 w1.drew) := hHd (Below.refl _ _).drew
 clear hb1
 have m0 : Hid (xb < w1.heap.size ∧ w1.cell? ⟨xb, xo, none⟩ = some (.int .i64 v)) := hHd (by
  have h : xb < w.heap.size := World.block_lt_of_cell? _ _ v0
  exact ⟨Nat.lt_of_lt_of_le h HB1.out.size, (HB1.out.cell h).trans v0⟩)
 have m1 : Hid (xb < w1.heap.size ∧ w1.cell? ⟨xb, xo + 1, none⟩ = some (.int .i64 ve)) := hHd (by
  have h : xb < w.heap.size := World.block_lt_of_cell? _ _ v1
  exact ⟨Nat.lt_of_lt_of_le h HB1.out.size, (HB1.out.cell h).trans v1⟩)
 have i0 : 0 < nv := by omega
 have i1 : 1 < nv := by omega
 have i2 : (0 : Int) < (nv : Int) := by omega
 have i3 : (1 : Int) < (nv : Int) := by omega
 clear v0 v1
 clear h1 h2 h3
 go_wp2_with fail
 refine wp_region_noPanic ?_
 refine wp_region_held_drew (S := fun _ => True) (by kernel_rfl) trivial (fun hS => ?_)
 refine held_more (S' := fun w' => Below w1.heap.size w1 w') (fun _ _ => trivial) _ _ _ _ ?_
 replace hS := HWc.out
 refine tkH 0 hS ?_
 refine tkH 1 hS ?_
 refine tkH 2 hS ?_
 refine tkH 3 hS ?_
 refine tkH 4 hS ?_ (hy := fun w hSw => by obtain ⟨p0, p1, p2, p3, p4, p5⟩ := cl6 (HTx.out.1.below hSw HTx.out.1.lt); (go_simp <;> with_reducible rfl))
 refine rdy1 5 fun K hK => ?_
 go_simp
 refine (HC1.out _ (HB1.out.trans (HWc.out.mono HB1.out.size))).mono ?_
 rintro r w5 ⟨rfl, hb⟩
 replace HWc := hHd (HWc.out.trans (hb.mono HWc.out.size))
 clear hb
 go_wp2_with fail
 refine hK.out _ _ ?sr_e (fun hS => ?_)
 case sr_e => (exact HWc.out)
 clear hK K
 (try simp only [Act.put, layS])
 refine tkH 6 hS ?_
 refine tkH 7 hS ?_
 refine tkH 8 hS ?_
 refine tkH 9 hS ?_ (hy := fun w hSw => by obtain ⟨p0, p1, p2, p3, p4, p5⟩ := cl6 (HTx.out.2.below hSw HTx.out.2.lt); (go_simp <;> with_reducible rfl))
 refine rdy1 10 fun K hK => ?_
 go_simp
 refine (HC2.out _ (HB1.out.trans (HWc.out.mono HB1.out.size))).mono ?_
 rintro r w10 ⟨rfl, hb⟩
 replace HWc := hHd (HWc.out.trans (hb.mono HWc.out.size))
 clear hb
 go_wp2_with fail
 refine hK.out _ _ ?sr_f (fun hS => ?_)
 case sr_f => (exact HWc.out)
 clear hK K
 (try simp only [Act.put, layS])
 refine tkH 11 hS ?_
 refine tkH 12 hS ?_
 refine tkH 13 hS ?_
 refine tkH 14 hS ?_
 refine tkH 15 hS ?_
 refine tkH 16 hS ?_ (hy := fun w hSw => by have za := (hSw.cell (p := ⟨xb, xo, none⟩) m0.out.1).trans m0.out.2; (go_simp <;> with_reducible rfl))
 refine tkH 17 hS ?_ (hy := fun w hSw => by obtain ⟨p0, p1, p2, p3, p4, p5⟩ := cl6 (HTx.out.1.below hSw HTx.out.1.lt); (go_simp <;> with_reducible rfl))
 refine rdy1 18 fun K hK => ?_
 go_simp
 refine (HC3.out _ (HB1.out.trans (HWc.out.mono HB1.out.size))).mono ?_
 rintro r w18 ⟨rfl, hb⟩
 replace HWc := hHd (HWc.out.trans (hb.mono HWc.out.size))
 clear hb
 go_wp2_with fail
 refine hK.out _ _ ?sr_g (fun hS => ?_)
 case sr_g => (exact HWc.out)
 clear hK K
 (try simp only [Act.put, layS])
 refine tkH 19 hS ?_
 refine tkH 20 hS ?_
 refine tkH 21 hS ?_
 refine tkH 22 hS ?_
 refine tkH 23 hS ?_
 refine tkH 24 hS ?_ (hy := fun w hSw => by have za := (hSw.cell (p := ⟨xb, xo + 1, none⟩) m1.out.1).trans m1.out.2; (go_simp <;> with_reducible rfl))
 refine tkH 25 hS ?_ (hy := fun w hSw => by obtain ⟨p0, p1, p2, p3, p4, p5⟩ := cl6 (HTx.out.2.below hSw HTx.out.2.lt); (go_simp <;> with_reducible rfl))
 refine rdy1 26 fun K hK => ?_
 go_simp
 refine (HC4.out _ (HB1.out.trans (HWc.out.mono HB1.out.size))).mono ?_
 rintro r w26 ⟨rfl, hb⟩
 replace HWc := hHd (HWc.out.trans (hb.mono HWc.out.size))
 clear hb
 go_wp2_with fail
 refine hK.out _ _ ?sr_h (fun hS => ?_)
 case sr_h => (exact HWc.out)
 clear hK K
 (try simp only [Act.put, layS])
 refine tkH 27 hS ?_
 refine tkH 28 hS ?_
 refine wpAnyH_done (by kernel_rfl) ?_ _
 refine NoPanic.normal ?_
 clear hS
 have HB4 := hHd (HB1.out.trans (HWc.out.mono HB1.out.size))
 have HT4 := hHd (And.intro (HTx.out.1.below HWc.out HTx.out.1.lt) (HTx.out.2.below HWc.out HTx.out.2.lt))
 clear HTx HWc m0 m1 i0 i1 i2 i3
 obtain ⟨p0, p1, p2, p3, p4, p5⟩ := cl6 HT4.out.1
 obtain ⟨q0, q1, q2, q3, q4, q5⟩ := cl6 HT4.out.2
 go_wp2_with fail
 refine (HED.out _ HB4.out).mono ?_
 rintro r w6 ⟨v6, rfl, hv, hb⟩
 obtain ⟨A6, c6, rfl⟩ := hv.shape
 have HB6 := hHd (HB4.out.trans (hb.mono HB4.out.size))
 have HL6 := hHd hv
 clear hv hb p0 p1 p2 p3 p4 p5 q0 q1 q2 q3 q4 q5
 go_wp2_with fail
 refine (HPU.out _ _ HL6.out HB6.out).mono ?_
 rintro r w7 ⟨d7, B7, e7, rfl, hrd, hd, hb⟩
 have HB7 := hHd (HB6.out.trans (hb.mono HB6.out.size))
 have HL7 := hHd (HL6.out.below hb)
 have HRD := hHd (And.intro hrd hd)
 clear hrd hd hb
 go_wp2_with fail
 refine (HGE.out _ _ _ _ HRD.out.1 HRD.out.2 HB7.out).mono ?_
 rintro r w8 ⟨m, rfl, hm, hb⟩
 have HB8 := hHd (HB7.out.trans (hb.mono HB7.out.size))
 have HL8 := hHd (HL7.out.below hb)
 clear hb HRD
 clear hm
 go_wp2_with fail
 refine (HCK.out _ _ HL8.out HB8.out).mono ?_
 rintro r w9 ⟨rfl, hb⟩
 have HB9 := hHd (HB8.out.trans (hb.mono HB8.out.size))
 have HL9 := hHd (HL8.out.below hb)
 clear hb
 go_wp2_with fail
 refine (HIT.out _ _ HL9.out).mono ?_
 rintro r w10 ⟨u, rfl, hu, hb⟩
 have HB10 := hHd (HB9.out.trans (hb.mono HB9.out.size))
 have HAL := hHd (all_any F w10 u ((hu.fv stays_R).kept stays_R (fun _ _ => rfl) (fun g hg => hg.2)) HSZ.out)
 clear hb hu
 go_wp2_with fail
 refine HAL.out.mono ?_
 rintro r w11 ⟨rfl, hb⟩
 have HB11 := hHd (HB10.out.trans (hb.mono HB10.out.size))
 clear hb
 go_wp2_with fail
 go_ret
 exact ⟨rfl, HB11.out⟩
theorem editsTrees_walk (Av : Option Addr) (nv : Nat) (cv : Nat) (zs : List Int) (a : NdD) (f : NdF) (A : Option Addr) (c : Nat) (b : NdD) (g : NdF) (B : Option Addr) (d : Nat) (w : World) (hz : IsRow .i64 w Av nv cv zs)
  (hx : LieN w (ndC a (.slice A f.len c)) (a, f)) (hf : f.size ≤ 999990) (hof : OkF f) (hy : LieN w (ndC b (.slice B g.len d)) (b, g)) (hg : g.size ≤ 999990) (hog : OkF g) (C : EdtC w) (HA : Awake18 w) : Calls Tryz.prog 5 #[.slice Av nv cv, .agg (cN a (.slice A f.len c)), .agg (cN b (.slice B g.len d))] w (Ans9 (.bool true) w) := by
 by_cases h1 : nv < 2
 ·exact editsTrees_few Av nv cv a f A c b g B d w HA h1
 have C1 : ∀ W, Below w.heap.size w W → Calls Tryz.prog 16 #[.agg (cN a (.slice A f.len c))] W (Ans9 (.int .i64 ((f.size + 1 : Nat) : Int)) W) := fun W h => rsizet_any (a, f) _ W (hx.below h) (by unfold Few9; simp only; omega)
 have C2 : ∀ W, Below w.heap.size w W → Calls Tryz.prog 16 #[.agg (cN b (.slice B g.len d))] W (Ans9 (.int .i64 ((g.size + 1 : Nat) : Int)) W) := fun W h => rsizet_any (b, g) _ W (hy.below h) (by unfold Few9; simp only; omega)
 by_cases h2 : 300 < f.size + 1
 ·exact editsTrees_a Av nv cv a f A c b g B d w HA h1 _ C1 h2
 by_cases h3 : 300 < g.size + 1
 ·exact editsTrees_b Av nv cv a f A c b g B d w HA h1 _ C1 h2 _ C2 h3
 obtain ⟨xb, xo, rfl, v, ve, v0, v1⟩ : ∃ xb xo, Av = some ⟨xb, xo, none⟩ ∧ ∃ v ve : Int, w.cell? ⟨xb, xo, none⟩ = some (.int .i64 v) ∧ w.cell? ⟨xb, xo + 1, none⟩ = some (.int .i64 ve) := by
  rcases hz with ⟨_, h, _, _⟩ | ⟨x, hx, h4, _, h5, h6, _⟩
  ·omega
  ·have hs : x.spot = none := World.cell?_spot (by have := h6 0 (by omega); simpa [Addr.add] using this)
   obtain ⟨xb, xo, sp⟩ := x
   have hs : sp = none := hs
   subst hs
   exact ⟨xb, xo, hx, _, _, by have := h6 0 (by omega); simpa [Addr.add] using this, by have := h6 1 (by omega); simpa [Addr.add] using this⟩
 have C3 : ∀ W, Below w.heap.size w W → Calls Tryz.prog 17 #[.int .i64 v, .agg (cN a (.slice A f.len c))] W (Ans9 (.bool (MayX v (a, f))) W) := fun W h => rmay10_any v a f A c W (hx.row9.under h (Nat.le_refl _) h.size) (by omega) hof
 have C4 : ∀ W, Below w.heap.size w W → Calls Tryz.prog 17 #[.int .i64 ve, .agg (cN b (.slice B g.len d))] W (Ans9 (.bool (MayX ve (b, g))) W) := fun W h => rmay10_any ve b g B d W (hy.row9.under h (Nat.le_refl _) h.size) (by omega) hog
 cases h4 : MayX v (a, f) with
 | false => exact editsTrees_ma nv cv a f A c b g B d w HA h1 _ C1 h2 _ C2 h3 xb xo v ve v0 v1 _ C3 h4
 | true =>
  cases h5 : MayX ve (b, g) with
  | false => exact editsTrees_mb nv cv a f A c b g B d w HA h1 _ C1 h2 _ C2 h3 xb xo v ve v0 v1 _ C3 h4 _ C4 h5
  | true =>
   have hok := okl_ed18 h4 h5 hof hog (show f.size ≤ 299 by omega) (show g.size ≤ 299 by omega)
   have hall := may_edits h4 h5
   have hput := may_put (L := leastB) h4 h5
   have hed : ∀ W, Below w.heap.size w W → Calls Tryz.prog 18 #[.agg (cN a (.slice A f.len c)), .agg (cN b (.slice B g.len d))] W (InvP (edF f g []) W) := fun W h => rEdits16_any a b f g A B c d W (hx.below h) (hy.below h) (by omega)
   by_cases h6 : (itsE18 leastB (edF f g [])).all.length ≤ 8192
   ·rw [if_pos h6] at hput
    exact editsTrees_fit nv cv a f A c b g B d w HA h1 _ C1 h2 _ C2 h3 xb xo v ve v0 v1 _ C3 h4 _ C4 h5 C _ hok hall hed _ rfl _ _ hput rfl
   ·rw [if_neg h6] at hput
    exact editsTrees_big nv cv a f A c b g B d w HA h1 _ C1 h2 _ C2 h3 xb xo v ve v0 v1 _ C3 h4 _ C4 h5 C _ hok hall hed _ rfl _ _ hput rfl (Nat.lt_of_not_le h6)
end
end Go.Proofs.YtleidkpdpabkpaaGreatDoor
